import Derived.Test.YthllhabjfchgiaaGreatDoorHk23
set_option maxRecDepth 100000
set_option maxHeartbeats 8000000
set_option linter.unusedSimpArgs false
namespace Go.Proofs.YthllhabjfchgiaaGreatDoor
open _root_.Go.Proofs.Tryz
section
open Go.RowKit Hx
attribute [local go_sem ↓] Go.wp_at_zero Go.wp_at_succ
attribute [local go_sem] kP
section
variable {s:ji}{ex:Ps->Ex×Ps}{d:Nat}{p:Ps}{r:Ex×Ps}{x:Sx}
theorem Em{W y:jk}{o:Obj}(h:W.grownBy y none):W.grownBy (y.alloc o) none:=h.trans (ah y o none)
theorem Dj{W y:jk}(h:W.grownBy y none):W.grownBy y.drew none:=h.trans ⟨rfl,rfl,rfl,aj _,λ_ _ _=>rfl⟩
theorem Jm{W y:jk}{k:Nat}(h:W.grownBy y none):W.grownBy (y.drewN k) none:=h.trans (lK y k)
theorem akP{W y:jk}{g j:Nat}{v:jm}(h:W.grownBy y none)(hg:W.heap.size<=g):W.grownBy (y.setCell (Ad g j) v) none:=pK h hg j v
theorem Md{y:jk}{o:Obj}{g:Nat}(hg:g=y.heap.size):(y.alloc o).heap[g]? =some o:=by rw[hg];exact aY y o
theorem L8{y:jk}{o o':Obj}{g:Nat}(h:y.heap[g]? =some o):(y.alloc o').heap[g]? =some o:=(fP y o' g (lY h)).trans h
theorem L9{y:jk}{o:Obj}{g:Nat}(h:y.heap[g]? =some o):y.drew.heap[g]? =some o:=h
theorem agQ{w:jk}{g cap:Nat}(c d:Int)(h0:0<=c/\c<=1000001)(h1:0<=d/\d<=1000001)(k0:w.cell? (Ad g 0)=some (Im c))(k1:w.cell? (Ad g 1)=some (Im d)):CU w (.slice (some (Ad g 0)) 2 cap) [c,d]:=by
 refine⟨by simp;exact⟨h0,h1⟩,by simp,je ⟨_,_,rfl,λi y hy=>?_⟩⟩
 match i,hy with
 |0,hy=>cases hy;exact k0
 |1,hy=>cases hy;exact k1
set_option maxHeartbeats 24000000 in
theorem an7(hs:s.size<=4000)(h:Reader s ex d)(ok:p.Ok s)(hd:Deep (d+1) p)(hb:¬o9 p)(hx:pq x)(kind:Int):CZ 278 kind s x p (FY s ex x kind p):=by
 intro P w lo u hp hlt hu hlo;have gn:=nZ ok hb;obtain⟨gb,xb⟩:=Oq h.good gn.ok (hd.good gn);have HN:Hid (Calls prog 236 #[Pt P 0] w (qO P s w (.agg #[Im p.k.kind,.string p.k.text,Im p.k.at']) (p.next s))):=xw hp ok hs;have HB:Hid (∀y,jQ y P s (p.next s)->Calls prog 257 #[Pt P 0] y λe w'=>∃u,e=.returned (I8 (qP s ex (p.next s)).1.1 u)/\(qP s ex (p.next s)).1.2.here (qP s ex (p.next s)).1.2.at' w' y.heap.size w'.heap.size u/\jQ w' P s (qP s ex (p.next s)).2/\y.grownBy w' (some P)):=λy hy=>aaf hs h gn.ok (hd.good gn) P y hy;obtain⟨S,fv,hu1,s1,s2,s3⟩:=wR hu;subst hu1;have HU:Hid (oW x w lo w.heap.size (Pt S 0)/\w.heap[S]? =some (.cells #[Im x.at',Im x.jw,.string x.base,Im x.of,fv] 348)):=⟨hu,s3⟩;have HX:Hid (pq x/\kV (qP s ex (p.next s)).1.2):=⟨hx,xb⟩;have hft:=LQ p.k.kind p.k.at' p.k.text;have hcb:=hx.jw;have hbb:=xb.jw;have hrb:=uo (x:=x) xb.jw;show Calls prog 278 #[Pt P 0,Pt S 0,Im kind] w λen w'=>∃v,en=.returned v/\(uY kind p.k.text x (qP s ex (p.next s)).1).here x.at' w' lo w'.heap.size v/\jQ w' P s (qP s ex (p.next s)).2/\w.grownBy w' (some P);generalize qP s ex (p.next s)=bq at *;obtain⟨⟨⟨dt,da⟩,be⟩,q2⟩:=bq;simp only at HB HX hbb hrb⊢;have HB:Hid (∀y,jQ y P s (p.next s)->Calls prog 257 #[Pt P 0] y λe w'=>∃u,e=.returned (.agg #[.string dt,Im da,u])/\be.here be.at' w' y.heap.size w'.heap.size u/\jQ w' P s q2/\y.grownBy w' (some P)):=HB.out;generalize p.next s=q at *;generalize p.k.kind=kk at *;generalize p.k.text=kt at *;generalize p.k.at'=ka at *
 clear hp hu s3 hx xb ok hd hb gn gb h;go_enter func278,ntmps278;go_wp2_with fail;refine HN.out.mono ?_;rintro e w1 ⟨rfl,p1,q1⟩;have kJ:Hid (jQ w1 P s q/\w.grownBy w1 (some P)):=⟨p1,q1⟩;clear p1 q1 HN;go_wp2_with fail;refine(HB.out _ kJ.out.1).mono ?_;rintro e w2 ⟨ub,rfl,e2,p2,g2⟩;obtain⟨T2,A2,hv2,hm2,b1,b2,b3⟩:=HX.out.2.rZ e2;subst hv2;have HP2:Hid (be.here be.at' w2 w1.heap.size w2.heap.size (.iface T2 (Pt A2 0))/\jQ w2 P s q2/\w1.grownBy w2 (some P)):=⟨e2,p2,g2⟩;clear e2 p2 g2 HB;go_upto_region 3 with fail;have hgb:(w2.alloc (.cells #[.string dt,Im da,.iface T2 (Pt A2 0)] 361)).heap[w2.heap.size]? =some (.cells #[.string dt,Im da,.iface T2 (Pt A2 0)] 361):=aY _ _;have hgW:w2.grownBy (w2.alloc (.cells #[.string dt,Im da,.iface T2 (Pt A2 0)] 361)) none:=ah _ _ none;generalize hW:w2.alloc (.cells #[.string dt,Im da,.iface T2 (Pt A2 0)] 361)=W at *;clear hW;have hSW:W.heap[S]? =some (.cells #[Im x.at',Im x.jw,.string x.base,Im x.of,fv] 348):=((kJ.out.2.trans (HP2.out.2.2.trans (hgW.but _))).block S s2 (by simp;omega)).trans HU.out.2;have hAW:W.cell? (Ad A2 1)=some (Im be.jw):=hgW.cell b3 (by simp);have l1:=lY hSW;have l2:A2<W.heap.size:=by have:=hgW.size;omega
 have l3:=lY hgb;have c0:W.cell? (Ad S 0)=some (Im x.at'):=jI hSW;have c1:W.cell? (Ad S 1)=some (Im x.jw):=jI hSW;have c3:W.cell? (Ad S 3)=some (Im x.of):=jI hSW;have g0:W.cell? (Ad w2.heap.size 0)=some (.string dt):=jI hgb;have g1:W.cell? (Ad w2.heap.size 1)=some (Im da):=jI hgb;have g2:W.cell? (Ad w2.heap.size 2)=some (.iface T2 (Pt A2 0)):=jI hgb;have O1:Hid (∀y,W.grownBy y none->y.cell? (Ad S 1)=some (Im x.jw)):=λy hy=>hy.cell c1 (by simp);have O3:Hid (∀y,W.grownBy y none->y.cell? (Ad S 3)=some (Im x.of)):=λy hy=>hy.cell c3 (by simp);have OA:Hid (∀y,W.grownBy y none->y.cell? (Ad A2 1)=some (Im be.jw)):=λy hy=>hy.cell hAW (by simp);have HGW:Hid (w2.grownBy W none/\W.heap[w2.heap.size]? =some (.cells #[.string dt,Im da,.iface T2 (Pt A2 0)] 361)/\W.heap[S]? =some (.cells #[Im x.at',Im x.jw,.string x.base,Im x.of,fv] 348)):=⟨hgW,hgb,hSW⟩;clear hgW hgb hSW hAW b3;have pS1:S<W.heap.size+1:=by omega
 have Qx:w2.heap.size<W.heap.size+1:=by omega
 have pS2:S<W.heap.size+1+1:=by omega
 have pG2:w2.heap.size<W.heap.size+1+1:=by omega
 have rS2:S<W.heap.size+2:=by omega
 have rG2:w2.heap.size<W.heap.size+2:=by omega
 have pS3:S<W.heap.size+1+1+1:=by omega
 have pG3:w2.heap.size<W.heap.size+1+1+1:=by omega
 have rS3:S<W.heap.size+3:=by omega
 have rG3:w2.heap.size<W.heap.size+3:=by omega
 have pS4:S<W.heap.size+1+1+1+1:=by omega
 have pG4:w2.heap.size<W.heap.size+1+1+1+1:=by omega
 have rS4:S<W.heap.size+4:=by omega
 have rG4:w2.heap.size<W.heap.size+4:=by omega
 have pS5:S<W.heap.size+1+1+1+1+1:=by omega
 have pG5:w2.heap.size<W.heap.size+1+1+1+1+1:=by omega
 have rS5:S<W.heap.size+5:=by omega
 have rG5:w2.heap.size<W.heap.size+5:=by omega
 generalize hxa:x.at'=xa at *;generalize hxc:x.jw=xc at *;generalize hbc:be.jw=bc at *;have Sl:Hid (x.at'=xa/\x.jw=xc/\be.jw=bc):=⟨hxa,hxc,hbc⟩;have hcb2:0<=xc/\xc<=1000001:=hcb;clear hxa hxc hbc;obtain⟨o1,o2,hro⟩:∃o1 o2:Obj,∀y:jk,y.cell? (Ad S 3)=some (Im x.of)->Calls prog 245 #[Pt S 0,Im bc] y λe w'=>e=.returned (Im (x.round bc))/\w'=(y.alloc o1).alloc o2:=⟨_,_,λy hy=>QJ (x:=x) (S:=S) hy bc hbb⟩;have DZ:Hid (∀y:jk,W.grownBy y none->Calls prog 245 #[Pt S 0,Im bc] y λe w'=>e=.returned (Im (x.round bc))/\w'=(y.alloc o1).alloc o2):=λy hy=>hro y (O3.out y hy);clear hro O3;generalize hrc:x.round bc=rc at *;have HRC:Hid (rc=x.round bc):=hrc.symm;clear hrc;go_cut [9] (λpz wx=>∃Z,pz=Pt Z 0/\wx.heap[Z]? =some (.cells #[Im xa,Im (jR [xc,rc])] 323)/\W.grownBy wx none)
 case first=>
  go_region_with (first
   |(go_at_call 244;refine(uh S 0 xc (O1.out _ (by repeat (first|exact aN _ _|refine Em ?_|refine Dj ?_|refine Jm ?_)))).mono ?_;rintro e w' ⟨rfl,rfl⟩)
   |(go_at_call 244;refine(uh A2 0 bc (OA.out _ (by repeat (first|exact aN _ _|refine Em ?_|refine Dj ?_|refine Jm ?_)))).mono ?_;rintro e w' ⟨rfl,rfl⟩)
   |(go_at_call 245;refine(DZ.out _ (by repeat (first|exact aN _ _|refine Em ?_|refine Dj ?_|refine Jm ?_))).mono ?_;rintro e w' ⟨rfl,rfl⟩)
   |(go_at_call 234;refine(JI xa _ [xc,rc] (agQ xc rc hcb2 hrb (jI (a:=#[Im xc,Im rc]) (T:=3) (by repeat (first|(with_reducible refine Md ?_;simp only[nX];done)|with_reducible refine L9 ?_|with_reducible refine L8 ?_))) (jI (a:=#[Im xc,Im rc]) (T:=3) (by repeat (first|(with_reducible refine Md ?_;simp only[nX];done)|with_reducible refine L9 ?_|with_reducible refine L8 ?_))))).mono ?_;rintro e w' ⟨rfl,rfl⟩))
  all_goals (go_wp2_with fail;go_meet;exact⟨_,rfl,(by repeat (first|(with_reducible refine Md ?_;simp only[nX];done)|with_reducible refine Dy _ _ _ _ _ _ _ ?_|with_reducible refine L9 ?_|with_reducible refine L8 ?_)),(by repeat (first|exact aN _ _|(with_reducible refine akP ?_ (by omega))|with_reducible refine Em ?_|with_reducible refine Dj ?_|with_reducible refine Jm ?_))⟩)
 case rest=>
  obtain⟨Z,rfl,hz,hg⟩:=hcut;have z0:wc.cell? (Ad Z 0)=some (Im xa):=jI hz;have z1:wc.cell? (Ad Z 1)=some (Im (jR [xc,rc])):=jI hz;have k0:wc.cell? (Ad w2.heap.size 0)=some (.string dt):=hg.cell g0 (by simp);have k1:wc.cell? (Ad w2.heap.size 1)=some (Im da):=hg.cell g1 (by simp);have k2:wc.cell? (Ad w2.heap.size 2)=some (.iface T2 (Pt A2 0)):=hg.cell g2 (by simp);have HG:Hid (W.grownBy wc none):=hg;clear hz hg c0 c1 g0 g1 g2;have HF:Hid (∀o,o=Obj.cells #[Im xa,Im (jR [xc,rc]),Im kind,.string kt,Pt S 0,.string dt,Im da,.iface T2 (Pt A2 0)] 415->(uY kind kt x (⟨dt,da⟩,be)).here x.at' (wc.alloc o) lo (wc.alloc o).heap.size (.iface 413 (Pt wc.heap.size 0))/\jQ (wc.alloc o) P s q2/\w.grownBy (wc.alloc o) (some P)):=λo ho=>by
   obtain⟨e1,e2,e3⟩:=Sl.out;have gA:w2.grownBy wc none:=HGW.out.1.trans HG.out;have gf:=gA.trans (ah wc o none);have s0:=kJ.out.2.size;have s4:=HP2.out.2.2.size;have s5:=gA.size;have hK:xY (oW x) (be.here be.at') wc lo wc.heap.size [Pt S 0,.iface T2 (Pt A2 0)]:=by
    refine⟨w1.heap.size,_,_,rfl,by omega,by omega,?_,?_⟩
    .exact HX.out.1.law.wide _ _ _ _ _ _ (HX.out.1.keep HU.out.1 hlt (aj _) (kJ.out.2.trans (HP2.out.2.2.trans (gA.but _)))) (aj _) s0
    .exact(HX.out.2.law _).wide _ _ _ _ _ _ ((HX.out.2.law _).loc _ _ _ _ _ HP2.out.1 (λb _ hb=>gA.block b hb (by simp))) (aj _) s5
   refine⟨JQ (wJ HX.out.1.law (HX.out.2.law _)) hK (by omega) x.at' ?_,HP2.out.2.1.grow gf,(kJ.out.2.trans HP2.out.2.2).trans (gf.but _)⟩;rw[ho,HRC.out,<-e1,<-e2,<-e3]
   rfl
  go_wp2_with fail;go_ret;exact⟨_,rfl,HF.out _ rfl⟩
end
end
end Go.Proofs.YthllhabjfchgiaaGreatDoor
