import Derived.Test.YthllhabjfchgiaaGreatDoorHs23
set_option maxRecDepth 100000
set_option maxHeartbeats 8000000
set_option linter.unusedSimpArgs false
namespace Go.Proofs.YthllhabjfchgiaaGreatDoor
open _root_.Go.Proofs.Tryz
section
open Go.RowKit Hx
attribute [local go_sem ↓] Go.wp_at_zero Go.wp_at_succ
attribute [local go_sem] kN
section
variable {s:ji}{ex:Ps->Ex×Ps}{d:Nat}{p:Ps}{r:Ex×Ps}{x:Sx}
theorem E5{W y:jk}{o:Obj}(h:W.grownBy y none):W.grownBy (y.alloc o) none:=h.trans (ah y o none)
theorem DX{W y:jk}(h:W.grownBy y none):W.grownBy y.drew none:=h.trans ⟨rfl,rfl,rfl,aj _,λ_ _ _=>rfl⟩
theorem Ko{W y:jk}{k:Nat}(h:W.grownBy y none):W.grownBy (y.drewN k) none:=h.trans (lu y k)
theorem al6{W y:jk}{g j:Nat}{v:jm}(h:W.grownBy y none)(a:W.heap.size<=g):W.grownBy (y.setCell (Ad g j) v) none:=pR h a j v
theorem Oa{y:jk}{o:Obj}{g:Nat}(a:g=y.heap.size):(y.alloc o).heap[g]? =some o:=by rw[a];exact aY y o
theorem N8{y:jk}{o a:Obj}{g:Nat}(h:y.heap[g]? =some o):(y.alloc a).heap[g]? =some o:=(fP y a g (lT h)).trans h
theorem N9{y:jk}{o:Obj}{g:Nat}(h:y.heap[g]? =some o):y.drew.heap[g]? =some o:=h
theorem aia{w:jk}{g cap:Nat}(c d:Int)(b:0<=c/\c<=1000001)(e:0<=d/\d<=1000001)(f:w.cell? (Ad g 0)=some (Im c))(h:w.cell? (Ad g 1)=some (Im d)):Dv w (.slice (some (Ad g 0)) 2 cap) [c,d]:=by
 refine⟨by simp;exact⟨b,e⟩,by simp,je ⟨_,_,rfl,λi y a=>?_⟩⟩
 match i,a with
 |0,a=>cases a;exact f
 |1,a=>cases a;exact h
set_option maxHeartbeats 24000000 in
theorem apA(hs:s.size<=4000)(h:Reader s ex d)(ok:p.Ok s)(hd:Deep (d+1) p)(hb:¬o9 p)(hx:pF x)(kind:Int):DI 278 kind s x p (Ec s ex x kind p):=by
 intro P w lo u hp ac hu ag;have J:=oC ok hb;obtain⟨gb,xb⟩:=Qe h.good J.ok (hd.good J);have HN:Hid (Calls prog 236 #[Pt P 0] w (qN P s w (.agg #[Im p.k.kind,.string p.k.text,Im p.k.at']) (p.next s))):=xQ hp ok hs;have G:Hid (∀y,jR y P s (p.next s)->Calls prog 257 #[Pt P 0] y λe f=>∃u,e=.returned (JV (qm s ex (p.next s)).1.1 u)/\(qm s ex (p.next s)).1.2.here (qm s ex (p.next s)).1.2.at' f y.heap.size f.heap.size u/\jR f P s (qm s ex (p.next s)).2/\y.grownBy f (some P)):=λy t=>abG hs h J.ok (hd.good J) P y t;obtain⟨S,fv,ad,s1,s2,s3⟩:=xu hu;subst ad;have HU:Hid (oZ x w lo w.heap.size (Pt S 0)/\w.heap[S]? =some (.cells #[Im x.at',Im x.jw,.string x.base,Im x.of,fv] 348)):=⟨hu,s3⟩;have E:Hid (pF x/\kT (qm s ex (p.next s)).1.2):=⟨hx,xb⟩;have af:=NS p.k.kind p.k.at' p.k.text;have ab:=hx.jw;have L:=xb.jw;have Q:=tC (x:=x) xb.jw;show Calls prog 278 #[Pt P 0,Pt S 0,Im kind] w λen f=>∃v,en=.returned v/\(qL kind p.k.text x (qm s ex (p.next s)).1).here x.at' f lo f.heap.size v/\jR f P s (qm s ex (p.next s)).2/\w.grownBy f (some P);generalize qm s ex (p.next s)=bq at *;obtain⟨⟨⟨C,B⟩,m⟩,q2⟩:=bq;simp only at G E L Q⊢;have G:Hid (∀y,jR y P s (p.next s)->Calls prog 257 #[Pt P 0] y λe f=>∃u,e=.returned (.agg #[.string C,Im B,u])/\m.here m.at' f y.heap.size f.heap.size u/\jR f P s q2/\y.grownBy f (some P)):=G.out;generalize p.next s=q at *;generalize p.k.kind=kk at *;generalize p.k.text=kt at *;generalize p.k.at'=ka at *
 clear hp hu s3 hx xb ok hd hb J gb h;go_enter func278,ntmps278;go_wp2_with fail;refine HN.out.mono ?_;rintro e w1 ⟨rfl,p1,q1⟩;have Y:Hid (jR w1 P s q/\w.grownBy w1 (some P)):=⟨p1,q1⟩;clear p1 q1 HN;go_wp2_with fail;refine(G.out _ Y.out.1).mono ?_;rintro e c ⟨ub,rfl,H,p2,I⟩;obtain⟨A,g,ae,ai,b1,b2,b3⟩:=E.out.2.sH H;subst ae;have i:Hid (m.here m.at' c w1.heap.size c.heap.size (.iface A (Pt g 0))/\jR c P s q2/\w1.grownBy c (some P)):=⟨H,p2,I⟩;clear H p2 I G;go_upto_region 3 with fail;have l:(c.alloc (.cells #[.string C,Im B,.iface A (Pt g 0)] 361)).heap[c.heap.size]? =some (.cells #[.string C,Im B,.iface A (Pt g 0)] 361):=aY _ _;have n:c.grownBy (c.alloc (.cells #[.string C,Im B,.iface A (Pt g 0)] 361)) none:=ah _ _ none;generalize hW:c.alloc (.cells #[.string C,Im B,.iface A (Pt g 0)] 361)=W at *;clear hW;have j:W.heap[S]? =some (.cells #[Im x.at',Im x.jw,.string x.base,Im x.of,fv] 348):=((Y.out.2.trans (i.out.2.2.trans (n.but _))).block S s2 (by simp;omega)).trans HU.out.2;have K:W.cell? (Ad g 1)=some (Im m.jw):=n.cell b3 (by simp);have l1:=lT j;have l2:g<W.heap.size:=by have:=n.size;omega
 have l3:=lT l;have c0:W.cell? (Ad S 0)=some (Im x.at'):=jG j;have c1:W.cell? (Ad S 1)=some (Im x.jw):=jG j;have c3:W.cell? (Ad S 3)=some (Im x.of):=jG j;have g0:W.cell? (Ad c.heap.size 0)=some (.string C):=jG l;have g1:W.cell? (Ad c.heap.size 1)=some (Im B):=jG l;have I:W.cell? (Ad c.heap.size 2)=some (.iface A (Pt g 0)):=jG l;have O1:Hid (∀y,W.grownBy y none->y.cell? (Ad S 1)=some (Im x.jw)):=λy t=>t.cell c1 (by simp);have O3:Hid (∀y,W.grownBy y none->y.cell? (Ad S 3)=some (Im x.of)):=λy t=>t.cell c3 (by simp);have OA:Hid (∀y,W.grownBy y none->y.cell? (Ad g 1)=some (Im m.jw)):=λy t=>t.cell K (by simp);have aa:Hid (c.grownBy W none/\W.heap[c.heap.size]? =some (.cells #[.string C,Im B,.iface A (Pt g 0)] 361)/\W.heap[S]? =some (.cells #[Im x.at',Im x.jw,.string x.base,Im x.of,fv] 348)):=⟨n,l,j⟩;clear n l j K b3;have ao:S<W.heap.size+1:=by omega
 have Sm:c.heap.size<W.heap.size+1:=by omega
 have ap:S<W.heap.size+1+1:=by omega
 have ak:c.heap.size<W.heap.size+1+1:=by omega
 have az:S<W.heap.size+2:=by omega
 have av:c.heap.size<W.heap.size+2:=by omega
 have aq:S<W.heap.size+1+1+1:=by omega
 have al:c.heap.size<W.heap.size+1+1+1:=by omega
 have aA:S<W.heap.size+3:=by omega
 have aw:c.heap.size<W.heap.size+3:=by omega
 have ar:S<W.heap.size+1+1+1+1:=by omega
 have am:c.heap.size<W.heap.size+1+1+1+1:=by omega
 have aB:S<W.heap.size+4:=by omega
 have ax:c.heap.size<W.heap.size+4:=by omega
 have au:S<W.heap.size+1+1+1+1+1:=by omega
 have an:c.heap.size<W.heap.size+1+1+1+1+1:=by omega
 have aC:S<W.heap.size+5:=by omega
 have ay:c.heap.size<W.heap.size+5:=by omega
 generalize V:x.at'=xa at *;generalize X:x.jw=z at *;generalize M:m.jw=D at *;have Ur:Hid (x.at'=xa/\x.jw=z/\m.jw=D):=⟨V,X,M⟩;have N:0<=z/\z<=1000001:=ab;clear V X M;obtain⟨o1,o2,U⟩:∃o1 o2:Obj,∀y:jk,y.cell? (Ad S 3)=some (Im x.of)->Calls prog 245 #[Pt S 0,Im D] y λe f=>e=.returned (Im (x.round D))/\f=(y.alloc o1).alloc o2:=⟨_,_,λy t=>SL (x:=x) (S:=S) t D L⟩;have EJ:Hid (∀y:jk,W.grownBy y none->Calls prog 245 #[Pt S 0,Im D] y λe f=>e=.returned (Im (x.round D))/\f=(y.alloc o1).alloc o2):=λy t=>U y (O3.out y t);clear U O3;generalize R:x.round D=F at *;have PL:Hid (F=x.round D):=R.symm;clear R;go_cut [9] (λpz wx=>∃Z,pz=Pt Z 0/\wx.heap[Z]? =some (.cells #[Im xa,Im (jS [z,F])] 323)/\W.grownBy wx none)
 case first=>
  go_region_with (first
   |(go_at_call 244;refine(uq S 0 z (O1.out _ (by repeat (first|exact aN _ _|refine E5 ?_|refine DX ?_|refine Ko ?_)))).mono ?_;rintro e f ⟨rfl,rfl⟩)
   |(go_at_call 244;refine(uq g 0 D (OA.out _ (by repeat (first|exact aN _ _|refine E5 ?_|refine DX ?_|refine Ko ?_)))).mono ?_;rintro e f ⟨rfl,rfl⟩)
   |(go_at_call 245;refine(EJ.out _ (by repeat (first|exact aN _ _|refine E5 ?_|refine DX ?_|refine Ko ?_))).mono ?_;rintro e f ⟨rfl,rfl⟩)
   |(go_at_call 234;refine(KT xa _ [z,F] (aia z F N Q (jG (a:=#[Im z,Im F]) (T:=3) (by repeat (first|(with_reducible refine Oa ?_;simp only[oz];done)|with_reducible refine N9 ?_|with_reducible refine N8 ?_))) (jG (a:=#[Im z,Im F]) (T:=3) (by repeat (first|(with_reducible refine Oa ?_;simp only[oz];done)|with_reducible refine N9 ?_|with_reducible refine N8 ?_))))).mono ?_;rintro e f ⟨rfl,rfl⟩))
  all_goals (go_wp2_with fail;go_meet;exact⟨_,rfl,(by repeat (first|(with_reducible refine Oa ?_;simp only[oz];done)|with_reducible refine Ei _ _ _ _ _ _ _ ?_|with_reducible refine N9 ?_|with_reducible refine N8 ?_)),(by repeat (first|exact aN _ _|(with_reducible refine al6 ?_ (by omega))|with_reducible refine E5 ?_|with_reducible refine DX ?_|with_reducible refine Ko ?_))⟩)
 case rest=>
  obtain⟨Z,rfl,hz,O⟩:=hcut;have z0:wc.cell? (Ad Z 0)=some (Im xa):=jG hz;have z1:wc.cell? (Ad Z 1)=some (Im (jS [z,F])):=jG hz;have k0:wc.cell? (Ad c.heap.size 0)=some (.string C):=O.cell g0 (by simp);have k1:wc.cell? (Ad c.heap.size 1)=some (Im B):=O.cell g1 (by simp);have k2:wc.cell? (Ad c.heap.size 2)=some (.iface A (Pt g 0)):=O.cell I (by simp);have HG:Hid (W.grownBy wc none):=O;clear hz O c0 c1 g0 g1 I;have HF:Hid (∀o,o=Obj.cells #[Im xa,Im (jS [z,F]),Im kind,.string kt,Pt S 0,.string C,Im B,.iface A (Pt g 0)] 415->(qL kind kt x (⟨C,B⟩,m)).here x.at' (wc.alloc o) lo (wc.alloc o).heap.size (.iface 413 (Pt wc.heap.size 0))/\jR (wc.alloc o) P s q2/\w.grownBy (wc.alloc o) (some P)):=λo ho=>by
   obtain⟨e1,H,e3⟩:=Ur.out;have gA:c.grownBy wc none:=aa.out.1.trans HG.out;have gf:=gA.trans (ah wc o none);have s0:=Y.out.2.size;have s4:=i.out.2.2.size;have s5:=gA.size;have hK:yC (oZ x) (m.here m.at') wc lo wc.heap.size [Pt S 0,.iface A (Pt g 0)]:=by
    refine⟨w1.heap.size,_,_,rfl,by omega,by omega,?_,?_⟩
    .exact E.out.1.law.wide _ _ _ _ _ _ (E.out.1.keep HU.out.1 ac (aj _) (Y.out.2.trans (i.out.2.2.trans (gA.but _)))) (aj _) s0
    .exact(E.out.2.law _).wide _ _ _ _ _ _ ((E.out.2.law _).loc _ _ _ _ _ i.out.1 (λb _ hb=>gA.block b hb (by simp))) (aj _) s5
   refine⟨La (wU E.out.1.law (E.out.2.law _)) hK (by omega) x.at' ?_,i.out.2.1.grow gf,(Y.out.2.trans i.out.2.2).trans (gf.but _)⟩;rw[ho,PL.out,<-e1,<-H,<-e3]
   rfl
  go_wp2_with fail;go_ret;exact⟨_,rfl,HF.out _ rfl⟩
end
end
end Go.Proofs.YthllhabjfchgiaaGreatDoor
