import Derived.Test.YthllhabjfchgiaaGreatDoorHk21
set_option maxRecDepth 100000
set_option maxHeartbeats 8000000
set_option linter.unusedSimpArgs false
namespace Go.Proofs.YthllhabjfchgiaaGreatDoor
open _root_.Go.Proofs.Tryz
section
open Go.RowKit Hx
attribute [local go_sem ↓] Go.wp_at_zero Go.wp_at_succ
attribute [local go_sem] kP
section
theorem nX(w:jk)(o:Obj):(w.alloc o).heap.size=w.heap.size+1:=eY ..
theorem JQ{T' T:jo}{at' jw kind:Int}{K:Hx.Kids}{mk:List jm->List jm}{dn:Dn}(hK:yK K){w:jk}{lo:Nat}{us:List jm}(h:K w lo w.heap.size us)(hlo:lo<=w.heap.size)(a:Int){o:Obj}
 (ho:o=.cells (Im a::Im jw::Im kind::mk us).toArray T):(rE T' T at' jw kind K mk dn).here a (w.alloc o) lo (w.alloc o).heap.size (.iface T' (Pt w.heap.size 0)):=by
 subst ho;refine⟨w.heap.size,us,rfl,hlo,by rw[nX];omega,hK.loc _ _ _ _ _ h (λb _ b2=>fP _ _ _ b2),aY _ _⟩
theorem kV.rZ{e:Ex}(h:kV e){a:Int}{w:jk}{lo hi:Nat}{v:jm}(hh:e.here a w lo hi v):
 ∃T b,v=.iface T (Pt b 0)/\(∀w,(method 576 T (Pt b 0) "helm/lang.price").run prog w=.ok (244,Pt b 0) w)/\lo<=b/\b<hi/\w.cell? (Ad b 1)=some (Im e.jw):=by
 obtain⟨T,b,h1,h2,h3,h4,h5,h6,h7⟩:=h.head _ _ _ _ _ hh;exact⟨T,b,h1,h2.rZ b,h3,h4,h6⟩
variable {s:ji}{ex:Ps->Ex×Ps}{d:Nat}{p:Ps}{r:Ex×Ps}
theorem Vj(hq:mV 269 [] s p r)(h1:p.is [45]=false)(h2:p.is [33]=false):mV 265 [] s p r:=by
 intro P w h;have HQ:Hid (∀n,Calls prog 269 #[Pt P 0] (w.drewN n) λe w'=>∃v,e=.returned v/\r.1.here r.1.at' w' w.heap.size w'.heap.size v/\jQ w' P s r.2/\w.grownBy w' (some P)):=λn=>by
  refine(hq P (w.drewN n) (h.grow (lK _ n))).mono ?_;rintro e w' ⟨v,e1,e2,e3,e4⟩;exact⟨v,e1,e2,e3,((lK w n).but _).trans e4⟩
 have c2:=kG.c2 h;have c3:=kG.c3 h;have t1:(p.k.text.toList==[45])=false:=by rw[aZ];exact h1
 have t2:(p.k.text.toList==[33])=false:=by rw[aZ];exact h2
 clear h hq h1 h2;go_enter func265,ntmps265;go_wp2_with fail;go_quiet (fail);go_wp2_with fail;refine(HQ.out _).mono ?_;rintro e w2 ⟨v,rfl,h3⟩;have HH:=jA h3;clear h3 HQ;go_wp2_with fail;go_ret;exact⟨_,rfl,HH.out⟩
theorem adE(hs:s.size<=4000)(ok:p.Ok s)(hq:mV 265 [] s (p.next s) r)(hx:kV r.1)(kind:Int)(hk:(p.is [45]=true/\kind=1)\/(p.is [45]=false/\p.is [33]=true/\kind=2)):
 mV 265 [] s p (oV p.k.at' kind p.k.text r.1,r.2):=by
 intro P w h;have hlt:=h.lt;have HN:Hid (∀n,Calls prog 236 #[Pt P 0] (w.drewN n) (qO P s w (xJ p.k) (p.next s))):=λn=>by
  refine(xw (h.grow (lK w n)) ok hs).mono ?_;rintro e w' ⟨e1,e2,e3⟩;exact⟨e1,e2,((lK w n).but _).trans e3⟩
 have HQ:=jA (λx (hx:jQ x P s (p.next s))=>hq P x hx);have c2:=kG.c2 h;have c3:=kG.c3 h;have HX:=jA hx;have hE:(oV p.k.at' kind p.k.text r.1).here=(rE 379 381 p.k.at' (jR [r.1.jw]) kind (og (r.1.here r.1.at')) (λus=>.string p.k.text::us)).here:=rfl;have HE:=jA hE;have hat:(oV p.k.at' kind p.k.text r.1).at'=p.k.at':=rfl;have hk1:((p.k.text.toList==[45])=true/\kind=1)\/((p.k.text.toList==[45])=false/\(p.k.text.toList==[33])=true/\kind=2):=by rw[aZ];exact hk
 rw[hE];generalize p.next s=q at *;generalize p.k.text=kt at *;generalize p.k.at'=ka at *;have HK:Hid (yK (og (r.1.here r.1.at'))):=qW (hx.law _);clear h hq hx hE HE hat hk ok;rcases hk1 with⟨t1,rfl⟩|⟨t1,t2,rfl⟩;all_goals
  go_enter func265,ntmps265;go_wp2_with fail;go_quiet (fail);go_wp2_with fail;refine(HN.out _).mono ?_;rintro e w1 ⟨rfl,p1,g1⟩;have kJ:=jA (jd p1 g1);clear p1 g1 HN;go_wp2_with fail;refine(HQ.out _ kJ.out.1).mono ?_;rintro e w2 ⟨v,rfl,e2,p2,g2⟩;obtain⟨T,A,rfl,hmp,b1,b2,a1⟩:=HX.out.rZ e2;have HP2:=jA (jd e2 (jd p2 g2));have zA:=jA (uh A 0 _ a1);clear e2 p2 g2 HQ;go_wp2_with fail;refine zA.out.mono ?_;rintro e w3 ⟨rfl,rfl⟩;go_wp2_with fail;refine(zS ka _ [r.1.jw] (VB w3 _ r.1.jw HX.out.jw.1 HX.out.jw.2)).mono ?_;rintro e w4 ⟨rfl,g4⟩;have wF:=jA ((ah w3 _ none).trans g4);clear g4;have HU:Hid (og (r.1.here r.1.at') w4 w.heap.size w4.heap.size [.iface T (Pt A 0)]/\w.heap.size<=w4.heap.size):=by
   have s1:=kJ.out.2.size;have s2:=HP2.out.2.2.size;have s3:=wF.out.size;exact⟨⟨_,rfl,(HX.out.law _).wide _ _ _ _ _ _ ((HX.out.law _).loc _ _ _ _ _ HP2.out.1 (λb _ hb=>wF.out.block b hb (by simp))) s1 s3⟩,by omega⟩
  have KH:Hid (∀o,jQ (w4.alloc o) P s r.2/\w.grownBy (w4.alloc o) (some P)):=λo=>
   ⟨HP2.out.2.1.grow (wF.out.trans (ah w4 o none)),(kJ.out.2.trans HP2.out.2.2).trans ((wF.out.trans (ah w4 o none)).but _)⟩
  go_wp2_with fail;go_ret;exact⟨_,rfl,JQ HK.out HU.out.1 HU.out.2 ka rfl,KH.out _⟩
theorem Vk(hs:s.size<=4000)(h:qI s ex d)(n:Nat)(hb:∀p,p.Ok s->Deep (d+1) p->mV 269 [] s p (Ak s ex n p)):
 ∀(m:Nat)(p:Ps),p.Ok s->Deep (d+1) p->(s.size:Int)-p.k.at'<=m->mV 265 [] s p (qG s ex n m p)
 |0,p,ok,hd,hm=>by
  have he:p.k.text=⟨#[]⟩:=by
   have h1:=ok.tok.bd;have h2:=ok.tok.yR;have h3:p.k.text.size=0:=by omega
   have h4:=h3;exact iZ (fO h4)
  exact Vj (hb p ok hd) (by unfold Hx.Ps.is;rw[he];rfl) (by unfold Hx.Ps.is;rw[he];rfl)
 |m+1,p,ok,hd,hm=>by
  unfold qG;have hnx:p.is [45]=true\/p.is [33]=true->1<=p.k.text.size:=by
   intro h;by_cases h0:p.k.text.size=0
   .have h4:=h0;have he:p.k.text=⟨#[]⟩:=iZ (fO h4);unfold Hx.Ps.is at h;rw[he]at h;rcases h with h|h<;>cases h
   .omega
  have hat:=F6 ok;split
  .rename_i h1;have g1:=nZ ok (oU (by simp) h1);have:=hnx (jf h1);have hr:=Vk hs h n hb m (p.next s) g1.ok (hd.good g1) (by omega);exact adE hs ok hr (Nj h n m _ g1.ok (hd.good g1)).2 1 (jf ⟨h1,rfl⟩)
  .rename_i h1;split
   .rename_i h2;have g1:=nZ ok (oU (by simp) h2);have:=hnx (je h2);have hr:=Vk hs h n hb m (p.next s) g1.ok (hd.good g1) (by omega);exact adE hs ok hr (Nj h n m _ g1.ok (hd.good g1)).2 2 (je ⟨by simpa using h1,h2,rfl⟩)
   .rename_i h2;exact Vj (hb p ok hd) (by simpa using h1) (by simpa using h2)
end
section
variable {s:ji}{ex:Ps->Ex×Ps}{d:Nat}{p:Ps}{r:Ex×Ps}
theorem aei(hq:mV 265 [] s p r):mV 256 [Im 6] s p r:=by
 intro P w h;have HQ:=jA (hq P w h);clear h hq;go_enter func256,ntmps256;go_wp2_with fail;refine HQ.out.mono ?_;rintro e w2 ⟨v,rfl,h3⟩;have HH:=jA h3;clear h3 HQ;go_wp2_with fail;go_ret;exact⟨_,rfl,HH.out⟩
structure IL(s:ji)(lower:Ps->Ex×Ps)(of at':Int)(d:Nat)(R:Ex×Ps)(P:Nat)(w wr:jk)(v:jm)(g:Nat)(e:Ex)(q:Ps):Prop where
 here:e.here e.at' wr w.heap.size wr.heap.size v
 pr:jQ wr P s q
 grown:w.grownBy wr (some P)
 ex:kV e
 ok:q.Ok s
 deep:Deep d q
 fuel:(s.size:Int)-q.k.at'<=g
 eq:rY s lower of at' g e q=R
theorem agE{q:Ps}(ok:q.Ok s)(h:(s.size:Int)-q.k.at'<=0):q.k.text=⟨#[]⟩:=by
 have h1:=ok.tok.bd;have h2:=ok.tok.yR;have h3:q.k.text.size=0:=by omega
 have h4:=h3;exact iZ (fO h4)
theorem J9{q:Ps}{t:List UInt8}(ht:t≠[])(h:q.k.text.data.toList=t):1<=q.k.text.size:=by
 by_cases h0:q.k.text.size=0
 .have h4:=h0;have he:q.k.text=⟨#[]⟩:=iZ (fO h4);rw[he]at h;exact jl h.symm ht
 .omega
theorem amM{q:Ps}{of:Int}(h5:of<=5)(h:nO q.k.text.data.toList=of):1<=q.k.text.size:=by
 refine J9 (t:=q.k.text.data.toList) (λe=>?_) rfl;rw[e]at h;simp[nO]at h;omega
theorem IL.out{lower:Ps->Ex×Ps}{of at':Int}{R:Ex×Ps}{P:Nat}{w wr:jk}{v:jm}{g:Nat}{e:Ex}{q:Ps}(h:IL s lower of at' d R P w wr v g e q)(hl:¬nO q.k.text.data.toList=of):R=(e,q):=by
 rw[<-h.eq];cases g with
 |zero=>rfl
 |succ g=>unfold rY;rw[jg hl]
theorem IL.more{lower:Ps->Ex×Ps}{of at':Int}{R:Ex×Ps}{P:Nat}{w wr:jk}{v:jm}{g:Nat}{e:Ex}{q:Ps}(h:IL s lower of at' d R P w wr v g e q)(h5:of<=5)(hl:nO q.k.text.data.toList=of):
 ∃g',g=g'+1/\(s.size:Int)-(q.next s).k.at'<=g'/\R=if of=2\/of=3 then (kK at' (kE q.k.text.data.toList).2 q.k.text e (lower (q.next s)).1,(lower (q.next s)).2)else rY s lower of at' g' (kK at' (kE q.k.text.data.toList).2 q.k.text e (lower (q.next s)).1) (lower (q.next s)).2:=by
 have h1:=amM h5 hl;have h2:=F6 h.ok;cases g with
 |zero=>
  have:=agE h.ok (by have:=h.fuel;omega);rw[this]at h1;cases h1
 |succ g=>
  refine⟨g,rfl,by have:=h.fuel;omega,?_⟩;rw[<-h.eq]
  conv=>lhs;unfold rY
  rw[jh hl]
theorem amB{l r:Ex}(hl:kV l)(hr:kV r){w w1 w2 w4:jk}{P lo:Nat}{u v:jm}(h1:l.here l.at' w lo w.heap.size u)(hP:P<lo)(g1:w.grownBy w1 (some P))(h2:r.here r.at' w2 w1.heap.size w2.heap.size v)(g2:w1.grownBy w2 (some P))(g4:w2.grownBy w4 none)(hlo:lo<=w.heap.size):
 xY (l.here l.at') (r.here r.at') w4 lo w4.heap.size [u,v]:=by
 have s1:=g1.size;have s2:=g2.size;have s4:=g4.size;refine⟨w1.heap.size,u,v,rfl,by omega,by omega,?_,?_⟩
 .have k1:=hl.keep h1 hP (aj _) (g1.trans (g2.trans (g4.but _)));exact(hl.law _).wide _ _ _ _ _ _ k1 (aj _) s1
 .have k2:=(hr.law _).loc _ _ _ _ _ h2 (λb _ hb=>g4.block b hb (by simp));exact(hr.law _).wide _ _ _ _ _ _ k2 (aj _) s4
theorem ao5(hs:s.size<=4000)(of:Int)(h0:0<=of)(h5:of<=5){lower:Ps->Ex×Ps}(hl:qI s lower d)(hq:∀p,p.Ok s->Deep d p->mV 256 [Im (of+1)] s p (lower p))(n:Nat)
 (ok:p.Ok s)(hd:Deep d p)(hn:(s.size:Int)-p.k.at'<=n):mV 256 [Im of] s p (rY s lower of p.k.at' n (lower p).1 (lower p).2):=by
 intro P w h;obtain⟨g0,x0⟩:=hl p ok hd;have hlt:=h.lt;have HQ:=jA (hq p ok hd P w h);have HR:=jA (λq (h1:q.Ok s)(h2:Deep d q) x (hx:jQ x P s q)=>hq q h1 h2 P x hx);have HL:=jA hl;have c3:=kG.c3 h;have d6:(of==6)=false:=by simp;omega
 have HI:Hid (∀w' v,(lower p).1.here (lower p).1.at' w' w.heap.size w'.heap.size v->jQ w' P s (lower p).2->w.grownBy w' (some P)->IL s lower of p.k.at' d (rY s lower of p.k.at' n (lower p).1 (lower p).2) P w w' v n (lower p).1 (lower p).2):=
  λw' v a b c=>⟨a,b,c,x0,g0.ok,hd.good g0,by have:=g0.mono;omega,rfl⟩
 generalize rY s lower of p.k.at' n (lower p).1 (lower p).2=R at *;generalize lower p=r0 at *;generalize p.k.at'=ka at *;clear h hq g0 x0 hl ok hd hn;go_enter func256,ntmps256;go_wp2_with fail;refine HQ.out.mono ?_;rintro e w2 ⟨v,rfl,h3,p3,q3⟩;have HO:=jA (HI.out w2 v h3 p3 q3);clear h3 p3 q3 HQ HI;go_wp2_with fail;go_loopg [6] n (λgg u wr=>Hid (∃e q,IL s lower of ka d R P w wr u gg e q))
 case atStart=>exact⟨_,_,HO.out⟩
 case round=>
  obtain⟨e,q,hI⟩:=hrel.out;clear hrel HO;have c2:=kG.c2 hI.pr;have Gw:Hid (∀x,Calls prog 266 #[.string q.k.text] x λe w'=>e=.returned (Im (nO q.k.text.data.toList))/\w'=x):=λx=>ac1 _ x;by_cases hlv:nO q.k.text.data.toList=of
  .obtain⟨g',hg',hfu,hR⟩:=hI.more h5 hlv;have gn:=nZ hI.ok (adO h5 hlv);obtain⟨gl,xl⟩:=HL.out _ gn.ok (hI.deep.good gn);have HN:Hid (Calls prog 236 #[Pt P 0] wr (qO P s wr (.agg #[Im q.k.kind,.string q.k.text,Im q.k.at']) (q.next s))):=xw hI.pr hI.ok hs;have HR1:=jA (λx (hx:jQ x P s (q.next s))=>HR.out _ gn.ok (hI.deep.good gn) x hx);have KN:Hid (∀x,Calls prog 267 #[.string q.k.text] x λe w'=>e=.returned (.tuple #[Im (kE q.k.text.data.toList).1,Im (kE q.k.text.data.toList).2])/\w'=x):=λx=>afY _ x;have HX:=jA (jd hI.ex xl);have HF:Hid ((lower (q.next s)).2.Ok s/\Deep d (lower (q.next s)).2/\(s.size:Int)-(lower (q.next s)).2.k.at'<=g'):=⟨gl.ok,hI.deep.good (gn.trans gl),by have:=gl.mono;omega⟩;have HRR:=jA hR;have HH:=jA (jd hI.here hI.grown);obtain⟨T1,A1,hu6,hm1,a1,a2,a3⟩:=hI.ex.rZ hI.here;have tv:(nO q.k.text.data.toList==of)=true:=by simp[hlv]
   have hft:=LQ q.k.kind q.k.at' q.k.text;generalize lower (q.next s)=rr at *;generalize q.next s=q1 at *;generalize kE q.k.text.data.toList=sk at *;generalize nO q.k.text.data.toList=lv at *;generalize q.k.text=kt at *;generalize q.k.kind=kk at *;generalize q.k.at'=kat at *;clear hI gn gl xl hR hfu hlv HR HL;subst hu6;go_wp2_with fail;refine(Gw.out _).mono ?_;rintro e1 w1 ⟨rfl,rfl⟩;go_wp2_with fail;refine HN.out.mono ?_;rintro e1 w3 ⟨rfl,p3,g3⟩;have lI:=jA (jd p3 g3);clear p3 g3 HN;go_wp2_with fail;refine(HR1.out _ lI.out.1).mono ?_;rintro e1 w4 ⟨v2,rfl,h4,p4,g4⟩;obtain⟨T2,A2,rfl,hm2,b1,b2,b3⟩:=HX.out.2.rZ h4;have nJ:=jA (jd h4 (jd p4 g4));clear h4 p4 g4 HR1;go_wp2_with fail;refine(KN.out _).mono ?_;rintro e1 w5 ⟨rfl,rfl⟩;have a4:w5.cell? (Ad A1 1)=some (Im e.jw):=by
    have hh:=HX.out.1.keep HH.out.1 (by omega) (aj _) (lI.out.2.trans nJ.out.2.2);obtain⟨T',A',x1,x2,x3,x4,x5⟩:=HX.out.1.rZ hh;cases x1;exact x5
   have Bz:=jA (uh A1 0 _ a4);have KI:=jA (uh A2 0 _ b3);go_wp2_with fail;refine Bz.out.mono ?_;rintro e1 w6 ⟨rfl,hw6⟩;rw[hw6]at *;clear hw6;go_wp2_with fail;refine KI.out.mono ?_;rintro e1 w7 ⟨rfl,hw7⟩;rw[hw7]at *;clear hw7;go_wp2_with fail;refine(zS ka _ [e.jw,rr.1.jw] (Iy w5 _ e.jw rr.1.jw HX.out.1.jw.1 HX.out.1.jw.2 HX.out.2.jw.1 HX.out.2.jw.2)).mono ?_;rintro e1 w8 ⟨rfl,g8⟩;have Bq:=jA ((ah w5 _ none).trans g8);clear g8;have HFin:Hid (∀o,(kK ka sk.2 kt e rr.1).here ka ((w8.alloc o).alloc (.cells #[Im ka,Im (jR [e.jw,rr.1.jw]),Im sk.2,.string kt,.iface T1 (Pt A1 0),.iface T2 (Pt A2 0)] 376)) w.heap.size ((w8.alloc o).alloc (.cells #[Im ka,Im (jR [e.jw,rr.1.jw]),Im sk.2,.string kt,.iface T1 (Pt A1 0),.iface T2 (Pt A2 0)] 376)).heap.size (.iface 374 (Pt (w8.heap.size+1) 0))/\
    jQ ((w8.alloc o).alloc (.cells #[Im ka,Im (jR [e.jw,rr.1.jw]),Im sk.2,.string kt,.iface T1 (Pt A1 0),.iface T2 (Pt A2 0)] 376)) P s rr.2/\w.grownBy ((w8.alloc o).alloc (.cells #[Im ka,Im (jR [e.jw,rr.1.jw]),Im sk.2,.string kt,.iface T1 (Pt A1 0),.iface T2 (Pt A2 0)] 376)) (some P)):=λo=>by
    generalize ho2:(Obj.cells #[Im ka,Im (jR [e.jw,rr.1.jw]),Im sk.2,.string kt,.iface T1 (Pt A1 0),.iface T2 (Pt A2 0)] 376)=o2;have gg:=Bq.out.trans (ah w8 o none);have gf:=gg.trans (ah (w8.alloc o) o2 none);have s0:=HH.out.2.size;have s3:=lI.out.2.size;have s4:=nJ.out.2.2.size;have s8:=gg.size;have hK:=amB HX.out.1 HX.out.2 HH.out.1 hlt lI.out.2 nJ.out.1 nJ.out.2.2 gg s0;have hn:=JQ (dn:={}) (T':=374) (T:=376) (at':=ka) (jw:=jR [e.jw,rr.1.jw]) (kind:=sk.2) (mk:=λus=>.string kt::us) (wJ (HX.out.1.law _) (HX.out.2.law _)) hK (by omega) ka ho2.symm;rw[nX w8 o]at hn;exact⟨hn,nJ.out.2.1.grow gf,(HH.out.2.trans (lI.out.2.trans nJ.out.2.2)).trans (gf.but _)⟩
   by_cases hbr:of=2\/of=3
   .have wX:Hid (R=(kK ka sk.2 kt e rr.1,rr.2)):=by have:=HRR.out;rw[jh hbr]at this;exact this
    clear HRR;rcases hbr with rfl|rfl;all_goals
     go_wp2_with fail;go_ret;rw[wX.out];exact⟨_,rfl,HFin.out _⟩
   .have wX:Hid (R=rY s lower of ka g' (kK ka sk.2 kt e rr.1) rr.2):=by have:=HRR.out;rw[jg hbr]at this;exact this
    have n2:(of==2)=false:=by simp;omega
    have n3:(of==3)=false:=by simp;omega
    clear HRR hbr;go_wp2_with fail;go_roundg g'
    case measure=>omega
    case rel=>
     obtain⟨f1,f2,f3⟩:=HFin.out (Obj.cells #[Im ka,Im (jR [e.jw,rr.1.jw]),Im sk.2] 373);exact⟨_,_,⟨f1,f2,f3,Ro _ _ _ HX.out.1 HX.out.2,HF.out.1,HF.out.2.1,HF.out.2.2,wX.out.symm⟩⟩
  .have wX:=jA (hI.out hlv);have HH:=jA (jd hI.here (jd hI.pr hI.grown));have tv:(nO q.k.text.data.toList==of)=false:=by simp[hlv]
   generalize nO q.k.text.data.toList=lv at *;generalize q.k.text=kt at *;clear hI HR HL hlv;go_wp2_with fail;refine(Gw.out _).mono ?_;rintro e1 w1 ⟨rfl,rfl⟩;go_wp2_with fail;go_ret;rw[wX.out];exact⟨_,rfl,HH.out⟩
theorem aed(hs:s.size<=4000)(h:qI s ex d)(n:Nat)(hn:s.size<=n)(hm:∀p,p.Ok s->Deep (d+1) p->mV 265 [] s p (qG s ex n n p)):
 ∀(l:Nat),l<=6->∀p,p.Ok s->Deep (d+1) p->mV 256 [Im (6-l)] s p (qR s ex n l p)
 |0,_,p,ok,hd=>aei (hm p ok hd)
 |l+1,hl,p,ok,hd=>by
  have ih:=aed hs h n hn hm l (by omega);have hq:∀p,p.Ok s->Deep (d+1) p->mV 256 [Im ((5-(l:Int))+1)] s p (qR s ex n l p):=λp ok hd=>by
   rw[show(5-(l:Int))+1=6-l by omega];exact ih p ok hd
  have:=ao5 hs (5-l) (by omega) (by omega) (Qr h n l) hq n ok hd (by have:=ok.tok.yR;omega);rw[show((6:Int)-((l+1:Nat):Int))=5-l by omega];exact this
theorem aa1(hq:mV 256 [Im 0] s p r):mV 238 [] s p r:=by
 intro P w h;have HQ:=jA (hq P w h);clear h hq;go_enter func238,ntmps238;go_wp2_with fail;refine HQ.out.mono ?_;rintro e w2 ⟨v,rfl,h3⟩;have HH:=jA h3;clear h3 HQ;go_wp2_with fail;go_ret;exact⟨_,rfl,HH.out⟩
def ahK(fn:FuncId)(more:List jm)(s:ji)(e:Ex)(p:Ps)(r:Ex×Ps):Prop:=
 ∀(P:Nat)(w:jk)(lo:Nat)(u:jm),jQ w P s p->P<lo->e.here e.at' w lo w.heap.size u->lo<=w.heap.size->Calls prog fn (Pt P 0::(more++[u])).toArray w λen w'=>∃v,en=.returned v/\r.1.here r.1.at' w' lo w'.heap.size v/\jQ w' P s r.2/\w.grownBy w' (some P)
theorem aoK(hs:s.size<=4000)(h:Reader s ex d)(ok:p.Ok s)(hd:Deep (d+1) p)(at':Int){e:Ex}(he:kV e):ahK 271 [Im at'] s e p (vW s ex at' e p):=by
 intro P w lo u hp hlt hu hlo;have o1:=ok.jZ [40];have d1:=hd.jZ ok (t:=[40]) (by simp);obtain⟨g1,x1⟩:=h.good _ o1 d1;have H0:=jA (Ny hp ok hs [40]);have H1:=jA (λx (hx:jQ x P s (p.jZ s [40]))=>h.reads _ o1 d1 P x hx);have H2:=jA (λx (hx:jQ x P s (ex (p.jZ s [40])).2)=>LC hx g1.ok hs [41]);show Calls prog 271 #[Pt P 0,Im at',u] w λen w'=>∃v,en=.returned v/\(x9 at' e (ex (p.jZ s [40])).1).here at' w' lo w'.heap.size v/\jQ w' P s ((ex (p.jZ s [40])).2.close s [41])/\w.grownBy w' (some P);generalize ex (p.jZ s [40])=rr at *;generalize p.jZ s [40]=q at *;generalize rr.2.close s [41]=q2 at *;have HX:=jA (jd he x1);obtain⟨T1,A1,hu1,hm1,a1,a2,a3⟩:=he.rZ hu;subst hu1;have HU:=jA hu;clear hp o1 d1 g1 x1 ok hd h he hu;go_enter func271,ntmps271;go_wp2_with fail;refine H0.out.mono ?_;rintro e1 w1 ⟨rfl,p1,k1⟩;have kJ:=jA (jd p1 k1);clear p1 k1 H0;go_wp2_with fail;refine(H1.out _ kJ.out.1).mono ?_;rintro e1 w2 ⟨v,rfl,e2,p2,k2⟩;have HP2:=jA (jd e2 (jd p2 k2));clear e2 p2 k2 H1;go_wp2_with fail;refine(H2.out _ HP2.out.2.1).mono ?_;rintro e1 w3 ⟨rfl,p3,k3⟩;have lI:=jA (jd p3 k3);clear p3 k3 H2;have HV:Hid (rr.1.here rr.1.at' w3 w1.heap.size w3.heap.size v/\e.here e.at' w3 lo w.heap.size (.iface T1 (Pt A1 0))):=by
  have s1:=kJ.out.2.size;have s3:=lI.out.2.size;refine⟨(HX.out.2.law _).wide _ _ _ _ _ _ (HX.out.2.keep HP2.out.1 (by omega) (aj _) lI.out.2) (aj _) s3,?_⟩;exact HX.out.1.keep HU.out hlt (aj _) (kJ.out.2.trans (HP2.out.2.2.trans lI.out.2))
 obtain⟨T2,A2,hv2,hm2,b1,b2,b3⟩:=HX.out.2.rZ HV.out.1;subst hv2;have a4:w3.cell? (Ad A1 1)=some (Im e.jw):=by
  obtain⟨T',A',x1,x2,x3,x4,x5⟩:=HX.out.1.rZ HV.out.2;cases x1;exact x5
 have Bz:=jA (uh A1 0 _ a4);have KI:=jA (uh A2 0 _ b3);clear HU;go_wp2_with fail;refine Bz.out.mono ?_;rintro e1 w6 ⟨rfl,hw6⟩;rw[hw6]at *;clear hw6;go_wp2_with fail;refine KI.out.mono ?_;rintro e1 w7 ⟨rfl,hw7⟩;rw[hw7]at *;clear hw7;go_wp2_with fail;refine(zS at' _ [e.jw,rr.1.jw] (Iy w3 _ e.jw rr.1.jw HX.out.1.jw.1 HX.out.1.jw.2 HX.out.2.jw.1 HX.out.2.jw.2)).mono ?_;rintro e1 w8 ⟨rfl,g8⟩;have Bq:=jA ((ah w3 _ none).trans g8);clear g8;have HFin:Hid (∀o o2,o2=(Obj.cells #[Im at',Im (jR [e.jw,rr.1.jw]),Im 2,.iface T1 (Pt A1 0),.iface T2 (Pt A2 0)] 400)->(x9 at' e rr.1).here at' ((w8.alloc o).alloc o2) lo ((w8.alloc o).alloc o2).heap.size (.iface 398 (Pt (w8.heap.size+1) 0))/\jQ ((w8.alloc o).alloc o2) P s q2/\w.grownBy ((w8.alloc o).alloc o2) (some P)):=λo o2 ho2=>by
  have gg:=Bq.out.trans (ah w8 o none);have gf:=gg.trans (ah (w8.alloc o) o2 none);have s1:=kJ.out.2.size;have s2:=HP2.out.2.2.size;have s3:=lI.out.2.size;have s8:=gg.size;have hK:xY (e.here e.at') (rr.1.here rr.1.at') (w8.alloc o) lo (w8.alloc o).heap.size [.iface T1 (Pt A1 0),.iface T2 (Pt A2 0)]:=by
   refine⟨w1.heap.size,_,_,rfl,by omega,by omega,?_,?_⟩
   .exact(HX.out.1.law _).wide _ _ _ _ _ _ ((HX.out.1.law _).loc _ _ _ _ _ HV.out.2 (λb _ hb=>gg.block b (by omega) (by simp))) (aj _) s1
   .exact(HX.out.2.law _).wide _ _ _ _ _ _ ((HX.out.2.law _).loc _ _ _ _ _ HV.out.1 (λb _ hb=>gg.block b hb (by simp))) (aj _) s8
  have hn:=JQ (dn:={}) (T':=398) (T:=400) (at':=at') (jw:=jR [e.jw,rr.1.jw]) (kind:=2) (mk:=λus=>us) (wJ (HX.out.1.law _) (HX.out.2.law _)) hK (by omega) at' ho2;rw[nX w8 o]at hn;exact⟨hn,lI.out.1.grow gf,(kJ.out.2.trans (HP2.out.2.2.trans lI.out.2)).trans (gf.but _)⟩
 go_wp2_with fail;go_ret;exact⟨_,rfl,HFin.out _ _ rfl⟩
theorem aa9(w:jk)(o a b c d:Obj):(((((w.alloc o).alloc a).alloc b).alloc c).alloc d).drew.heap[w.heap.size+1+1+1+1]? =some d/\w.grownBy (((((w.alloc o).alloc a).alloc b).alloc c).alloc d).drew none:=by
 constructor
 .have e:(((((w.alloc o).alloc a).alloc b).alloc c).alloc d).drew.heap=((((w.heap.push o).push a).push b).push c).push d:=rfl;rw[e,eH,jh (by simp)]
 .exact(ah w o none).trans ((ah _ a none).trans ((ah _ b none).trans ((ah _ c none).trans ((ah _ d none).trans ⟨rfl,rfl,rfl,aj _,λ_ _ _=>rfl⟩))))
structure EO(s:ji)(ex:Ps->Ex×Ps)(at':Int)(d:Nat)(R:Ex×Ps)(P:Nat)(w wr:jk)(v:jm)(g:Nat)(e:Ex)(q:Ps):Prop where
 here:e.here e.at' wr w.heap.size wr.heap.size v
 pr:jQ wr P s q
 grown:w.grownBy wr (some P)
 Ar:kV e
 ok:q.Ok s
 deep:Deep (d+1) q
 fuel:(s.size:Int)-q.k.at'<=g
 eq:tk s ex at' g e q=R
theorem EO.out{at':Int}{R:Ex×Ps}{P:Nat}{w wr:jk}{v:jm}{g:Nat}{e:Ex}{q:Ps}(h:EO s ex at' d R P w wr v g e q)(hl:q.is [46]=false):R=(e,q):=by
 rw[<-h.eq];cases g with
 |zero=>rfl
 |succ g=>unfold tk;rw[jg (by rw[hl];decide)]
theorem qQ{q:Ps}{t:List UInt8}(ht:t≠[])(h:q.is t=true):1<=q.k.text.size:=J9 ht (by simpa [Hx.Ps.is]using h)
theorem EO.more{at':Int}{R:Ex×Ps}{P:Nat}{w wr:jk}{v:jm}{g:Nat}{e:Ex}{q:Ps}(h:EO s ex at' d R P w wr v g e q)(hl:q.is [46]=true):
 ∃g',g=g'+1/\(s.size:Int)-(q.next s).k.at'<=g'/\R=(if ((q.next s).name s).1.text.data.toList==[111,110]&&((q.next s).name s).2.is [40]then tk s ex at' g' (vW s ex at' e ((q.next s).name s).2).1 (vW s ex at' e ((q.next s).name s).2).2
   else tk s ex at' g' (vY at' (pG ((q.next s).name s).1.text.data.toList).2 (pG ((q.next s).name s).1.text.data.toList).1 e ((q.next s).name s).1) ((q.next s).name s).2):=by
 have h1:=qQ (by simp) hl;have h2:=F6 h.ok;cases g with
 |zero=>
  have:=agE h.ok (by have:=h.fuel;omega);rw[this]at h1;cases h1
 |succ g=>
  refine⟨g,rfl,by have:=h.fuel;omega,?_⟩;rw[<-h.eq]
  conv=>lhs;unfold tk
  rw[jh hl]
theorem ajd(hs:s.size<=4000)(h:Reader s ex d)(n:Nat)(hn:s.size<=n)(hb:∀p,p.Ok s->Deep (d+1) p->mV 270 [] s p (sZ s ex n p))(ok:p.Ok s)(hd:Deep (d+1) p):mV 269 [] s p (Ak s ex n p):=by
 intro P w hp;obtain⟨g0,x0⟩:=ZT h.good n ok hd;have hlt:=hp.lt;have HQ:=jA (hb p ok hd P w hp);have Gy:=jA h;have c3:=kG.c3 hp;have HI:Hid (∀w' v,(sZ s ex n p).1.here (sZ s ex n p).1.at' w' w.heap.size w'.heap.size v->jQ w' P s (sZ s ex n p).2->w.grownBy w' (some P)->EO s ex p.k.at' d (Ak s ex n p) P w w' v n (sZ s ex n p).1 (sZ s ex n p).2):=
  λw' v a b c=>⟨a,b,c,x0,g0.ok,hd.good g0,by have:=g0.ok.tok.yR;omega,rfl⟩
 generalize Ak s ex n p=R at *;generalize sZ s ex n p=r0 at *;generalize p.k.at'=ka at *;clear hp hb g0 x0 h ok hd;go_enter func269,ntmps269;go_wp2_with fail;refine HQ.out.mono ?_;rintro e w2 ⟨v,rfl,h3,p3,q3⟩;have HO:=jA (HI.out w2 v h3 p3 q3);clear h3 p3 q3 HQ HI;go_wp2_with fail;go_loopg [4] n (λgg u wr=>Hid (∃e q,EO s ex ka d R P w wr u gg e q))
 case atStart=>exact⟨_,_,HO.out⟩
 case round=>
  obtain⟨e,q,hI⟩:=hrel.out;clear hrel HO;have Gw:=jA (Ho hI.pr [46]);cases hlv:q.is [46]with
  |false=>
   have wX:=jA (hI.out hlv);have HH:=jA (jd hI.here (jd hI.pr hI.grown));rw[hlv]at Gw;clear hI hlv Gy;go_wp2_with fail;refine Gw.out.mono ?_;rintro e1 w1 ⟨rfl,rfl⟩;go_wp2_with fail;go_ret;rw[wX.out];exact⟨_,rfl,HH.out⟩
  |true=>
   obtain⟨g',hg',hfu,hR⟩:=hI.more hlv;rw[hlv]at Gw;have gn:=nZ hI.ok (oU (by simp) hlv);have gm:=Ej gn.ok;have HN:=jA (xw hI.pr hI.ok hs);have HM:=jA (λx (hx:jQ x P s (q.next s))=>JH hx gn.ok hs);have HX:=jA hI.Ar;have HF:Hid (((q.next s).name s).2.Ok s/\Deep (d+1) ((q.next s).name s).2/\(s.size:Int)-((q.next s).name s).2.k.at'<=g'):=⟨gm.ok,hI.deep.good (gn.trans gm),by have:=gm.mono;omega⟩;have HRR:Hid (R=(if ((q.next s).name s).1.text.data.toList==[111,110]&&((q.next s).name s).2.is [40]then tk s ex ka g' (vW s ex ka e ((q.next s).name s).2).1 (vW s ex ka e ((q.next s).name s).2).2
    else tk s ex ka g' (vY ka (pG ((q.next s).name s).1.text.data.toList).2 (pG ((q.next s).name s).1.text.data.toList).1 e ((q.next s).name s).1) ((q.next s).name s).2)):=hR
   have HH:=jA (jd hI.here hI.grown);obtain⟨T1,A1,hu4,hm1,a1,a2,a3⟩:=hI.Ar.rZ hI.here;subst hu4;generalize (q.next s).name s=dq at *;generalize q.next s=q1 at *;obtain⟨⟨dt,da⟩,q2⟩:=dq;clear hI gn gm hR hfu hlv;have HM:Hid (∀x,jQ x P s q1->Calls prog 232 #[Pt P 0] x (qO P s x (.agg #[.string dt,Im da]) q2)):=HM.out;simp only at HRR HF;go_wp2_with fail;refine Gw.out.mono ?_;rintro e1 w1 ⟨rfl,rfl⟩;go_wp2_with fail;refine HN.out.mono ?_;rintro e1 w3 ⟨rfl,p3,g3⟩;have lI:=jA (jd p3 g3);clear p3 g3 HN;go_wp2_with fail;refine(HM.out _ lI.out.1).mono ?_;rintro e1 w4 ⟨rfl,p4,g4⟩;have nJ:=jA (jd p4 (lI.out.2.trans g4));clear p4 g4 HM lI;have hgw:(w4.alloc (Obj.cells #[.string dt,Im da] 316)).heap[w4.heap.size]? =some (Obj.cells #[.string dt,Im da] 316):=aY _ _;have t0:(w4.alloc (Obj.cells #[.string dt,Im da] 316)).cell? (Ad w4.heap.size 0)=some (.string dt):=jI hgw;have hA4:A1<w4.heap.size:=by have:=nJ.out.2.size;omega
   have a4':w4.cell? (Ad A1 1)=some (Im e.jw):=by
    obtain⟨T',A',x1,x2,x3,x4,x5⟩:=HX.out.rZ (HX.out.keep HH.out.1 hlt (aj _) nJ.out.2);cases x1;exact x5
   have a4:(w4.alloc (Obj.cells #[.string dt,Im da] 316)).cell? (Ad A1 1)=some (Im e.jw):=(bQ (a:=(Ad A1 1)) (fP w4 _ A1 hA4)).trans a4';have a5:=a4;have a6:Hid (∀k,((w4.alloc (Obj.cells #[.string dt,Im da] 316)).drewN k).cell? (Ad A1 1)=some (Im e.jw)):=λ_=>a4;have m1:¬A1=w4.heap.size:=by omega
   have DV:Hid (Calls prog 234 #[Im ka,.slice (some (Ad (w4.heap.size+1) 0)) 1 1] ((w4.alloc (Obj.cells #[.string dt,Im da] 316)).alloc (.cells #[Im e.jw] 3)).drew λe' w'=>e'=.returned (.agg #[Im ka,Im (jR [e.jw])])/\w'=((((w4.alloc (Obj.cells #[.string dt,Im da] 316)).alloc (.cells #[Im e.jw] 3)).drew.alloc (.cells #[Im ka,Im (jR [e.jw])] 323)).alloc (.cells #[Im 1,Im (lu [e.jw])] 3))):=by
    refine JI ka _ [e.jw] ⟨by simpa using HX.out.jw,by simp,je ⟨_,_,rfl,λi y hy=>?_⟩⟩
    match i,hy with
    |0,hy=>
     cases hy;have hh:((w4.alloc (Obj.cells #[.string dt,Im da] 316)).alloc (.cells #[Im e.jw] 3)).drew.heap[w4.heap.size+1]? =some (.cells #[Im e.jw] 3):=by
      rw[<-nX w4 (Obj.cells #[.string dt,Im da] 316)];exact aY _ _
     exact jI hh
   clear hgw a4';have hdt:dt.toList=dt.data.toList:=aZ ..;cases hon:(dt.toList==[111,110])with
   |false=>
    have wX:Hid (R=tk s ex ka g' (vY ka (pG dt.data.toList).2 (pG dt.data.toList).1 e ⟨dt,da⟩) q2):=by
     have:=HRR.out;rw[<-hdt,hon]at this;rw[<-hdt];exact this
    clear HRR hdt;go_wp2_with fail;have RV:Hid (∀x,Calls prog 272 #[.string dt] x λe w'=>e=.returned (.tuple #[Im (pG dt.data.toList).1,Im (pG dt.data.toList).2])/\w'=x):=λx=>aeN _ x;generalize pG dt.data.toList=pk at *;refine(RV.out _).mono ?_;rintro e1 w5 ⟨rfl,hw5⟩;rw[hw5];clear hw5;have HFin:Hid (∀a b c,∃e' q',EO s ex ka d R P w (((((w4.alloc (Obj.cells #[.string dt,Im da] 316)).alloc a).alloc b).alloc c).alloc (.cells #[Im ka,Im (jR [e.jw]),Im pk.2,Im pk.1,.iface T1 (Pt A1 0),.string dt,Im da] 385)).drew (.iface 383 (Pt (w4.heap.size+1+1+1+1) 0)) g' e' q'):=λa b c=>by
     obtain⟨h1,h2⟩:=aa9 w4 (Obj.cells #[.string dt,Im da] 316) a b c (.cells #[Im ka,Im (jR [e.jw]),Im pk.2,Im pk.1,.iface T1 (Pt A1 0),.string dt,Im da] 385);have s4:=nJ.out.2.size;have s0:=HH.out.2.size;have hl:=lY h1;have hk:=HX.out.keep HH.out.1 hlt (aj _) (nJ.out.2.trans (h2.but _));exact⟨vY ka pk.2 pk.1 e ⟨dt,da⟩,q2,⟨⟨_,_,rfl,by omega,hl,⟨_,rfl,(HX.out.law _).wide _ _ _ _ _ _ hk (aj _) (by omega)⟩,h1⟩,nJ.out.1.grow h2,HH.out.2.trans (nJ.out.2.trans (h2.but _)),QA _ _ _ HX.out _,HF.out.1,HF.out.2.1,HF.out.2.2,wX.out.symm⟩⟩
    go_upto_region 9 with fail;go_region_with (first|(go_at_call 244;refine(uh A1 0 e.jw (by first|exact a4|exact a5|exact a6.out _|(simp;exact a4))).mono ?_;rintro e w' ⟨rfl,rfl⟩)|(go_at_call 234;refine DV.out.mono ?_;rintro e w' ⟨rfl,rfl⟩));all_goals
     go_wp2_with fail;go_roundg g'
     case measure=>omega
     case rel=>exact HFin.out _ _ _
   |true=>
    have HI2:Hid (Calls prog 242 #[Pt P 0,.string ⟨#[40]⟩] (w4.alloc (Obj.cells #[.string dt,Im da] 316)) λe' w'=>e'=.returned (.bool (q2.is [40]))/\w'=w4.alloc (Obj.cells #[.string dt,Im da] 316)):=Ho (nJ.out.1.grow (ah _ _ none)) [40];cases hop:q2.is [40]with
    |false=>
     have wX:Hid (R=tk s ex ka g' (vY ka (pG dt.data.toList).2 (pG dt.data.toList).1 e ⟨dt,da⟩) q2):=by
      have:=HRR.out;rw[<-hdt,hon,hop]at this;rw[<-hdt];exact this
     rw[hop]at HI2;clear HRR hdt hop;go_wp2_with fail;refine HI2.out.mono ?_;rintro e1 w5 ⟨rfl,hw5⟩;rw[hw5];clear hw5;go_wp2_with fail;have RV:Hid (∀x,Calls prog 272 #[.string dt] x λe w'=>e=.returned (.tuple #[Im (pG dt.data.toList).1,Im (pG dt.data.toList).2])/\w'=x):=λx=>aeN _ x;generalize pG dt.data.toList=pk at *;refine(RV.out _).mono ?_;rintro e1 w5 ⟨rfl,hw5⟩;rw[hw5];clear hw5;have HFin:Hid (∀a b c,∃e' q',EO s ex ka d R P w (((((w4.alloc (Obj.cells #[.string dt,Im da] 316)).alloc a).alloc b).alloc c).alloc (.cells #[Im ka,Im (jR [e.jw]),Im pk.2,Im pk.1,.iface T1 (Pt A1 0),.string dt,Im da] 385)).drew (.iface 383 (Pt (w4.heap.size+1+1+1+1) 0)) g' e' q'):=λa b c=>by
      obtain⟨h1,h2⟩:=aa9 w4 (Obj.cells #[.string dt,Im da] 316) a b c (.cells #[Im ka,Im (jR [e.jw]),Im pk.2,Im pk.1,.iface T1 (Pt A1 0),.string dt,Im da] 385);have s4:=nJ.out.2.size;have s0:=HH.out.2.size;have hl:=lY h1;have hk:=HX.out.keep HH.out.1 hlt (aj _) (nJ.out.2.trans (h2.but _));exact⟨vY ka pk.2 pk.1 e ⟨dt,da⟩,q2,⟨⟨_,_,rfl,by omega,hl,⟨_,rfl,(HX.out.law _).wide _ _ _ _ _ _ hk (aj _) (by omega)⟩,h1⟩,nJ.out.1.grow h2,HH.out.2.trans (nJ.out.2.trans (h2.but _)),QA _ _ _ HX.out _,HF.out.1,HF.out.2.1,HF.out.2.2,wX.out.symm⟩⟩
     go_upto_region 9 with fail;go_region_with (first|(go_at_call 244;refine(uh A1 0 e.jw (by first|exact a4|exact a5|exact a6.out _|(simp;exact a4))).mono ?_;rintro e w' ⟨rfl,rfl⟩)|(go_at_call 234;refine DV.out.mono ?_;rintro e w' ⟨rfl,rfl⟩));all_goals
      go_wp2_with fail;go_roundg g'
      case measure=>omega
      case rel=>exact HFin.out _ _ _
    |true=>
     have wX:Hid (R=tk s ex ka g' (vW s ex ka e q2).1 (vW s ex ka e q2).2):=by
      have:=HRR.out;rw[<-hdt,hon,hop]at this;exact this
     rw[hop]at HI2;obtain⟨go,xo⟩:=ad3 Gy.out.good HF.out.1 HF.out.2.1 ka HX.out;have HF2:Hid ((vW s ex ka e q2).2.Ok s/\Deep (d+1) (vW s ex ka e q2).2/\(s.size:Int)-(vW s ex ka e q2).2.k.at'<=g'/\kV (vW s ex ka e q2).1):=⟨go.ok,HF.out.2.1.good go,by have:=go.mono;have:=HF.out.2.2;omega,xo⟩;have HOr:Hid (Calls prog 271 #[Pt P 0,Im ka,.iface T1 (Pt A1 0)] (w4.alloc (Obj.cells #[.string dt,Im da] 316)) λen w'=>∃v,en=.returned v/\(vW s ex ka e q2).1.here (vW s ex ka e q2).1.at' w' w.heap.size w'.heap.size v/\jQ w' P s (vW s ex ka e q2).2/\w.grownBy w' (some P)):=by
      have gA:=ah w4 (Obj.cells #[.string dt,Im da] 316) none;have GZ:=nJ.out.2.trans (gA.but (some P));have sz:=GZ.size;have s0:=HH.out.2.size;refine(aoK hs Gy.out HF.out.1 HF.out.2.1 ka HX.out P _ w.heap.size _ (nJ.out.1.grow gA) hlt ((HX.out.law _).wide _ _ _ _ _ _ (HX.out.keep HH.out.1 hlt (aj _) GZ) (aj _) sz) (by omega)).mono ?_;rintro en w' ⟨v,k1,k2,k3,k4⟩;exact⟨v,k1,k2,k3,HH.out.2.trans (GZ.trans k4)⟩
     generalize vW s ex ka e q2=ro at *;clear HRR hdt hop go xo DV;go_wp2_with fail;refine HI2.out.mono ?_;rintro e1 w5 ⟨rfl,hw5⟩;rw[hw5];clear hw5;go_wp2_with fail;refine HOr.out.mono ?_;rintro e1 w6 ⟨v6,rfl,k1,k2,k3⟩;have HK:=jA (jd k1 (jd k2 k3));clear k1 k2 k3 HOr HI2;go_wp2_with fail;go_roundg g'
     case measure=>omega
     case rel=>exact⟨_,_,⟨HK.out.1,HK.out.2.1,HK.out.2.2,HF2.out.2.2.2,HF2.out.1,HF2.out.2.1,HF2.out.2.2.1,wX.out.symm⟩⟩
theorem aaK:∀(l:List UInt8)(acc:Nat),(∀b∈l,mZ b.toNat=true)->∃n,Lib.decFrom acc l=some n
 |[],acc,_=>⟨acc,rfl⟩
 |b::r,acc,h=>by
  have hb:=h b (aW ..);simp only[mZ,dD,decide_eq_true_eq]at hb;have hv:Lib.digitVal b=some (b.toNat-48):=by unfold Lib.digitVal;rw[jh (by omega)]
  unfold Lib.decFrom;rw[hv];exact aaK r _ λc hc=>h c (aI _ hc)
theorem aif(l:List UInt8)(hl:l≠[])(h:∀b∈l,mZ b.toNat=true):∃n,Lib.atoi l=some n:=by
 cases l with
 |nil=>exact jl rfl hl
 |cons b r=>
  have hb:=h b (aW ..);simp only[mZ,dD,decide_eq_true_eq]at hb;have n1:(b==45)=false:=by
   cases hc:b==45 with
   |false=>rfl
   |true=>rw[beq_iff_eq.1 hc]at hb;simp at hb
  have n2:(b==43)=false:=by
   cases hc:b==43 with
   |false=>rfl
   |true=>rw[beq_iff_eq.1 hc]at hb;simp at hb
  obtain⟨n,hn⟩:=aaK (b::r) 0 h;refine⟨n,?_⟩;simp only[Lib.atoi,n1,n2,aH,cZ,Lib.decNat,List.isEmpty_cons,hn,iH]
theorem aoC(hs:s.size<=4000)(ok:p.Ok s)(hk:p.k.kind=3):mV 273 [] s p (kN p.k.at' ((Lib.atoi p.k.text.data.toList).getD 0),p.next s):=by
 obtain⟨h1,h2,h3⟩:=ok.kinds.number hk;obtain⟨n,hn⟩:=aif p.k.text.data.toList (λe=>by
  have:p.k.text.data.toList.length=0:=by rw[e];rfl
  rw[eX]at this;have h4:p.k.text.size=0:=this;omega) h3
 intro P w h;refine(aoA hs ok.tok n h2 hn rfl w h).mono ?_;rintro e w' ⟨v,rfl,⟨A,rfl,hA,hh⟩,hp,hg⟩;refine⟨_,rfl,?_,hp,hg⟩;rw[hn];exact⟨A,[],rfl,hA,lY hh,rfl,hh⟩
theorem afc{P:Nat}{w:jk}(h:jQ w P s p)(ok:p.Ok s)(hs:s.size<=4000)(hk:p.k.kind=4):Calls prog 235 #[Pt P 0] w (qO P s w (Im ((p.k.text.data.toList.getD 1 0).toNat-48)) (p.next s)):=by
 obtain⟨x,h1,h2,h3⟩:=ok.kinds.register hk;have hsz:p.k.text.size=2:=by
  have:p.k.text.data.toList.length=2:=by rw[h1];rfl
  rw[eX]at this;exact this
 have hx:p.k.text.data.toList.getD 1 0=x:=by rw[h1];rfl
 have hb:p.k.text[1]'(by omega)=x:=by rw[<-LW p.k.text 1 (by omega)];exact hx
 rw[hx];exact aqQ h hs ok.tok ((x.toNat:Int)-48) (by omega) (by rw[hb];omega) (by omega) (by omega)
theorem Qn(at':Int)(w:jk):Calls prog 234 #[Im at',Nl] w λe w'=>e=.returned (.agg #[Im at',Im 1])/\w.grownBy w' none:=by
 have h:=zS at' (Nl) [] (w:=w) ⟨λ_ h=>(dU h).elim,by simp,jf ⟨rfl,rfl⟩⟩;have hpc:jR []=1:=by decide
 rw[hpc]at h;exact h
theorem Jv{T' T:jo}{at' jw kind:Int}{mk:List jm->List jm}{dn:Dn}{w:jk}{lo:Nat}(hlo:lo<=w.heap.size)(a:Int){o:Obj}
 (ho:o=.cells (Im a::Im jw::Im kind::mk []).toArray T):(rE T' T at' jw kind y9 mk dn).here a (w.alloc o) lo (w.alloc o).heap.size (.iface T' (Pt w.heap.size 0)):=
 JQ Cc rfl hlo a ho
theorem aiU(hs:s.size<=4000)(ok:p.Ok s)(hk:p.k.kind=3):mV 270 [] s p (kN p.k.at' ((Lib.atoi p.k.text.data.toList).getD 0),p.next s):=by
 intro P w h;have HQ:=jA (aoC hs ok hk P w h);have c1:=kG.c1 h;have c2:=kG.c2 h;have c3:=kG.c3 h;rw[hk]at c1;generalize kN p.k.at' ((Lib.atoi p.k.text.data.toList).getD 0)=X at *;generalize p.next s=q at *;generalize p.k.text=kt at *;generalize p.k.at'=ka at *;clear h ok hk;go_enter func270,ntmps270;go_wp2_with fail;refine HQ.out.mono ?_;rintro e w2 ⟨v,rfl,h1⟩;have HH:=jA h1;clear h1 HQ;go_wp2_with fail;go_ret;exact⟨_,rfl,HH.out⟩
theorem aiY(hs:s.size<=4000)(ok:p.Ok s)(hk:p.k.kind=4):mV 270 [] s p (wQ p.k.at' ((p.k.text.data.toList.getD 1 0).toNat-48),p.next s):=by
 intro P w h;have HR:=jA (λx (hx:w.grownBy x none)=>afc (h.grow hx) ok hs hk);have c1:=kG.c1 h;have c2:=kG.c2 h;have c3:=kG.c3 h;rw[hk]at c1;generalize ((p.k.text.data.toList.getD 1 0).toNat:Int)-48=i at *;generalize p.next s=q at *;generalize p.k.text=kt at *;generalize p.k.at'=ka at *;clear h ok hk;go_enter func270,ntmps270;go_wp2_with fail;refine(Qn ka _).mono ?_;rintro e w1 ⟨rfl,g1⟩;have pR:=jA g1;clear g1;go_wp2_with fail;refine(HR.out _ pR.out).mono ?_;rintro e w2 ⟨rfl,p2,g2⟩;have HP2:=jA (jd p2 ((pR.out.but _).trans g2));clear p2 g2 HR pR;go_wp2_with fail;go_ret;exact⟨_,rfl,Jv HP2.out.2.size ka rfl,HP2.out.1.grow (ah _ _ none),HP2.out.2.trans ((ah _ _ none).but _)⟩
theorem ai0(hs:s.size<=4000)(ok:p.Ok s)(hk:p.k.kind=2):mV 270 [] s p (oZ p.k.at' ⟨p.k.text,p.k.at'⟩,p.next s):=by
 intro P w h;have HR:Hid (∀x,w.grownBy x none->Calls prog 232 #[Pt P 0] x (qO P s x (.agg #[.string p.k.text,Im p.k.at']) (p.next s))):=λx hx=>by
  have hn:=JH (h.grow hx) ok hs;have e1:p.name s=(⟨p.k.text,p.k.at'⟩,p.next s):=by unfold Hx.Ps.name;rw[jh hk]
  rw[e1]at hn;exact hn
 have c1:=kG.c1 h;have c2:=kG.c2 h;have c3:=kG.c3 h;rw[hk]at c1;generalize p.next s=q at *;generalize p.k.text=kt at *;generalize p.k.at'=ka at *;clear h ok hk;go_enter func270,ntmps270;go_wp2_with fail;refine(Qn ka _).mono ?_;rintro e w1 ⟨rfl,g1⟩;have pR:=jA g1;clear g1;go_wp2_with fail;refine(HR.out _ pR.out).mono ?_;rintro e w2 ⟨rfl,p2,g2⟩;have HP2:=jA (jd p2 ((pR.out.but _).trans g2));clear p2 g2 HR pR;go_wp2_with fail;go_ret;exact⟨_,rfl,⟨0,Jv (at':=ka) HP2.out.2.size ka rfl⟩,HP2.out.1.grow (ah _ _ none),HP2.out.2.trans ((ah _ _ none).but _)⟩
structure Plain(p:Ps):Prop where
 k3:¬p.k.kind=3
 k4:¬p.k.kind=4
 k2:¬p.k.kind=2
theorem Plain.Ll(h:Plain p):(p.k.kind==3)=false/\(p.k.kind==4)=false/\(p.k.kind==2)=false:=by
 obtain⟨h1,h2,h3⟩:=h;exact⟨by simp[h1],by simp[h2],by simp[h3]⟩
theorem lN{t:List UInt8}{b:Bool}(h:p.is t=b):(p.k.text.toList==t)=b:=by rw[aZ];exact h
theorem atU{w:jk}(b:Nat)(a a':Int)(h:w.cell? (Ad b 0)=some (Im a))(hf:∀j,w.frozen? (Ad b j)=false):Calls prog 357 #[Pt b 0,Im a'] w λe w'=>e=.returned (.tuple #[])/\w'=w.setCell (Ad b 0) (Im a'):=by
 go_enter func357,ntmps357;go_wp2;go_end0;exact⟨rfl,rfl⟩
theorem aiZ(hs:s.size<=4000)(ok:p.Ok s)(hp:Plain p)(ht:p.is [116,114,117,101]=true\/(p.is [116,114,117,101]=false/\p.is [102,97,108,115,101]=true)):mV 270 [] s p (zY p.k.at' 1 2 (p.is [116,114,117,101]),p.next s):=by
 intro P w h;have HR:Hid (∀x,w.grownBy x none->Calls prog 236 #[Pt P 0] x (qO P s x (.agg #[Im p.k.kind,.string p.k.text,Im p.k.at']) (p.next s))):=λx hx=>xw (h.grow hx) ok hs;have c1:=kG.c1 h;have c2:=kG.c2 h;have c3:=kG.c3 h;obtain⟨k3,k4,k2⟩:=hp.Ll;have hft:=LQ p.k.kind p.k.at' p.k.text;have hb:p.is [116,114,117,101]=(p.k.text.toList==[116,114,117,101]):=by rw[aZ];rfl
 have ht':(p.k.text.toList==[116,114,117,101])=true\/((p.k.text.toList==[116,114,117,101])=false/\(p.k.text.toList==[102,97,108,115,101])=true):=by rw[aZ];exact ht
 rw[hb];generalize p.next s=q at *;generalize p.k.kind=kk at *;generalize p.k.text=kt at *;generalize p.k.at'=ka at *;clear h ok ht hp hb;rcases ht' with t1|⟨t1,t2⟩;all_goals
  rw[t1];go_enter func270,ntmps270;go_wp2_with fail;refine(Qn ka _).mono ?_;rintro e w1 ⟨rfl,g1⟩;have pR:=jA g1;clear g1;go_wp2_with fail;refine(HR.out _ pR.out).mono ?_;rintro e w2 ⟨rfl,p2,g2⟩;have HP2:Hid (jQ w2 P s q/\w.grownBy w2 (some P)):=⟨p2,(pR.out.but _).trans g2⟩;clear p2 g2 HR pR;go_wp2_with fail;go_ret;exact⟨_,rfl,Jv HP2.out.2.size ka rfl,HP2.out.1.grow (ah _ _ none),HP2.out.2.trans ((ah _ _ none).but _)⟩
theorem aiV(hp:Plain p)(t1:p.is [116,114,117,101]=false)(t2:p.is [102,97,108,115,101]=false)(t3:p.is [40]=true)(hx:kV r.1)(hq:mV 274 [] s p r):mV 270 [] s p (r.1.widen p.k.at',r.2):=by
 intro P w h;have hlt:=h.lt;have HQ:=jA (hq P w h);have c1:=kG.c1 h;have c2:=kG.c2 h;have c3:=kG.c3 h;obtain⟨k3,k4,k2⟩:=hp.Ll;have t1:=lN t1;have t2:=lN t2;have t3:=lN t3;have HX:=jA hx;generalize p.k.kind=kk at *;generalize p.k.text=kt at *;generalize p.k.at'=ka at *;clear h hq hp hx;go_enter func270,ntmps270;go_wp2_with fail;refine HQ.out.mono ?_;rintro e w1 ⟨v,rfl,e1,p1,g1⟩;obtain⟨T,b,rfl,hT,b1,b2,a0,a1,hf⟩:=HX.out.head _ _ _ _ _ e1;have hmw:=hT.widen b;have HW:=jA (atU b _ ka a0 hf);have hne:P≠b:=by omega
 have HF:Hid (r.1.here ka (w1.setCell (Ad b 0) (Im ka)) w.heap.size (w1.setCell (Ad b 0) (Im ka)).heap.size (.iface T (Pt b 0))/\jQ (w1.setCell (Ad b 0) (Im ka)) P s r.2/\w.grownBy (w1.setCell (Ad b 0) (Im ka)) (some P)):=by
  refine⟨?_,p1.Dz hne _ _,pK g1 b1 _ _⟩;have hsz:(w1.setCell (Ad b 0) (Im ka)).heap.size=w1.heap.size:=Array.size_modify ..;rw[hsz];exact HX.out.widen _ _ _ _ _ _ _ e1
 clear e1 p1 g1 HQ hf a0 a1;go_wp2_with fail;refine HW.out.mono ?_;rintro e w2 ⟨rfl,hw2⟩;rw[hw2];go_wp2_with fail;go_ret;exact⟨_,rfl,HF.out⟩
theorem aiT(hs:s.size<=4000)(ok:p.Ok s)(hp:Plain p)(t1:p.is [116,114,117,101]=false)(t2:p.is [102,97,108,115,101]=false)(t3:p.is [40]=false)(t4:p.is [105,115,110,111,110,101]=true)(hx:kV r.1)(hq:mV 274 [] s (p.next s) r):mV 270 [] s p (yZ p.k.at' r.1,r.2):=by
 intro P w h;have hlt:=h.lt;have HN:=jA (xw h ok hs);have HQ:=jA (λx (hx:jQ x P s (p.next s))=>hq P x hx);have c1:=kG.c1 h;have c2:=kG.c2 h;have c3:=kG.c3 h;obtain⟨k3,k4,k2⟩:=hp.Ll;have t1:=lN t1;have t2:=lN t2;have t3:=lN t3;have t4:=lN t4;have HX:=jA hx;have HK:Hid (yK (og (r.1.here r.1.at'))):=qW (hx.law _);generalize htk:xJ p.k=tv at *;generalize p.next s=q at *;generalize p.k.kind=kk at *;generalize p.k.text=kt at *;generalize p.k.at'=ka at *;clear h hq hp hx ok htk;go_enter func270,ntmps270;go_wp2_with fail;refine HN.out.mono ?_;rintro e w1 ⟨rfl,p1,g1⟩;have kJ:=jA (jd p1 g1);clear p1 g1 HN;go_wp2_with fail;refine(HQ.out _ kJ.out.1).mono ?_;rintro e w2 ⟨v,rfl,e2,p2,g2⟩;obtain⟨T,A,rfl,hmp,b1,b2,a1⟩:=HX.out.rZ e2;have HP2:=jA (jd e2 (jd p2 g2));have zA:=jA (uh A 0 _ a1);clear e2 p2 g2 HQ;go_wp2_with fail;refine zA.out.mono ?_;rintro e w3 ⟨rfl,rfl⟩;go_wp2_with fail;refine(zS ka _ [r.1.jw] (VB w3 _ r.1.jw HX.out.jw.1 HX.out.jw.2)).mono ?_;rintro e w4 ⟨rfl,g4⟩;have wF:=jA ((ah w3 _ none).trans g4);clear g4;have HU:Hid (og (r.1.here r.1.at') w4 w.heap.size w4.heap.size [.iface T (Pt A 0)]/\w.heap.size<=w4.heap.size):=by
  have s1:=kJ.out.2.size;have s2:=HP2.out.2.2.size;have s3:=wF.out.size;exact⟨⟨_,rfl,(HX.out.law _).wide _ _ _ _ _ _ ((HX.out.law _).loc _ _ _ _ _ HP2.out.1 (λb _ hb=>wF.out.block b hb (by simp))) s1 s3⟩,by omega⟩
 have KH:Hid (∀o,jQ (w4.alloc o) P s r.2/\w.grownBy (w4.alloc o) (some P)):=λo=>
  ⟨HP2.out.2.1.grow (wF.out.trans (ah w4 o none)),(kJ.out.2.trans HP2.out.2.2).trans ((wF.out.trans (ah w4 o none)).but _)⟩
 go_wp2_with fail;go_ret;exact⟨_,rfl,JQ HK.out HU.out.1 HU.out.2 ka rfl,KH.out _⟩
theorem aiW(hp:Plain p)(t1:p.is [116,114,117,101]=false)(t2:p.is [102,97,108,115,101]=false)(t3:p.is [40]=false)(t4:p.is [105,115,110,111,110,101]=false)(ht:p.is [82,79,65,68,83]=true\/(p.is [82,79,65,68,83]=false/\p.is [70,82,69,83,72]=true)\/(p.is [82,79,65,68,83]=false/\p.is [70,82,69,83,72]=false/\p.is [65,71,65,73,78]=true))(hq:mV 275 [] s p r):mV 270 [] s p r:=by
 intro P w h;have HQ:=jA (hq P w h);have c1:=kG.c1 h;have c2:=kG.c2 h;have c3:=kG.c3 h;obtain⟨k3,k4,k2⟩:=hp.Ll;have t1:=lN t1;have t2:=lN t2;have t3:=lN t3;have t4:=lN t4;have ht':(p.k.text.toList==[82,79,65,68,83])=true\/((p.k.text.toList==[82,79,65,68,83])=false/\(p.k.text.toList==[70,82,69,83,72])=true)\/((p.k.text.toList==[82,79,65,68,83])=false/\(p.k.text.toList==[70,82,69,83,72])=false/\(p.k.text.toList==[65,71,65,73,78])=true):=by rw[aZ];exact ht
 generalize p.k.kind=kk at *;generalize p.k.text=kt at *;generalize p.k.at'=ka at *;clear h hq hp ht;rcases ht' with t5|⟨t5,t6⟩|⟨t5,t6,t7⟩;all_goals
  go_enter func270,ntmps270;go_wp2_with fail;refine HQ.out.mono ?_;rintro e w2 ⟨v,rfl,h1⟩;have HH:=jA h1;clear h1 HQ;go_wp2_with fail;go_ret;exact⟨_,rfl,HH.out⟩
theorem ZR(hp:Plain p)(t1:p.is [116,114,117,101]=false)(t2:p.is [102,97,108,115,101]=false)(t3:p.is [40]=false)(t4:p.is [105,115,110,111,110,101]=false)(t5:p.is [82,79,65,68,83]=false)(t6:p.is [70,82,69,83,72]=false)(t7:p.is [65,71,65,73,78]=false):mV 270 [] s p (rF,p.fail):=by
 intro P w h;have HQ:=jA (Eh h);have c1:=kG.c1 h;have c2:=kG.c2 h;have c3:=kG.c3 h;obtain⟨k3,k4,k2⟩:=hp.Ll;have t1:=lN t1;have t2:=lN t2;have t3:=lN t3;have t4:=lN t4;have t5:=lN t5;have t6:=lN t6;have t7:=lN t7;generalize p.fail=q at *;generalize p.k.kind=kk at *;generalize p.k.text=kt at *;generalize p.k.at'=ka at *;clear h hp;go_enter func270,ntmps270;go_wp2_with fail;refine HQ.out.mono ?_;rintro e w2 ⟨rfl,p2,g2⟩;have HP2:=jA (jd p2 g2);clear p2 g2 HQ;go_wp2_with fail;go_ret;exact⟨_,rfl,Jv HP2.out.2.size 0 rfl,HP2.out.1.grow (ah _ _ none),HP2.out.2.trans ((ah _ _ none).but _)⟩
end
end
end Go.Proofs.YthllhabjfchgiaaGreatDoor
