import Derived.Test.YthllhabjfchgiaaGreatDoorHb25
set_option maxRecDepth 100000
set_option maxHeartbeats 8000000
set_option linter.unusedSimpArgs false
namespace Go.Proofs.YthllhabjfchgiaaGreatDoor
open _root_.Go.Proofs.Tryz
section
open Go.RowKit Hx
attribute [local go_sem ↓] Go.wp_at_zero Go.wp_at_succ
attribute [local go_sem] kL
section
variable {w w' w1 w2:jo}{C lo hi b d:Nat}{c:Ck}{u:jr}{e l r:Ex}{a:Int}{T:jv}
theorem U7{T' T:jv}{at' jy kind:Int}{mk:List jr->List jr}{dn:Dn}{c':Ck}(hk:∀ns,dn.jU ns=kind)(he:kV e)(h1:lo<=b)(h2:b<hi)(hC:hi<=C)(hb:w.heap[b]? =some (.cells (Im a::Im jy::Im kind::mk [u]).toArray T))
 {bk:Nat}(hl:nT e e.at' w w1 lo b u bk C c')(hw:Lk w1 w2 0 0 C)(hc:kX w2 C (dn.look c)):nT (qZ T' T at' jy kind (nX (e.here e.at')) mk dn) a w w2 lo hi (.iface T' (Pt b 0)) b C c:=by
 have k1:=hl.keep;have kk:=k1.trans (hw.all _ _);have hb2:=(kk.keep b (by omega) (jh (aj _))).trans hb;refine⟨⟨b,[u],rfl,h1,h2,⟨u,rfl,(he.law _).lk hl.here hw (by omega) (jh (bD _))⟩,hb2⟩,?_,hc,kk.wide (aj _) (by omega)⟩;show w2.cell? (Ad b 2)=some (Im (dn.jU c.jA));rw[hk];exact jH hb2
theorem adN(h:l7 d e)(a0 kind:Int)(sign:jm):l7 d (tV a0 kind sign e):=by
 refine⟨VL a0 kind sign h.ok,λc=>?_,?_⟩
 .show((e.does.look c).want (e.does.jU c.jA) e.at' kind).jA=c.jA;rw[vY,h.jA]
 rintro a w lo hi T b C c ⟨b',us,hv,h1,h2,⟨u,rfl,hu⟩,hb⟩ hC hc hn;cases hv;obtain⟨T1,b1,f1,rfl,hT1,l1,l2,m1,kK,H1⟩:=h.use (C:=C) (c:=c) hu (by omega) hc hn;have c4:=jJ 4 hb rfl;have kK:∀args w,(callFunc f1 args).run prog w=.ok (.enter f1 args) w:=kK;have H1:Hid (Calls prog f1 #[Pt b1 0,Pt C 0] w λen w'=>en=.returned (.tuple #[])/\nT e e.at' w w' lo b (.iface T1 (Pt b1 0)) b1 C c):=H1;have HC:=jB (jg h hC);have HB:=jB hb;refine⟨367,λw=>by kernel_rfl,λargs w=>by kernel_rfl,?_⟩;clear hu hb hc hn hC h;go_enter func367,ntmps367;go_wp2_with fail;refine H1.out.mono ?_;rintro en w1 ⟨rfl,hl⟩;have hb1:=(hl.keep.keep b (by have:=HC.out.2;omega) (jh (aj _))).trans HB.out;have e4:=jJ 4 hb1 rfl;have e2:=jJ 2 hb1 rfl;have HW:=jB (λn=>hl.want HC.out.1.ok kind n);have HL:=jB hl;clear hl hb1 H1;go_wp2_with fail;refine nJ 10 (by kernel_rfl) (by kernel_rfl) ?_;simp only[aC,aO,aG,aQ];repeat (go_big_quiet_step (fail))
 refine bF ?_;intro _ hw';obtain⟨n3,hw''⟩:=hw';subst hw'';go_wp2_with fail;refine(HW.out _).mono ?_;rintro en w2 ⟨rfl,p1,p2⟩;have HE:Hid (nT (tV a0 kind sign e) a w w2 lo hi (.iface 379 (Pt b 0)) b C c):=U7 (λ_=>rfl) HC.out.1.ok h1 h2 HC.out.2 HB.out HL.out p2 p1;clear p1 p2;go_wp2_with fail;go_end0;exact⟨rfl,HE.out⟩
theorem ali(h:l7 d e)(a0:Int):l7 d (yV a0 e):=by
 refine⟨ack a0 h.ok,λc=>?_,?_⟩
 .show(if e.does.jU c.jA=3 then e.does.look c else (e.does.look c).want (e.does.jU c.jA) e.at' 4).jA=c.jA;split
  .exact h.jA c
  .rw[vY,h.jA]
 rintro a w lo hi T b C c ⟨b',us,hv,h1,h2,⟨u,rfl,hu⟩,hb⟩ hC hc hn;cases hv;obtain⟨T1,b1,f1,rfl,hT1,l1,l2,m1,kK,H1⟩:=h.use (C:=C) (c:=c) hu (by omega) hc hn;have c3:=jJ 3 hb rfl;have kK:∀args w,(callFunc f1 args).run prog w=.ok (.enter f1 args) w:=kK;have H1:Hid (Calls prog f1 #[Pt b1 0,Pt C 0] w λen w'=>en=.returned (.tuple #[])/\nT e e.at' w w' lo b (.iface T1 (Pt b1 0)) b1 C c):=H1;have HC:=jB (jg h hC);have HB:=jB hb;refine⟨384,λw=>by kernel_rfl,λargs w=>by kernel_rfl,?_⟩;have m2:=hT1.sort b1;clear hu hb hc hn hC h hT1;have nR:Hid (∀w1 w2,nT e e.at' w w1 lo b (.iface T1 (Pt b1 0)) b1 C c->Lk w1 w2 0 0 C->kX w2 C (if e.does.jU c.jA=3 then e.does.look c else (e.does.look c).want (e.does.jU c.jA) e.at' 4)->nT (yV a0 e) a w w2 lo hi (.iface 395 (Pt b 0)) b C c):=λw1 w2 q1 q2 q3=>U7 (λ_=>rfl) HC.out.1.ok h1 h2 HC.out.2 HB.out q1 q2 q3;generalize hkk:e.does.jU c.jA=kk at *;by_cases hk:kk=3
 .subst hk;go_enter func384,ntmps384;go_wp2_with fail;refine H1.out.mono ?_;rintro en w1 ⟨rfl,hl⟩;have hb1:=(hl.keep.keep b (by have:=HC.out.2;omega) (jh (aj _))).trans HB.out;have e3:=jJ 3 hb1 rfl;have HS:=jB (NP b1 3 (by rw[<-hkk];exact hl.kind));have HE:=jB (nR.out w1 w1 hl (Lk.refl _ _ _ _) hl.ck);clear hl hb1 H1 hkk;go_wp2_with fail;refine HS.out.mono ?_;rintro en w2 ⟨rfl,rfl⟩;go_wp2_with fail;go_end0;exact⟨rfl,HE.out⟩
 .have hbk:(kk !=3)=true:=by simp[hk]
  rw[jk hk]at nR;go_enter func384,ntmps384;go_wp2_with fail;refine H1.out.mono ?_;rintro en w1 ⟨rfl,hl⟩;have hb1:=(hl.keep.keep b (by have:=HC.out.2;omega) (jh (aj _))).trans HB.out;have e3:=jJ 3 hb1 rfl;have HS:=jB (NP b1 kk (by rw[<-hkk];exact hl.kind));have HW:=jB (hl.want HC.out.1.ok 4 0);have HL:=jB hl;rw[hkk]at HW;clear hl hb1 H1 hkk;go_wp2_with fail;refine HS.out.mono ?_;rintro en w2 ⟨rfl,rfl⟩;go_wp2_with fail;refine HW.out.mono ?_;rintro en w3 ⟨rfl,p1,p2⟩;have HE:=jB (nR.out _ _ HL.out p2 p1);clear p1 p2;go_wp2_with fail;go_end0;exact⟨rfl,HE.out⟩
theorem aoM(h:l7 d e)(a0 kind owner:Int)(t:Wd):l7 d (vS a0 kind owner e t):=by
 obtain⟨tt,ta⟩:=t;refine⟨QH a0 kind owner h.ok _,λc=>?_,?_⟩
 .show((if owner=0 then (e.does.look c).fail 2 ta else e.does.look c).want (e.does.jU c.jA) e.at' owner).jA=c.jA;rw[vY];split
  .rw[Jh,h.jA]
  .exact h.jA c
 rintro a w lo hi T b C c ⟨b',us,hv,h1,h2,⟨u,rfl,hu⟩,hb⟩ hC hc hn;cases hv;obtain⟨T1,b1,f1,rfl,hT1,l1,l2,m1,kK,H1⟩:=h.use (C:=C) (c:=c) hu (by omega) hc hn;have c4:=jJ 4 hb rfl;have kK:∀args w,(callFunc f1 args).run prog w=.ok (.enter f1 args) w:=kK;have H1:Hid (Calls prog f1 #[Pt b1 0,Pt C 0] w λen w'=>en=.returned (.tuple #[])/\nT e e.at' w w' lo b (.iface T1 (Pt b1 0)) b1 C c):=H1;have HC:=jB (jg h hC);have HB:=jB hb;refine⟨371,λw=>by kernel_rfl,λargs w=>by kernel_rfl,?_⟩;clear hu hb hc hn hC h;have nR:Hid (∀w1 w2,nT e e.at' w w1 lo b (.iface T1 (Pt b1 0)) b1 C c->Lk w1 w2 0 0 C->kX w2 C ((if owner=0 then (e.does.look c).fail 2 ta else e.does.look c).want (e.does.jU c.jA) e.at' owner)->nT (vS a0 kind owner e ⟨tt,ta⟩) a w w2 lo hi (.iface 383 (Pt b 0)) b C c):=λw1 w2 q1 q2 q3=>U7 (λ_=>rfl) HC.out.1.ok h1 h2 HC.out.2 HB.out q1 q2 q3;by_cases hk:owner=0
 .subst hk;go_enter func371,ntmps371;go_wp2_with fail;refine H1.out.mono ?_;rintro en w1 ⟨rfl,hl⟩;have hb1:=(hl.keep.keep b (by have:=HC.out.2;omega) (jh (aj _))).trans HB.out;have e3:=jJ 3 hb1 rfl;have e4:=jJ 4 hb1 rfl;have e6:=jJ 6 hb1 rfl;have HF:=jB (Ll hl.ck 2 ta);have HL:=jB (jg hl hb1);clear hl hb1 H1;go_wp2_with fail;refine HF.out.mono ?_;rintro en w2 ⟨rfl,p1,p2⟩;have hbC:b<C:=by have:=HC.out.2;omega
  have hb2:=(p2.keep b hbC (jh (bD _))).trans HL.out.2;have g3:=jJ 3 hb2 rfl;have g4:=jJ 4 hb2 rfl;have HW:Hid (∀n,Calls prog 317 #[Pt C 0,.iface T1 (Pt b1 0),Im 0] (w2.drewN n) λen w3=>en=.returned (.tuple #[])/\kX w3 C (((e.does.look c).fail 2 ta).want (e.does.jU c.jA) e.at' 0)/\Lk w2 w3 0 0 C):=λn=>by
   obtain⟨T',b',hv,hT,_,q2,h0,_⟩:=HC.out.1.ok.head _ _ _ _ _ HL.out.1.here;cases hv;have aby:b1<C:=by omega
   refine(aam (p1.grow (lH w2 n)) hT ((lH w2 n).cell ((p2.cell aby (jh (bD _))).trans HL.out.1.kind) (by simp)) ((lH w2 n).cell ((p2.cell aby (jh (bD _))).trans h0) (by simp)) 0).mono ?_;rintro en w3 ⟨h1,h2,h3⟩;exact⟨h1,h2,(Lk.grown (lH w2 n) p1.lt).trans h3⟩
  have lK:=jB p2;clear p1 p2 hb2;go_wp2_with fail;refine nJ 9 (by kernel_rfl) (by kernel_rfl) ?_;simp only[aC,aO,aG,aQ];repeat (go_big_quiet_step (fail))
  refine bF ?_;intro _ hw';obtain⟨n3,hw''⟩:=hw';subst hw'';go_wp2_with fail;refine(HW.out _).mono ?_;rintro en w3 ⟨rfl,p1,p2⟩;have HE:=jB (nR.out _ _ HL.out.1 (lK.out.trans p2) p1);clear p1 p2;go_wp2_with fail;go_end0;exact⟨rfl,HE.out⟩
 .have hbk:(owner==0)=false:=by simp[hk]
  rw[jk hk]at nR;go_enter func371,ntmps371;go_wp2_with fail;refine H1.out.mono ?_;rintro en w1 ⟨rfl,hl⟩;have hb1:=(hl.keep.keep b (by have:=HC.out.2;omega) (jh (aj _))).trans HB.out;have e3:=jJ 3 hb1 rfl;have e4:=jJ 4 hb1 rfl;have HW:=jB (λn=>hl.want HC.out.1.ok owner n);have HL:=jB hl;clear hl hb1 H1;go_wp2_with fail;refine nJ 9 (by kernel_rfl) (by kernel_rfl) ?_;simp only[aC,aO,aG,aQ];repeat (go_big_quiet_step (fail))
  refine bF ?_;intro _ hw';obtain⟨n3,hw''⟩:=hw';subst hw'';go_wp2_with fail;refine(HW.out _).mono ?_;rintro en w2 ⟨rfl,p1,p2⟩;have HE:=jB (nR.out _ _ HL.out p2 p1);clear p1 p2;go_wp2_with fail;go_end0;exact⟨rfl,HE.out⟩
end
section
variable {w w' w1 w2 w3 w4:jo}{C lo hi b d m:Nat}{c:Ck}{u v:jr}{e l r:Ex}{a:Int}{T:jv}
theorem Va{T' T:jv}{at' jy kind:Int}{mk:List jr->List jr}{dn:Dn}{c1 c2:Ck}(hk:∀ns,dn.jU ns=kind)(hl:kV l)(hr:kV r)(h1:lo<=b)(h2:b<hi)(hC:hi<=C)(hm1:lo<=m)(hm2:m<=b)(hb:w.heap[b]? =some (.cells (Im a::Im jy::Im kind::mk [u,v]).toArray T))
 {b1 b2:Nat}(L1:nT l l.at' w w1 lo m u b1 C c1)(hw:Lk w1 w2 0 0 C)(L2:nT r r.at' w2 w3 m b v b2 C c2)(hw3:Lk w3 w4 0 0 C)(hc:kX w4 C (dn.look c)):nT (qZ T' T at' jy kind (xH (l.here l.at') (r.here r.at')) mk dn) a w w4 lo hi (.iface T' (Pt b 0)) b C c:=by
 have kk:=((L1.keep.wide (aj _) hm2).trans (hw.all _ _)).trans ((L2.keep.wide hm1 (aj _)).trans (hw3.all _ _));have hb2:=(kk.keep b (by omega) (jh (aj _))).trans hb;have e1:=(hl.law _).lk L1.here hw (by omega) (jh (bD _));have e2:=(hl.law _).lk e1 L2.keep (by omega) (ji (aj _));have e3:=(hl.law _).lk e2 hw3 (by omega) (jh (bD _));have e4:=(hr.law _).lk L2.here hw3 (by omega) (jh (bD _));refine⟨⟨b,[u,v],rfl,h1,h2,⟨m,u,v,rfl,hm1,hm2,e3,e4⟩,hb2⟩,?_,hc,kk.wide (aj _) (by omega)⟩;show w4.cell? (Ad b 2)=some (Im (dn.jU c.jA));rw[hk];exact jH hb2
theorem ajr{b:Nat}{k:Int}(hT:lM T)(h:w.cell? (Ad b 2)=some (Im k)):Calls prog 362 #[.iface T (Pt b 0)] w λe w'=>e=.returned (Im (if k=2 then 2 else 1))/\w'=w:=by
 have m1:=hT.sort b;have HS:=jB (NP b k h);by_cases hk:k=2
 .subst hk;go_enter func362,ntmps362;go_wp2_with fail;refine HS.out.mono ?_;rintro en w1 ⟨rfl,rfl⟩;go_wp2_with fail;go_ret;exact⟨rfl,rfl⟩
 .have hb:(k==2)=false:=by simp[hk]
  rw[jk hk];go_enter func362,ntmps362;go_wp2_with fail;refine HS.out.mono ?_;rintro en w1 ⟨rfl,rfl⟩;go_wp2_with fail;go_ret;exact⟨rfl,rfl⟩
theorem anQ(hl:l7 d l)(hr:l7 d r)(a0:Int):l7 d (xJ a0 l r):=by
 refine⟨adI a0 hl.ok hr.ok,λc=>?_,?_⟩
 .show((r.does.look ((l.does.look c).want (l.does.jU c.jA) l.at' 4)).want (r.does.jU ((l.does.look c).want (l.does.jU c.jA) l.at' 4).jA) r.at' 3).jA=c.jA;rw[vY,hr.jA,vY,hl.jA]
 rintro a w lo hi T b C c ⟨b',us,hv,h1,h2,⟨m,u,v,rfl,hm1,hm2,hu,hv2⟩,hb⟩ hC hc hn;cases hv;obtain⟨T1,b1,f1,rfl,hT1,l1,l2,m1,kK,H1⟩:=hl.use (C:=C) (c:=c) hu (by omega) hc hn;have kK:∀args w,(callFunc f1 args).run prog w=.ok (.enter f1 args) w:=kK;have H1:Hid (Calls prog f1 #[Pt b1 0,Pt C 0] w λen w'=>en=.returned (.tuple #[])/\nT l l.at' w w' lo m (.iface T1 (Pt b1 0)) b1 C c):=H1;obtain⟨T2,b2,rfl,hT2,_⟩:=hr.ok.head _ _ _ _ _ hv2;have c3:=jJ 3 hb rfl;have HB:=jB hb;have HC:=jB (jg hl (jg hr (jg hC (jg hn hv2))));refine⟨387,λw=>by kernel_rfl,λargs w=>by kernel_rfl,?_⟩;clear hu hb hc hn hv2 hl hr;go_enter func387,ntmps387;go_wp2_with fail;refine H1.out.mono ?_;rintro en w1 ⟨rfl,L1⟩;have hb1:=(L1.keep.keep b (by omega) (jh hm2)).trans HB.out;have e3:=jJ 3 hb1 rfl;have HW:=jB (L1.want HC.out.1.ok 4 0);have HL:=jB (jg L1 hb1);clear L1 hb1 H1;go_wp2_with fail;refine HW.out.mono ?_;rintro en w2 ⟨rfl,p1,p2⟩;have hb2:=(p2.keep b (by omega) (jh (bD _))).trans HL.out.2;have e4:=jJ 4 hb2 rfl;have hr2:=(HC.out.2.1.ok.law _).lk ((HC.out.2.1.ok.law _).lk HC.out.2.2.2.2 HL.out.1.keep (by omega) (jh (aj _))) p2 (by omega) (jh (bD _));have hnm:((l.does.look c).want (l.does.jU c.jA) l.at' 4).jA=c.jA:=by rw[vY,HC.out.1.jA]
 obtain⟨f2,m2,qg,H2⟩:=HC.out.2.1.look _ _ _ _ _ _ C _ hr2 (by omega) p1 (by rw[hnm];exact HC.out.2.2.2.1);have qg:∀args w,(callFunc f2 args).run prog w=.ok (.enter f2 args) w:=qg;have H2:Hid (Calls prog f2 #[Pt b2 0,Pt C 0] w2 λen w'=>en=.returned (.tuple #[])/\nT r r.at' w2 w' m b (.iface T2 (Pt b2 0)) b2 C ((l.does.look c).want (l.does.jU c.jA) l.at' 4)):=H2;have lK:=jB (jg p2 hb2);clear p1 p2 hb2 hr2 hnm HW;go_wp2_with fail;refine H2.out.mono ?_;rintro en w3 ⟨rfl,L2⟩;have hb3:=(L2.keep.keep b (by omega) (jh (aj _))).trans lK.out.2;have e5:=jJ 4 hb3 rfl;have HW:=jB (L2.want HC.out.2.1.ok 3 0);have HL2:=jB L2;clear L2 hb3 H2;go_wp2_with fail;refine HW.out.mono ?_;rintro en w4 ⟨rfl,p1,p2⟩;have HE:Hid (nT (xJ a0 l r) a w w4 lo hi (.iface 398 (Pt b 0)) b C c):=Va (λ_=>rfl) HC.out.1.ok HC.out.2.1.ok h1 h2 hC hm1 hm2 HB.out HL.out.1 lK.out.1 HL2.out p2 p1;clear p1 p2;go_wp2_with fail;go_end0;exact⟨rfl,HE.out⟩
theorem arz(hl:l7 d l)(hr:l7 d r)(a0 kind:Int)(sign:jm):l7 d (o7 a0 kind sign l r):=by
 refine⟨RF a0 kind sign hl.ok hr.ok,λc=>?_,?_⟩
 .show((r.does.look ((l.does.look c).want (l.does.jU c.jA) l.at' (qj sign (l.does.jU c.jA)))).want (r.does.jU ((l.does.look c).want (l.does.jU c.jA) l.at' (qj sign (l.does.jU c.jA))).jA) r.at' (qj sign (l.does.jU c.jA))).jA=c.jA;rw[vY,hr.jA,vY,hl.jA]
 rintro a w lo hi T b C c ⟨b',us,hv,h1,h2,⟨m,u,v,rfl,hm1,hm2,hu,hv2⟩,hb⟩ hC hc hn;cases hv;obtain⟨T1,b1,f1,rfl,hT1,l1,l2,m1,kK,H1⟩:=hl.use (C:=C) (c:=c) hu (by omega) hc hn;have kK:∀args w,(callFunc f1 args).run prog w=.ok (.enter f1 args) w:=kK;have H1:Hid (Calls prog f1 #[Pt b1 0,Pt C 0] w λen w'=>en=.returned (.tuple #[])/\nT l l.at' w w' lo m (.iface T1 (Pt b1 0)) b1 C c):=H1;obtain⟨T2,b2,rfl,hT2,_⟩:=hr.ok.head _ _ _ _ _ hv2;have c4:=jJ 4 hb rfl;have HB:=jB hb;have HC:=jB (jg hl (jg hr (jg hC (jg hn hv2))));have Sv:=jB (λx=>afp sign x);have HT1:=jB hT1;refine⟨355,λw=>by kernel_rfl,λargs w=>by kernel_rfl,?_⟩;clear hu hb hc hn hv2 hl hr hT1;have hsd:qj sign (l.does.jU c.jA)=if (ni sign.data.toList).1=0 then (if l.does.jU c.jA=2 then 2 else 1)else (ni sign.data.toList).1:=rfl;generalize hside:qj sign (l.does.jU c.jA)=side at *;have Zc:=jB hside;clear hside;generalize hsk:ni sign.data.toList=sk at *;obtain⟨s1,s2⟩:=sk;simp only at hsd Sv;go_enter func355,ntmps355;go_wp2_with fail;refine H1.out.mono ?_;rintro en w1 ⟨rfl,L1⟩;have hb1:=(L1.keep.keep b (by omega) (jh hm2)).trans HB.out;have e3:=jJ 3 hb1 rfl;have e4:=jJ 4 hb1 rfl;have HQ:=jB (ajr HT1.out L1.kind);have HW:=jB (L1.want HC.out.1.ok side 0);have HL:=jB (jg L1 hb1);clear L1 hb1 H1;generalize hlk:l.does.jU c.jA=lk at *;have Y2:=jB hlk;clear hlk;by_cases hs1:s1=0
 .subst hs1;rw[jl rfl]at hsd;rw[<-hsd]at HQ;clear hsd;go_wp2_with fail;refine(Sv.out _).mono ?_;rintro en w1' ⟨rfl,rfl⟩;go_wp2_with fail;refine HQ.out.mono ?_;rintro en w1' ⟨rfl,rfl⟩;go_wp2_with fail;refine HW.out.mono ?_;rintro en w2 ⟨rfl,p1,p2⟩;have hb2:=(p2.keep b (by omega) (jh (bD _))).trans HL.out.2;have e5:=jJ 5 hb2 rfl;have hr2:=(HC.out.2.1.ok.law _).lk ((HC.out.2.1.ok.law _).lk HC.out.2.2.2.2 HL.out.1.keep (by omega) (jh (aj _))) p2 (by omega) (jh (bD _));have hnm:((l.does.look c).want lk l.at' side).jA=c.jA:=by rw[vY,HC.out.1.jA]
  obtain⟨f2,m2,qg,H2⟩:=HC.out.2.1.look _ _ _ _ _ _ C _ hr2 (by omega) p1 (by rw[hnm];exact HC.out.2.2.2.1);have qg:∀args w,(callFunc f2 args).run prog w=.ok (.enter f2 args) w:=qg;have H2:Hid (Calls prog f2 #[Pt b2 0,Pt C 0] w2 λen w'=>en=.returned (.tuple #[])/\nT r r.at' w2 w' m b (.iface T2 (Pt b2 0)) b2 C ((l.does.look c).want lk l.at' side)):=H2;have lK:=jB (jg p2 hb2);clear p1 p2 hb2 hr2 hnm HW;go_wp2_with fail;refine H2.out.mono ?_;rintro en w3 ⟨rfl,L2⟩;have hb3:=(L2.keep.keep b (by omega) (jh (aj _))).trans lK.out.2;have e6:=jJ 5 hb3 rfl;have HW:=jB (L2.want HC.out.2.1.ok side 0);have HL2:=jB L2;clear L2 hb3 H2;go_wp2_with fail;refine HW.out.mono ?_;rintro en w4 ⟨rfl,p1,p2⟩;have HE:Hid (nT (o7 a0 kind sign l r) a w w4 lo hi (.iface 374 (Pt b 0)) b C c):=by
   refine Va (λ_=>rfl) HC.out.1.ok HC.out.2.1.ok h1 h2 hC hm1 hm2 HB.out HL.out.1 lK.out.1 HL2.out p2 ?_;have h0:(o7 a0 kind sign l r).does.look c=(r.does.look ((l.does.look c).want lk l.at' side)).want (r.does.jU ((l.does.look c).want lk l.at' side).jA) r.at' side:=by
    show(r.does.look ((l.does.look c).want (l.does.jU c.jA) l.at' (qj sign (l.does.jU c.jA)))).want (r.does.jU ((l.does.look c).want (l.does.jU c.jA) l.at' (qj sign (l.does.jU c.jA))).jA) r.at' (qj sign (l.does.jU c.jA))=_;rw[Y2.out,Zc.out]
   have p1:kX w4 C ((o7 a0 kind sign l r).does.look c):=by rw[h0];exact p1
   exact p1
  clear p1 p2;go_wp2_with fail;go_end0;exact⟨rfl,HE.out⟩
 .have hb0:(s1==0)=false:=by simp[hs1]
  rw[jk hs1]at hsd;subst hsd;go_wp2_with fail;refine(Sv.out _).mono ?_;rintro en w1' ⟨rfl,rfl⟩;go_wp2_with fail;refine HW.out.mono ?_;rintro en w2 ⟨rfl,p1,p2⟩;have hb2:=(p2.keep b (by omega) (jh (bD _))).trans HL.out.2;have e5:=jJ 5 hb2 rfl;have hr2:=(HC.out.2.1.ok.law _).lk ((HC.out.2.1.ok.law _).lk HC.out.2.2.2.2 HL.out.1.keep (by omega) (jh (aj _))) p2 (by omega) (jh (bD _));have hnm:((l.does.look c).want lk l.at' side).jA=c.jA:=by rw[vY,HC.out.1.jA]
  obtain⟨f2,m2,qg,H2⟩:=HC.out.2.1.look _ _ _ _ _ _ C _ hr2 (by omega) p1 (by rw[hnm];exact HC.out.2.2.2.1);have qg:∀args w,(callFunc f2 args).run prog w=.ok (.enter f2 args) w:=qg;have H2:Hid (Calls prog f2 #[Pt b2 0,Pt C 0] w2 λen w'=>en=.returned (.tuple #[])/\nT r r.at' w2 w' m b (.iface T2 (Pt b2 0)) b2 C ((l.does.look c).want lk l.at' side)):=H2;have lK:=jB (jg p2 hb2);clear p1 p2 hb2 hr2 hnm HW;go_wp2_with fail;refine H2.out.mono ?_;rintro en w3 ⟨rfl,L2⟩;have hb3:=(L2.keep.keep b (by omega) (jh (aj _))).trans lK.out.2;have e6:w3.cell? (Ad b 5)=some (.iface T2 (Pt b2 0)):=jH hb3;have HW:Hid (Calls prog 317 #[Pt C 0,.iface T2 (Pt b2 0),Im side] w3 λen w4=>en=.returned (.tuple #[])/\kX w4 C ((r.does.look ((l.does.look c).want lk l.at' side)).want (r.does.jU ((l.does.look c).want lk l.at' side).jA) r.at' side)/\Lk w3 w4 0 0 C):=L2.want HC.out.2.1.ok side 0;have HL2:Hid (nT r r.at' w2 w3 m b (.iface T2 (Pt b2 0)) b2 C ((l.does.look c).want lk l.at' side)):=L2;clear L2 hb3 H2;go_wp2_with fail;refine HW.out.mono ?_;rintro en w4 ⟨rfl,p1,p2⟩;have HE:Hid (nT (o7 a0 kind sign l r) a w w4 lo hi (.iface 374 (Pt b 0)) b C c):=by
   refine Va (λ_=>rfl) HC.out.1.ok HC.out.2.1.ok h1 h2 hC hm1 hm2 HB.out HL.out.1 lK.out.1 HL2.out p2 ?_;have h0:(o7 a0 kind sign l r).does.look c=(r.does.look ((l.does.look c).want lk l.at' side)).want (r.does.jU ((l.does.look c).want lk l.at' side).jA) r.at' side:=by
    show(r.does.look ((l.does.look c).want (l.does.jU c.jA) l.at' (qj sign (l.does.jU c.jA)))).want (r.does.jU ((l.does.look c).want (l.does.jU c.jA) l.at' (qj sign (l.does.jU c.jA))).jA) r.at' (qj sign (l.does.jU c.jA))=_;rw[Y2.out,Zc.out]
   have p1:kX w4 C ((o7 a0 kind sign l r).does.look c):=by rw[h0];exact p1
   exact p1
  clear p1 p2;go_wp2_with fail;go_end0;exact⟨rfl,HE.out⟩
end
end
section
open Go.RowKit Hx
section
theorem ZW{g:Nat}:∀{bs:List (Wd×Ex)}{w w':jo}{lo hi:Nat}{us:List jr},(∀b∈bs,∀a,Lawful (b.2.here a))->uP g bs w lo hi us->(∀b,lo<=b->b<hi->b≠g->w'.heap[b]? =w.heap[b]?)->uP g bs w' lo hi us
 |[],_,_,_,_,_,_,h,_=>h
 |b::bs,_,_,_,_,_,hl,⟨l,m,u,us',h0,h1,h2,h3,h4,h5,h6⟩,hk=>
  ⟨l,m,u,us',h0,h1,h2,h3,h4,(hl b (aW ..) _).loc _ _ _ _ _ h5 (λk k1 k2=>hk k (by omega) (by omega) (by omega)),ZW (λc hc=>hl c (aI _ hc)) h6 (λk k1 k2 k3=>hk k (by omega) k2 k3)⟩
theorem ZX{g:Nat}:∀{bs:List (Wd×Ex)}{w:jo}{lo hi:Nat}{us:List jr},uP g bs w lo hi us->us.length=bs.length
 |[],_,_,_,_,h=>by
  have h:=h;rw[h];rfl
 |_::_,_,_,_,_,⟨_,_,_,_,h0,_,_,_,_,_,h6⟩=>by rw[h0];simp[ZX h6]
theorem ZV:∀(bs:List (Wd×Ex))(us:List jr)(b:Wd×Ex)(u:jr),us.length=bs.length->wS (bs++[b]) (us++[u])=wS bs us++Ov b.1 u
 |[],[],b,u,_=>by simp[wS]
 |c::bs,v::us,b,u,h=>by
  have:=ZV bs us b u (by simpa using h);simp[wS,this]
 |[],_::_,_,_,h=>by simp at h
 |_::_,[],_,_,h=>by simp at h
structure rV(P:Nat)(w wr:jo)(S:Nat)(fv:jr)(g:Nat)(x:Sx)(us:List jr)(m:Nat):Prop where
 FH:uP g x.jF wr (S+1) m us
 own:wr.ownsRow (S+1) 361 3 fv x.jF.length (wS x.jF us)
 jL:(fv.ownBlock=some g/\g<m)\/(x.jF=[]/\fv=Nl)
 Gg:S+1<=m
 EC:m<=wr.heap.size
 Gq:w.heap.size<=S
 set:wr.heap[S]? =some (.cells #[Im x.at',Im x.jy,.string x.base,Im x.of,fv] 348)
 grown:w.grownBy wr (some P)
variable {P S g m gg cap n l hh:Nat}{w wr w2 wy w':jo}{fv u:jr}{x:Sx}{us:List jr}{d:Wd}{e:Ex}{s:jm}{q:Ps}
theorem rV.keep(h:rV P w wr S fv g x us m)(hx:oU x)(hP:P<w.heap.size)(hg:wr.grownBy w' (some P)):rV P w w' S fv g x us m:=by
 have h1:=h.Gq;have h2:=h.Gg;have h3:=h.EC;have h4:=hg.size;refine⟨FI (λb hb a=>(hx.all b hb).law a) h.FH (λb b1 b2=>hg.block b (by omega) (by simp;omega)),h.own.kept hg ?_,h.jL,h2,by omega,h1,(hg.block S (by omega) (by simp;omega)).trans h.set,h.grown.trans hg⟩;cases hb:fv.ownBlock with
 |none=>exact ji rfl
 |some k=>right;have:=(h.own.lt k hb).1;simp;omega
theorem rV.out(h:rV P w wr S fv g x us m):oN x wr w.heap.size wr.heap.size (Pt S 0):=by
 have h1:=h.Gq;have h2:=h.Gg;have h3:=h.EC;refine⟨S,fv,rfl,h1,by omega,h.set,?_⟩;rcases h.own with⟨_,⟨k2,k3⟩|⟨g',cap,cur,k2,k3,k4,k5,k6,k7,k8⟩⟩
 .exact ji ⟨List.length_eq_zero_iff.1 k3,k2⟩
 .rcases h.jL with⟨hg,hg2⟩|⟨_,hg⟩
  .subst k2;simp only[Value.ownBlock,bJ]at hg;subst hg;refine jh ⟨g',cap,S+1,us,cur,rfl,by omega,by omega,by omega,by omega,OB h.FH h3,k4,λj v hj=>?_⟩;rw[<-k8]at hj;rw[iZ]at hj;split at hj
   .simpa using hj
   .cases hj
  .rw[hg]at k2;cases k2
theorem rV.oV(h:rV P w wr S fv g x us m)(BG:wr.grownBy wy none)(hgr:wy.grownBy w2 fv.ownBlock):
 (∀b,b<wr.heap.size->b≠g\/m<=b\/b<=S->w2.heap[b]? =wr.heap[b]?)/\w.grownBy w2 (some P):=by
 have h1:=h.Gq;have h2:=h.Gg;have h3:=h.EC;have h4:=BG.size;rcases h.jL with⟨k1,k2⟩|⟨k1,k2⟩
 .rw[k1]at hgr;have hgB:=(h.own.lt g k1).1;refine⟨λb hb hb2=>(hgr.block b (by omega) (by simp;omega)).trans (BG.block b hb (by simp)),?_⟩;exact(h.grown.trans (BG.but _)).andThen hgr (λj ej=>by cases ej;exact ji (by omega))
 .rw[k2]at hgr;have hgr:wy.grownBy w2 none:=hgr;exact⟨λb hb _=>(hgr.block b (by omega) (by simp)).trans (BG.block b hb (by simp)),h.grown.trans ((BG.trans hgr).but _)⟩
theorem rV.add(h:rV P w wr S fv g x us m)(hx:oU x)(he:kV e)(BG:wr.grownBy wy none)(hgr:wy.grownBy w2 fv.ownBlock)
 (hown:w2.ownsRow (S+1) 361 3 (.slice (some (Ad gg 0)) n cap) (x.jF.length+1) (wS x.jF us++Ov d u))(hat:fv.ownBlock=some gg\/wr.heap.size<=gg)(hlt2:gg<w2.heap.size)
 (hh1:e.here e.at' wr l hh u)(hl1:m<=l)(hl2:l<=hh)(hl3:hh<=wr.heap.size):
 rV P w (w2.setCell (Ad S 4) (.slice (some (Ad gg 0)) n cap)) S (.slice (some (Ad gg 0)) n cap) gg {x with jF:=x.jF++[(d,e)]} (us++[u]) w2.heap.size:=by
 have h1:=h.Gq;have h2:=h.Gg;have h3:=h.EC;have h4:=BG.size;have h5:=hgr.size;obtain⟨n1,n2⟩:=h.oV BG hgr;have hgm:gg=g/\g<m\/wr.heap.size<=gg:=by
  rcases hat with k1|k1
  .rcases h.jL with⟨k2,k3⟩|⟨_,k2⟩
   .rw[k2]at k1;exact ji ⟨(fZ k1).symm,k3⟩
   .rw[k2]at k1;cases k1
  .exact jh k1
 have rO:∀b∈x.jF,∀a,Lawful (b.2.here a):=λb hb a=>(hx.all b hb).law a;have k1:=ZW rO h.FH (λb b1 b2 b3=>n1 b (by omega) (ji b3));have k2:uP gg x.jF w2 (S+1) m us:=by
  rcases hgm with⟨h1,_⟩|h1
  .rw[h1];exact k1
  .exact ZY k1 (by omega)
 have k3:=(he.law _).loc _ _ _ _ _ hh1 (λb b1 b2=>n1 b (by omega) (jh (ji (by omega))));have k4:uP gg (x.jF++[(d,e)]) w2 (S+1) w2.heap.size (us++[u]):=Z4 (OB k2 hl1) k3 (by omega) hl2 (by omega) (by omega);have akk:∀b∈x.jF++[(d,e)],∀a,Lawful (b.2.here a):=λb hb a=>by
  rcases List.mem_append.1 hb with hb|hb
  .exact rO b hb a
  .rw[cO.1 hb];exact he.law a
 have hSn:S≠gg:=by have:=(hown.lt gg rfl).1;omega
 have hset:=(n1 S (by omega) (jh (jh (aj _)))).trans h.set;have hsz:(w2.setCell (Ad S 4) (.slice (some (Ad gg 0)) n cap)).heap.size=w2.heap.size:=by simp[World.setCell]
 refine⟨FI akk k4 (λb b1 b2=>bC _ _ _ _ (by simp only;omega)),?_,ji ⟨rfl,hlt2⟩,by omega,by rw[hsz];exact aj _,h1,?_,?_⟩
 .rw[ZV _ _ _ _ (ZX h.FH)];have:=hown.kept (vH w2 (Ad S 4) (.slice (some (Ad gg 0)) n cap)) (jh (by simp[Value.ownBlock];omega));simpa using this
 .exact aK _ _ _ _ _ _ hset
 .exact pG n2 h1 _ _
theorem rV.jy(h:rV P w wr S fv g x us m)(hx:oU x)(hP:P<w.heap.size)(hg:wr.grownBy w' none)(c:Int):rV P w (w'.setCell (Ad S 1) (Im c)) S fv g {x with jy:=c} us m:=by
 have k:=h.keep hx hP (hg.but _);have h1:=h.Gq;have hsz:(w'.setCell (Ad S 1) (Im c)).heap.size=w'.heap.size:=by simp[World.setCell]
 refine⟨FI (λb hb a=>(hx.all b hb).law a) k.FH (λb b1 b2=>bC _ _ _ _ (by simp only;omega)),?_,h.jL,k.Gg,by rw[hsz];exact k.EC,h1,aK _ _ _ _ _ _ k.set,pG k.grown h1 _ _⟩;refine k.own.kept (vH w' (Ad S 1) (Im c)) ?_;cases hb:fv.ownBlock with
 |none=>exact ji rfl
 |some j=>right;have:=(k.own.lt j hb).1;simp;omega
theorem rV.start(hset:wr.heap[S]? =some (.cells #[Im x.at',Im x.jy,.string x.base,Im x.of,Nl] 348))(hx:x.jF=[])(hS:w.heap.size<=S)(hg:w.grownBy wr (some P)):rV P w wr S (Nl) 0 x [] (S+1):=by
 refine⟨?_,?_,jh ⟨hx,rfl⟩,aj _,lN hset,hS,hset,hg⟩
 .rw[hx];rfl
 .rw[hx];exact fK _ _ _ _
end
end
section
open Go.RowKit Hx
attribute [local go_sem ↓] Go.wp_at_zero Go.wp_at_succ
attribute [local go_sem] kL
section
variable {w w' w1 w2 w3 w4:jo}{C lo hi b d m k:Nat}{c:Ck}{u v:jr}{e l r:Ex}{a:Int}{T:jv}{o:Obj}
structure BZ(w:jo)(C k:Nat)(o:Obj):Prop where
 at':w.heap[k]? =some o
 gt:C<k
 row:rowOf w C≠some k
theorem BZ.lk(h:BZ w C k o)(hl:Lk w w' lo hi C):BZ w' C k o:=
 ⟨(hl.oV k h.gt (lN h.at') (λe=>h.row e.symm)).trans h.at',h.gt,λe=>by
   rcases hl.row k e with e2|e2
   .exact h.row e2
   .have:=lN h.at';omega⟩
theorem BZ.new(hc:kX w C c)(o:Obj):BZ (w.alloc o) C w.heap.size o:=by
 have hC:=hc.lt;refine⟨aY w o,hC,λe=>?_⟩;rw[Wy (fP w o C hC)]at e;obtain⟨v,h⟩:=hc;have hr:rowOf w C=v.ownBlock:=by unfold rowOf;rw[show w.cell? (Ad C 0)=some v from jH h.jL]
 rw[hr]at e;have:=(h.row.lt _ e).2;omega
theorem aec{a:Option Addr}{n n' cap cap' k:Nat}(h:(Value.slice a n cap).ownBlock=some k):(Value.slice a n' cap').ownBlock=some k:=by
 cases a with
 |none=>cases h
 |some ad=>exact h
theorem ZP(c:Ck)(t:jm)(ta:Int)(e:Dn)(ea one want:Int)(he:∀c,(e.look c).jA=c.jA):(c.bracket t ta e ea one want).jA=c.jA:=by
 unfold Ck.bracket Ck.cut;simp only[vY,he,Ck.add,J8];simp
theorem aal(h:l7 d e)(hh:e.here e.at' w lo hi u)(hC:hi<=C)(hc:kX w C c)(hn:c.jA.length+(d+1)<=900000)(t:jm)(ta one want:Int):
 Calls prog 351 #[Pt C 0,.agg #[.string t,Im ta,u],Im one,Im want] w λen w'=>en=.returned (.tuple #[])/\e.here e.at' w' lo hi u/\kX w' C (c.bracket t ta e.does e.at' one want)/\Lk w w' lo hi C:=by
 have yU:=hc.lt;obtain⟨T1,b1,rfl,hT1,l1,l2,_⟩:=h.ok.head _ _ _ _ _ hh;have g0:w.grownBy (w.alloc (.cells #[.string t,Im ta,.iface T1 (Pt b1 0)] 361)) none:=ah w _ none;have hbx0:BZ (w.alloc (.cells #[.string t,Im ta,.iface T1 (Pt b1 0)] 361)) C w.heap.size (.cells #[.string t,Im ta,.iface T1 (Pt b1 0)] 361):=BZ.new hc _;have HA:=jB (jg h (jg hC hn));have hN0:=TL (hc.grow g0) t ta (by omega);have HN:Hid (Calls prog 325 #[Pt C 0,.agg #[.string t,Im ta]] (w.alloc (.cells #[.string t,Im ta,.iface T1 (Pt b1 0)] 361)) λen w'=>en=.returned (.tuple #[])/\kX w' C (c.mD t ta)/\BZ w' C w.heap.size (.cells #[.string t,Im ta,.iface T1 (Pt b1 0)] 361)/\Lk w w' 0 0 C/\e.here e.at' w' lo hi (.iface T1 (Pt b1 0))):=hN0.mono λen w' ⟨q1,q2,q3⟩=>by
  have hl:=(Lk.grown g0 yU).trans q3;exact⟨q1,q2,hbx0.lk q3,hl,(h.ok.law _).lk hh hl hC (jh (bD _))⟩
 have n0:¬C=w.heap.size:=by omega
 clear hN0 hbx0 g0 hh hc hn hT1 h;go_enter func351,ntmps351;go_wp2_with fail;refine HN.out.mono ?_;rintro en w1 ⟨rfl,k1,bx1,lk1,hh1⟩;have PN:=J8 c t ta;have kH:=jB (jg k1 (jg bx1 (jg lk1 hh1)));obtain⟨v1,q1⟩:=kH.out.1;obtain⟨a1,cap1,rfl⟩:=Aw q1.row;rw[PN]at q1;have c0:=jJ 0 q1.jL rfl;have x0:=jJ 0 bx1.at' rfl;have x1:=jJ 1 bx1.at' rfl;have hA1:=TI kH.out.1 t ta one false (by rw[PN];have:=HA.out.2.2;omega);have GN:=jB hA1;have hcl:c.jA.length<=900000:=by have:=HA.out.2.2;omega
 clear k1 bx1 lk1 hh1 q1 hA1 HN;generalize hnl:c.jA.length=nl at *;go_wp2_with fail;refine GN.out.mono ?_;rintro en w2 ⟨rfl,k2,Qj⟩;have TD:=kH.out.2.1.lk Qj;have hh2:=(HA.out.1.ok.law _).lk kH.out.2.2.2 Qj HA.out.2.1 (jh (bD _));have hn2:((c.mD t ta).add t one false).jA.length+d<=900000:=by
  have:=HA.out.2.2;unfold Ck.add;rw[PN];simp only[aA,aF,bg];omega
 obtain⟨f1,m1,kK,H1⟩:=HA.out.1.look _ _ _ _ _ _ C _ hh2 HA.out.2.1 k2 hn2;have kK:∀args w,(callFunc f1 args).run prog w=.ok (.enter f1 args) w:=kK;have H1:Hid (Calls prog f1 #[Pt b1 0,Pt C 0] w2 λen w'=>en=.returned (.tuple #[])/\nT e e.at' w2 w' lo hi (.iface T1 (Pt b1 0)) b1 C ((c.mD t ta).add t one false)):=H1;have x2:=jJ 2 TD.at' rfl;have HP2:=jB (jg TD (kH.out.2.2.1.trans Qj));clear k2 Qj TD hh2 hn2 GN;go_wp2_with fail;refine H1.out.mono ?_;rintro en w3 ⟨rfl,L3⟩;have Z5:=HP2.out.1.lk L3.keep;have x3:=jJ 2 Z5.at' rfl;have HW:=jB (L3.want HA.out.1.ok want 0);have wL:=jB L3;clear L3 Z5 H1;go_wp2_with fail;refine HW.out.mono ?_;rintro en w4 ⟨rfl,k4,lk4⟩;have UE:((e.does.look ((c.mD t ta).add t one false)).want (e.does.jU ((c.mD t ta).add t one false).jA) e.at' want).jA.length=nl+1:=by
  rw[vY,HA.out.1.jA];unfold Ck.add;rw[PN];simp only[aA,aF,bg];omega
 obtain⟨v4,q4⟩:=k4;obtain⟨a4,cap4,rfl⟩:=Aw q4.row;rw[UE]at q4;have y0:=jJ 0 q4.jL rfl;have fz:=qJ q4.jL;have hcap:nl+1<=cap4:=by
  have:=q4.row;rw[UE]at this;rcases this with⟨_,⟨h2,h3⟩|⟨g,cap',cur,h2,_,_,h5,_⟩⟩
  .omega
  .cases h2;exact h5
 have hcut:=q4.cut (m:=nl) (by omega);have HE:Hid (e.here e.at' (w4.setCell (Ad C 0) (.slice a4 nl cap4)) lo hi (.iface T1 (Pt b1 0))/\kX (w4.setCell (Ad C 0) (.slice a4 nl cap4)) C (c.bracket t ta e.does e.at' one want)/\Lk w (w4.setCell (Ad C 0) (.slice a4 nl cap4)) lo hi C):=by
  have hl5:Lk w4 (w4.setCell (Ad C 0) (.slice a4 nl cap4)) 0 0 C:=Lk.named (v:=.slice a4 (nl+1) cap4) (aN _ _) q4.lt y0 (λk hk=>by have:=(q4.row.lt k hk).1;omega) (λk hk=>ji (aec hk));have h34:=lk4.trans hl5;refine⟨(HA.out.1.ok.law _).lk wL.out.here h34 HA.out.2.1 (jh (bD _)),⟨.slice a4 nl cap4,?_⟩,(HP2.out.2.all _ _).trans (wL.out.keep.trans (h34.all _ _))⟩;unfold Ck.bracket;rw[hnl];exact hcut
 clear q4 hcut lk4 UE;have i0:(0:Int)<=(nl:Int):=by omega
 have i1:(nl:Int)<=(cap4:Int):=by omega
 go_wp2_with fail;go_end0;exact⟨rfl,HE.out⟩
end
section
variable {w w' w1 w2 w3 w4:jo}{C lo hi b d m k:Nat}{c:Ck}{u v:jr}{e l r:Ex}{a:Int}{T:jv}{o:Obj}{x:Sx}
theorem TB{g:Nat}:∀{bs:List (Wd×Ex)}{w:jo}{lo hi i:Nat}{us:List jr}{b:Wd×Ex},(∀b∈bs,∀a,Lawful (b.2.here a))->uP g bs w lo hi us->bs[i]? =some b->
 ∃l m u,us[i]? =some u/\lo<=l/\l<=m/\m<=hi/\(g<l\/m<=g)/\b.2.here b.2.at' w l m u/\∀w',(∀k,lo<=k->k<hi->k<l\/m<=k->w'.heap[k]? =w.heap[k]?)->b.2.here b.2.at' w' l m u->uP g bs w' lo hi us
 |[],_,_,_,_,_,_,_,_,hb=>by simp at hb
 |b0::bs,w,lo,hi,0,us,b,hl,⟨l,m,u,us',h0,h1,h2,h3,h4,h5,h6⟩,hb=>by
  simp only[dw,bJ]at hb;subst hb h0;refine⟨l,m,u,rfl,h1,h2,h3,h4,h5,λw' hk hh=>⟨l,m,u,us',rfl,h1,h2,h3,h4,hh,?_⟩⟩;exact FI (λc hc=>hl c (aI _ hc)) h6 (λk k1 k2=>hk k (by omega) k2 (jh k1))
 |b0::bs,w,lo,hi,i+1,us,b,hl,⟨l,m,u,us',h0,h1,h2,h3,h4,h5,h6⟩,hb=>by
  subst h0;obtain⟨l',m',u',q0,q1,q2,q3,q4,q5,q6⟩:=TB (i:=i) (λc hc=>hl c (aI _ hc)) h6 (by simpa using hb);refine⟨l',m',u',by simpa using q0,by omega,q2,q3,q4,q5,λw' hk hh=>⟨l,m,u,us',rfl,h1,h2,h3,h4,?_,q6 w' (λk k1 k2 k3=>hk k (by omega) k2 k3) hh⟩⟩;exact(hl b0 (aW ..) _).loc _ _ _ _ _ h5 (λk k1 k2=>hk k (by omega) (by omega) (ji (by omega)))
theorem Oz:∀(bs:List (Wd×Ex))(us:List jr)(i:Nat)(b:Wd×Ex)(u:jr),bs[i]? =some b->us[i]? =some u->(wS bs us)[i * 3]? =some (.string b.1.text)/\(wS bs us)[i * 3+1]? =some (Im b.1.at')/\(wS bs us)[i * 3+2]? =some u
 |[],_,i,b,u,h,_=>by simp at h
 |_::_,[],i,b,u,_,h=>by simp at h
 |b0::bs,u0::us,0,b,u,h,k=>by
  simp only[dw,bJ]at h k;subst h k;exact⟨rfl,rfl,rfl⟩
 |b0::bs,u0::us,i+1,b,u,h,k=>by
  have ih:=Oz bs us i b u (by simpa using h) (by simpa using k);have e:∀j,(wS (b0::bs) (u0::us))[j+3]? =(wS bs us)[j]? :=λj=>by simp[wS,Ov]
  have e1:(i+1) * 3=i * 3+3:=by omega
  rw[e1];exact⟨(e _).trans ih.1,(e (i * 3+1)).trans ih.2.1,(e (i * 3+2)).trans ih.2.2⟩
theorem MW(of:Int):∀(fs:List (Wd×Ex))(c:Ck),(∀b∈fs,∀c,(b.2.does.look c).jA=c.jA)->(nM of fs c).jA=c.jA
 |[],_,_=>rfl
 |b::fs,c,h=>by
  unfold nM;rw[bP];have:=MW of fs (c.bracket b.1.text b.1.at' b.2.does b.2.at' of 2) (λb' hb=>h b' (aI _ hb));unfold nM at this;rw[this,ZP _ _ _ _ _ _ _ (h b (aW ..))]
theorem amA(of:Int)(fs:List (Wd×Ex))(c:Ck)(i:Nat)(b:Wd×Ex)(h:fs[i]? =some b):nM of (fs.take (i+1)) c=(nM of (fs.take i) c).bracket b.1.text b.1.at' b.2.does b.2.at' of 2:=by
 have h1:fs.take (i+1)=fs.take i++[b]:=by rw[fU,h];rfl
 rw[h1];unfold nM;rw[dV]
 rfl
structure SY(x:Sx)(S g cap:Nat)(w wr:jo)(lo hi m C:Nat)(us:List jr)(arr:Array jr)(c:Ck)(i:Nat):Prop where
 set:wr.heap[S]? =some (.cells #[Im x.at',Im x.jy,.string x.base,Im x.of,.slice (some (Ad g 0)) x.jF.length cap] 348)
 row:wr.heap[g]? =some (.cells arr 361)
 FH:uP g x.jF wr m hi us
 ck:kX wr C (nM x.of (x.jF.take i) c)
 keep:Lk w wr lo hi C
theorem TK(h:qY 100000 (l7 d) x)(hh:oN x w lo hi v)(hC:hi<=C)(hc:kX w C c)(hn:c.jA.length+(d+1)<=900000):
 Calls prog 349 #[Pt C 0,v] w λen w'=>en=.returned (.tuple #[])/\oN x w' lo hi v/\kX w' C (nM x.of x.jF c)/\Lk w w' lo hi C:=by
 obtain⟨S,fv,rfl,h1,h2,hS,hrow⟩:=hh;rcases hrow with⟨hf,rfl⟩|⟨g,cap,m,us,arr,rfl,g1,g2,m1,m2,hbr,hg,harr⟩
 .have c4:=jJ 4 hS rfl;have HE:Hid (oN x w lo hi (Pt S 0)/\kX w C (nM x.of x.jF c)/\Lk w w lo hi C):=⟨⟨S,_,rfl,h1,h2,hS,ji ⟨hf,rfl⟩⟩,by rw[hf];exact hc,Lk.refl _ _ _ _⟩;clear hS hc;go_enter func349,ntmps349;go_wp2_with fail;refine wp_loop_rounds 1 ?_;rw[rounds_succ];go_wp2_with fail;go_end0;exact⟨rfl,HE.out⟩
 .have c4:=jJ 4 hS rfl;have HA:=jB (jg h (jg hn (jg harr (jg hC (jg h1 (jg h2 (jg g1 (jg g2 (jg m1 m2)))))))));have HO:Hid (SY x S g cap w w lo hi m C us arr c 0):=⟨hS,hg,hbr,hc,Lk.refl _ _ _ _⟩;have hln:=h.len;clear hS hc hbr hg harr h hn;go_enter func349,ntmps349;go_wp2_with fail;go_loopg [11] (x.jF.length+1) (λgg i wr=>Hid (∃k:Nat,k+gg=x.jF.length+1/\k<=x.jF.length/\i=Im k/\SY x S g cap w wr lo hi m C us arr c k))
  case atStart=>exact⟨0,by omega,bD _,rfl,HO.out⟩
  case round=>
   obtain⟨k,hk1,hk2,rfl,hI⟩:=hrel.out;clear hrel HO;by_cases hlt:k<x.jF.length
   .have d1:decide ((k:Int)<(x.jF.length:Int))=true:=by simp;omega
    have i0:(0:Int)<=(k:Int):=by omega
    have i1:(k:Int)<(x.jF.length:Int):=by omega
    have hget:x.jF[k]? =some x.jF[k]:=by simp
    have hQ:=HA.out.1.all x.jF[k] (fG hlt);obtain⟨q1,q2,q3,q4,q5,q6,q7,q8,q9⟩:=HA.out.2;obtain⟨l',m',u',e0,e1,e2,e3,e4,e5,e6⟩:=TB (λb hb a=>(HA.out.1.all b hb).ok.law a) hI.FH hget;obtain⟨z0,z1,z2⟩:=Oz _ us k _ u' hget e0;obtain⟨T1,b1,hu',_⟩:=hQ.ok.head _ _ _ _ _ e5;have k0:wr.cell? (Ad g (k * 3))=some (.string x.jF[k].1.text):=(jH hI.row).trans (q2 _ _ z0);have k1:wr.cell? (Ad g (k * 3+1))=some (Im x.jF[k].1.at'):=(jH hI.row).trans (q2 _ _ z1);have k2:wr.cell? (Ad g (k * 3+2))=some u':=(jH hI.row).trans (q2 _ _ z2);have c3:=jJ 3 hI.set rfl;have hSl:=lN hI.set;have nS:¬S=wr.heap.size:=by omega
    have yU:=hI.ck.lt;have hLn:(nM x.of (x.jF.take k) c).jA=c.jA:=MW _ _ _ (λb hb=>(HA.out.1.all b (dS hb)).jA);have GR:Hid (∀y,wr.grownBy y none->Calls prog 351 #[Pt C 0,.agg #[.string x.jF[k].1.text,Im x.jF[k].1.at',u'],Im x.of,Im 2] y λen w'=>en=.returned (.tuple #[])/\SY x S g cap w w' lo hi m C us arr c (k+1)):=λy hy=>by
     have Md:=Lk.grown hy yU;refine(aal hQ ((hQ.ok.law _).lk e5 Md (by omega) (jh (bD _))) (by omega) (hI.ck.grow hy) (by rw[hLn];exact q1) _ _ x.of 2).mono ?_;rintro en w' ⟨r1,r2,r3,r4⟩;have hl2:=(Md.all _ _).trans r4;refine⟨r1,(hl2.keep S (by omega) (ji (by omega))).trans hI.set,(hl2.keep g (by omega) (by omega)).trans hI.row,e6 w' (λj j1 j2 j3=>hl2.keep j (by omega) j3) r2,?_,hI.keep.trans (hl2.wide (by omega) (by omega))⟩;rw[amA _ _ _ _ _ hget];exact r3
    obtain⟨g',hg'⟩:∃g',gk=g'+1:=⟨gk-1,by omega⟩;subst hu';clear hget hQ q1 q2 q3 q4 q5 q6 q7 q8 q9 e0 e1 e2 e3 e4 e5 e6 z0 z1 z2 hI hLn;generalize x.jF[k].1.text=ft at *;generalize x.jF[k].1.at'=fa at *;go_wp2_with fail;refine nJ 6 (by kernel_rfl) (by kernel_rfl) ?_;simp only[aC,aO,aG,aQ];repeat (go_big_quiet_step (fail))
    refine bF ?_;intro _ hw';obtain⟨n3,hw''⟩:=hw';subst hw'';go_wp2_with fail;refine(GR.out _ ((ah wr _ none).trans (lH _ _))).mono ?_;rintro en w2 ⟨rfl,hI2⟩;have HI2:=jB hI2;clear hI2 GR;go_wp2_with fail;go_roundg g'
    case measure=>omega
    case rel=>exact⟨k+1,by omega,by omega,by go_num,HI2.out⟩
   .have d1:decide ((k:Int)<(x.jF.length:Int))=false:=by simp;omega
    have HE:Hid (oN x wr lo hi (Pt S 0)/\kX wr C (nM x.of x.jF c)/\Lk w wr lo hi C):=by
     obtain⟨q1,q2,q3,q4,q5,q6,q7,q8,q9⟩:=HA.out.2;have hck:=hI.ck;rw[eU (by omega)]at hck;exact⟨⟨S,_,rfl,q4,q5,hI.set,jh ⟨g,cap,m,us,arr,rfl,q6,q7,q8,q9,hI.FH,hI.row,q2⟩⟩,hck,hI.keep⟩
    clear hI;go_wp2_with fail;go_end0;exact⟨rfl,HE.out⟩
end
section
variable {w w' w1 w2:jo}{C lo hi b S:Nat}{c:Co}{u:jr}{e l r:Ex}{a:Int}{T:jv}{x:Sx}
theorem UU(he:kE e)(t:jm)(one:Int):(c.inside t e.does one).1.jA=c.jA:=by
 unfold Co.inside Co.cut;simp only[he.jA,Co.know];simp
theorem UR(he:kE e)(t:jm)(one:Int)(hk:e.jy<=1000000):((c.inside t e.does one).1.code.length:Int)<=c.code.length+200 * e.jy+50:=he.len (c.know t one) (-1) hk
theorem kF.back(h:kF w C c){n:Nat}(hn:n<=c.jA.length):∃a cap,w.cell? (Ad C 1)=some (.slice a c.jA.length cap)/\c.jA.length<=cap/\(∀j,w.frozen? (Ad C j)=false)/\kF (w.setCell (Ad C 1) (.slice a n cap)) C (c.cut n)/\Gk w (w.setCell (Ad C 1) (.slice a n cap)) C:=by
 obtain⟨v,nv,h⟩:=h;obtain⟨a,cap,rfl⟩:=Aw h.jA;have hcut:=h.cut hn;refine⟨a,cap,jH h.jL,?_,λj=>oh h.jL,⟨v,_,hcut.1⟩,hcut.2⟩;rcases h.jA with⟨_,⟨h2,h3⟩|⟨g,cap',cur,h2,_,_,h5,_⟩⟩
 .rw[h3];exact bD _
 .cases h2;exact h5
theorem aa7(he:kE e)(hh:e.here e.at' w lo hi u)(hC:hi<=C)(hc:kF w C c)(hr:Room c (e.jy+1))(t:jm)(ta one:Int):
 Calls prog 352 #[Pt C 0,.agg #[.string t,Im ta,u],Im one] w λen w'=>en=.returned (Im (c.inside t e.does one).2)/\kF w' C (c.inside t e.does one).1/\Gk w w' C:=by
 have yU:=hc.lt;have ec:=he.ok.jy;obtain⟨T1,b1,rfl,_⟩:=he.ok.head _ _ _ _ _ hh;have g0:=λo=>ah w o none;have hnl:c.jA.length<=3000000:=by have:=hr.jA;omega
 have HN:Hid (∀o,Calls prog 324 #[Pt C 0,.agg #[.string t,Im ta],Im one] (w.alloc o) λen w'=>en=.returned (.tuple #[])/\kF w' C (c.know t one)/\DR w' C w.heap.size o/\Gk w w' C):=λo=>(Ue (hc.grow (g0 o)) t ta one (by omega)).mono λen w' ⟨q1,q2,q3⟩=>⟨q1,q2,(DR.new hc o).gk q3,(Gk.grown (g0 o) yU).trans q3⟩;have HA:Hid (kE e/\hi<=C/\e.here e.at' w lo hi (.iface T1 (Pt b1 0))/\Room (c.know t one) e.jy):=⟨he,hC,hh,by have:=hr.jy;omega,by have:=hr.code;show(c.code.length:Int)+_<=_;omega,by have:=hr.jA;show((c.jA++[(t,one)]).length:Int)+_<=_;simp only[aA,aF,bg];omega⟩;have hkn:(e.does.give (c.know t one) (-1)).1.jA.length=c.jA.length+1:=by rw[he.jA];simp[Co.know]
 obtain⟨a0,cap0,c1,_⟩:=hc.back (n:=0) (bD _);have n0:¬C=w.heap.size:=by omega
 clear hh hc hr he;unfold Co.inside;generalize asx:c.jA.length=nl at *;generalize hgv:e.does.give (c.know t one) (-1)=gv at *;have HGv:=jB hgv;clear hgv;obtain⟨gc,gs⟩:=gv;simp only at hkn⊢;go_enter func352,ntmps352;go_wp2_with fail;refine(HN.out _).mono ?_;rintro en w1 ⟨rfl,p1,bx1,q1⟩;have x2:=jJ 2 bx1.at' rfl;obtain⟨f1,m1,kK,H1⟩:=HA.out.1.give _ _ _ _ _ _ C (c.know t one) (-1) ((HA.out.1.ok.law _).gk HA.out.2.2.1 q1 HA.out.2.1) HA.out.2.1 p1 HA.out.2.2.2;have kK:∀args w,(callFunc f1 args).run prog w=.ok (.enter f1 args) w:=kK;rw[HGv.out]at H1;have H1:Hid (Calls prog f1 #[Pt b1 0,Pt C 0,Im (-1)] w1 λen w'=>en=.returned (Im gs)/\kF w' C gc/\Gk w1 w' C):=H1;have lZ:=jB q1;clear p1 q1 bx1 HN;go_wp2_with fail;refine H1.out.mono ?_;rintro en w2 ⟨rfl,p2,q2⟩;obtain⟨a2,cap2,y1,y2,fz,y3,y4⟩:=p2.back (n:=nl) (by omega);rw[hkn]at y1 y2;have HE:=jB (jg y3 ((lZ.out.trans q2).trans y4));clear p2 q2 y3 y4 H1 lZ;have i0:(0:Int)<=(nl:Int):=by omega
 have i1:(nl:Int)<=(cap2:Int):=by omega
 go_wp2_with fail;go_ret;exact⟨rfl,HE.out⟩
theorem Uf(h:w.heap[S]? =some (.cells #[Im x.at',Im x.jy,.string x.base,Im x.of,u] 348)):Calls prog 348 #[Pt S 0] w λe w'=>e=.returned (Im (jQ x.base))/\w'=w:=by
 have c2:=jJ 2 h rfl;clear h;unfold jQ;rw[<-aZ];cases h1:(x.base.toList==[70,82,69,83,72])with
 |true=>
  go_enter func348,ntmps348;go_wp2;go_ret;exact⟨rfl,rfl⟩
 |false=>
  cases h2:(x.base.toList==[65,71,65,73,78])with
  |true=>
   go_enter func348,ntmps348;go_wp2;go_ret;exact⟨rfl,rfl⟩
  |false=>
   go_enter func348,ntmps348;go_wp2;go_ret;exact⟨rfl,rfl⟩
def xG(one:Int)(c:Co)(b:Wd×Ex):Co:=((c.inside b.1.text b.2.does one).1.lay 5 [(c.inside b.1.text b.2.does one).2]).jZ c.free
theorem TY(one:Int){b:Wd×Ex}(h:kE b.2):(xG one c b).jA=c.jA:=UU h _ _
theorem ajx(one:Int){b:Wd×Ex}(h:kE b.2)(hk:b.2.jy<=1000000):((xG one c b).code.length:Int)<=c.code.length+200 * (1+b.2.jy):=by
 have h1:=UR (c:=c) h b.1.text one hk;have h2:=oD (c.inside b.1.text b.2.does one).1 5 [(c.inside b.1.text b.2.does one).2];simp only[aF,bg]at h2;show(((c.inside b.1.text b.2.does one).1.lay 5 [(c.inside b.1.text b.2.does one).2]).code.length:Int)<=_;omega
theorem ajy(one:Int)(fs:List (Wd×Ex))(c:Co)(i:Nat)(b:Wd×Ex)(h:fs[i]? =some b):Co.jF one (fs.take (i+1)) c=xG one (Co.jF one (fs.take i) c) b:=by
 have h1:fs.take (i+1)=fs.take i++[b]:=by rw[fU,h];rfl
 rw[h1];unfold Co.jF;rw[dV]
 rfl
theorem IE{fs:List (Wd×Ex)}(h:∀b∈fs,0<=b.2.jy):0<=(fs.map λb=>1+b.2.jy).sum:=by
 induction fs with
 |nil=>simp
 |cons b fs ih=>
  have:=ih λc hc=>h c (aI _ hc);have:=h b (aW ..);simp only[dL,gZ];omega
theorem WQ{fs:List (Wd×Ex)}(h:∀b∈fs,0<=b.2.jy):∀(i:Nat)(b:Wd×Ex),fs[i]? =some b->((fs.take i).map λb=>1+b.2.jy).sum+(1+b.2.jy)<=(fs.map λb=>1+b.2.jy).sum:=by
 induction fs with
 |nil=>intro i b hb;simp at hb
 |cons b0 fs ih=>
  have h0:=h b0 (aW ..);have h1:∀b∈fs,0<=b.2.jy:=λc hc=>h c (aI _ hc);intro i b hb;cases i with
  |zero=>
   simp only[dw,bJ]at hb;subst hb;have:=IE h1;simp only[aO,iP,List.sum_nil,dL,gZ];omega
  |succ i=>
   have:=ih h1 i b (by simpa using hb);simp only[aC,dL,gZ];omega
theorem OW(one:Int):∀(fs:List (Wd×Ex))(c:Co),(∀b∈fs,kE b.2)->(∀b∈fs,b.2.jy<=1000000)->(Co.jF one fs c).jA=c.jA/\((Co.jF one fs c).code.length:Int)<=c.code.length+200 * (fs.map λb=>1+b.2.jy).sum
 |[],c,_,_=>by simp[Co.jF]
 |b::fs,c,h,hk=>by
  have h0:=h b (aW ..);have h1:=ajx (c:=c) one h0 (hk b (aW ..));obtain⟨h2,h3⟩:=OW one fs (xG one c b) (λd hd=>h d (aI _ hd)) (λd hd=>hk d (aI _ hd));have e:Co.jF one (b::fs) c=Co.jF one fs (xG one c b):=rfl;rw[e];refine⟨h2.trans (TY one h0),?_⟩;simp only[dL,gZ];omega
structure wo(x:Sx):Prop where
 all:∀b∈x.jF,kE b.2
 pos:∀b∈x.jF,0<=b.2.jy
 sum:1+(x.jF.map λb=>1+b.2.jy).sum<=x.jy
 max:x.jy<=1000000
 len:x.jF.length<=100000
theorem wo.of{N:Nat}(hN:N<=100000)(h:qY N kE x)(hk:x.jy<=1000000):wo x:=
 ⟨h.all,λb hb=>(h.all b hb).ok.jy.1,h.sum hk,hk,dH h.len hN⟩
theorem wo.each(h:wo x):∀b∈x.jF,b.2.jy<=1000000:=λb hb=>by
 obtain⟨i,hi,he⟩:=List.mem_iff_getElem.1 hb;have h1:=WQ h.pos i b (by rw[<-he];simp);have h2:=IE (fs:=x.jF.take i) λc hc=>h.pos c (dS hc);have:=h.sum;have:=h.max;omega
theorem aob(h:wo x)(list:Int):(c.jW list x.jF).1.jA=c.jA:=(OW _ _ _ h.all h.each).1
theorem VU(h:wo x)(list:Int):((c.jW list x.jF).1.code.length:Int)<=c.code.length+52+200 * (x.jy-1):=by
 have h1:=(OW c.hold.2 x.jF ((c.hold.1.lay 21 [c.hold.2,list]).lay 4 [list,c.hold.2,c.hold.2]) h.all h.each).2;have h2:=oD (c.hold.1.lay 21 [c.hold.2,list]) 4 [list,c.hold.2,c.hold.2];have h3:=oD c.hold.1 21 [c.hold.2,list];have h4:=h.sum;have h5:c.hold.1.code.length=c.code.length:=rfl;simp only[aF,bg]at h2 h3;show((Co.jF c.hold.2 x.jF ((c.hold.1.lay 21 [c.hold.2,list]).lay 4 [list,c.hold.2,c.hold.2])).code.length:Int)<=_;omega
theorem OV(h:wo x)(list:Int):((c.mW list x.jF).1.code.length:Int)<=c.code.length+95+200 * (x.jy-1):=by
 have h5:c.hold.1.code.length=c.code.length:=rfl;have h6:=h.sum;have h7:=IE h.pos;unfold Co.mW;split
 .have h3:=oD c.hold.1 21 [c.hold.2,list];simp only[aF,bg]at h3;simp only;omega
 .have h1:=VU (c:=c.hold.1.lay 6 [c.hold.2,0]) h list;have h3:=oD c.hold.1 6 [c.hold.2,0];simp only;generalize (c.hold.1.lay 6 [c.hold.2,0]).jW list x.jF=o at *;have h2:=oD o.1 22 [c.hold.2,o.2];have h4:=oD (o.1.lay 22 [c.hold.2,o.2]) 0 [];simp only[aF,bg]at h2 h3 h4;show((((o.1.lay 22 [c.hold.2,o.2]).lay 0 []).code.length:Nat):Int)<=_;omega
end
end
end Go.Proofs.YthllhabjfchgiaaGreatDoor
