import Derived.Test.YthllhabjfchgiaaGreatDoorHk25
set_option maxRecDepth 100000
set_option maxHeartbeats 8000000
set_option linter.unusedSimpArgs false
namespace Go.Proofs.YthllhabjfchgiaaGreatDoor
open _root_.Go.Proofs.Tryz
section
open Go.RowKit Hx
attribute [local go_sem ↓] Go.wp_at_zero Go.wp_at_succ
attribute [local go_sem] kP
section
variable {w w' w1 w2:jk}{C lo hi b d:Nat}{c:Ck}{u:jm}{e l r:Ex}{a:Int}{T:jo}
theorem UQ{T' T:jo}{at' jw kind:Int}{mk:List jm->List jm}{dn:Dn}{c':Ck}(hk:∀ns,dn.jW ns=kind)(he:kV e)(h1:lo<=b)(h2:b<hi)(hC:hi<=C)(hb:w.heap[b]? =some (.cells (Im a::Im jw::Im kind::mk [u]).toArray T))
 {bk:Nat}(hl:nU e e.at' w w1 lo b u bk C c')(hw:Lk w1 w2 0 0 C)(hc:kY w2 C (dn.look c)):nU (rE T' T at' jw kind (og (e.here e.at')) mk dn) a w w2 lo hi (.iface T' (Pt b 0)) b C c:=by
 have k1:=hl.keep;have kk:=k1.trans (hw.all _ _);have hb2:=(kk.keep b (by omega) (je (aj _))).trans hb;refine⟨⟨b,[u],rfl,h1,h2,⟨u,rfl,(he.law _).lk hl.here hw (by omega) (je (bD _))⟩,hb2⟩,?_,hc,kk.wide (aj _) (by omega)⟩;show w2.cell? (Ad b 2)=some (Im (dn.jW c.jy));rw[hk];exact jI hb2
theorem ad7(h:mD d e)(a0 kind:Int)(sign:ji):mD d (oV a0 kind sign e):=by
 refine⟨Vz a0 kind sign h.ok,λc=>?_,?_⟩
 .show((e.does.look c).want (e.does.jW c.jy) e.at' kind).jy=c.jy;rw[wE,h.jy]
 rintro a w lo hi T b C c ⟨b',us,hv,h1,h2,⟨u,rfl,hu⟩,hb⟩ hC hc hn;cases hv;obtain⟨T1,b1,f1,rfl,hT1,l1,l2,m1,kM,H1⟩:=h.use (C:=C) (c:=c) hu (by omega) hc hn;have c4:=jK 4 hb rfl;have kM:∀args w,(callFunc f1 args).run prog w=.ok (.enter f1 args) w:=kM;have H1:Hid (Calls prog f1 #[Pt b1 0,Pt C 0] w λen w'=>en=.returned (.tuple #[])/\nU e e.at' w w' lo b (.iface T1 (Pt b1 0)) b1 C c):=H1;have HC:=jA (jd h hC);have HB:=jA hb;refine⟨367,λw=>by kernel_rfl,λargs w=>by kernel_rfl,?_⟩;clear hu hb hc hn hC h;go_enter func367,ntmps367;go_wp2_with fail;refine H1.out.mono ?_;rintro en w1 ⟨rfl,hl⟩;have hb1:=(hl.keep.keep b (by have:=HC.out.2;omega) (je (aj _))).trans HB.out;have e4:=jK 4 hb1 rfl;have e2:=jK 2 hb1 rfl;have HW:=jA (λn=>hl.want HC.out.1.ok kind n);have HL:=jA hl;clear hl hb1 H1;go_wp2_with fail;refine nP 10 (by kernel_rfl) (by kernel_rfl) ?_;simp only[aC,aO,aG,aQ];repeat (go_big_quiet_step (fail))
 refine bF ?_;intro _ hw';obtain⟨n3,hw''⟩:=hw';subst hw'';go_wp2_with fail;refine(HW.out _).mono ?_;rintro en w2 ⟨rfl,p1,p2⟩;have HE:Hid (nU (oV a0 kind sign e) a w w2 lo hi (.iface 379 (Pt b 0)) b C c):=UQ (λ_=>rfl) HC.out.1.ok h1 h2 HC.out.2 HB.out HL.out p2 p1;clear p1 p2;go_wp2_with fail;go_end0;exact⟨rfl,HE.out⟩
theorem amk(h:mD d e)(a0:Int):mD d (yZ a0 e):=by
 refine⟨acB a0 h.ok,λc=>?_,?_⟩
 .show(if e.does.jW c.jy=3 then e.does.look c else (e.does.look c).want (e.does.jW c.jy) e.at' 4).jy=c.jy;split
  .exact h.jy c
  .rw[wE,h.jy]
 rintro a w lo hi T b C c ⟨b',us,hv,h1,h2,⟨u,rfl,hu⟩,hb⟩ hC hc hn;cases hv;obtain⟨T1,b1,f1,rfl,hT1,l1,l2,m1,kM,H1⟩:=h.use (C:=C) (c:=c) hu (by omega) hc hn;have c3:=jK 3 hb rfl;have kM:∀args w,(callFunc f1 args).run prog w=.ok (.enter f1 args) w:=kM;have H1:Hid (Calls prog f1 #[Pt b1 0,Pt C 0] w λen w'=>en=.returned (.tuple #[])/\nU e e.at' w w' lo b (.iface T1 (Pt b1 0)) b1 C c):=H1;have HC:=jA (jd h hC);have HB:=jA hb;refine⟨384,λw=>by kernel_rfl,λargs w=>by kernel_rfl,?_⟩;have m2:=hT1.sort b1;clear hu hb hc hn hC h hT1;have nT:Hid (∀w1 w2,nU e e.at' w w1 lo b (.iface T1 (Pt b1 0)) b1 C c->Lk w1 w2 0 0 C->kY w2 C (if e.does.jW c.jy=3 then e.does.look c else (e.does.look c).want (e.does.jW c.jy) e.at' 4)->nU (yZ a0 e) a w w2 lo hi (.iface 395 (Pt b 0)) b C c):=λw1 w2 q1 q2 q3=>UQ (λ_=>rfl) HC.out.1.ok h1 h2 HC.out.2 HB.out q1 q2 q3;generalize hkk:e.does.jW c.jy=kk at *;by_cases hk:kk=3
 .subst hk;go_enter func384,ntmps384;go_wp2_with fail;refine H1.out.mono ?_;rintro en w1 ⟨rfl,hl⟩;have hb1:=(hl.keep.keep b (by have:=HC.out.2;omega) (je (aj _))).trans HB.out;have e3:=jK 3 hb1 rfl;have HS:=jA (NK b1 3 (by rw[<-hkk];exact hl.kind));have HE:=jA (nT.out w1 w1 hl (Lk.refl _ _ _ _) hl.ck);clear hl hb1 H1 hkk;go_wp2_with fail;refine HS.out.mono ?_;rintro en w2 ⟨rfl,rfl⟩;go_wp2_with fail;go_end0;exact⟨rfl,HE.out⟩
 .have hbk:(kk !=3)=true:=by simp[hk]
  rw[jg hk]at nT;go_enter func384,ntmps384;go_wp2_with fail;refine H1.out.mono ?_;rintro en w1 ⟨rfl,hl⟩;have hb1:=(hl.keep.keep b (by have:=HC.out.2;omega) (je (aj _))).trans HB.out;have e3:=jK 3 hb1 rfl;have HS:=jA (NK b1 kk (by rw[<-hkk];exact hl.kind));have HW:=jA (hl.want HC.out.1.ok 4 0);have HL:=jA hl;rw[hkk]at HW;clear hl hb1 H1 hkk;go_wp2_with fail;refine HS.out.mono ?_;rintro en w2 ⟨rfl,rfl⟩;go_wp2_with fail;refine HW.out.mono ?_;rintro en w3 ⟨rfl,p1,p2⟩;have HE:=jA (nT.out _ _ HL.out p2 p1);clear p1 p2;go_wp2_with fail;go_end0;exact⟨rfl,HE.out⟩
theorem apM(h:mD d e)(a0 kind owner:Int)(t:Wd):mD d (vY a0 kind owner e t):=by
 obtain⟨tt,ta⟩:=t;refine⟨QA a0 kind owner h.ok _,λc=>?_,?_⟩
 .show((if owner=0 then (e.does.look c).fail 2 ta else e.does.look c).want (e.does.jW c.jy) e.at' owner).jy=c.jy;rw[wE];split
  .rw[Jg,h.jy]
  .exact h.jy c
 rintro a w lo hi T b C c ⟨b',us,hv,h1,h2,⟨u,rfl,hu⟩,hb⟩ hC hc hn;cases hv;obtain⟨T1,b1,f1,rfl,hT1,l1,l2,m1,kM,H1⟩:=h.use (C:=C) (c:=c) hu (by omega) hc hn;have c4:=jK 4 hb rfl;have kM:∀args w,(callFunc f1 args).run prog w=.ok (.enter f1 args) w:=kM;have H1:Hid (Calls prog f1 #[Pt b1 0,Pt C 0] w λen w'=>en=.returned (.tuple #[])/\nU e e.at' w w' lo b (.iface T1 (Pt b1 0)) b1 C c):=H1;have HC:=jA (jd h hC);have HB:=jA hb;refine⟨371,λw=>by kernel_rfl,λargs w=>by kernel_rfl,?_⟩;clear hu hb hc hn hC h;have nT:Hid (∀w1 w2,nU e e.at' w w1 lo b (.iface T1 (Pt b1 0)) b1 C c->Lk w1 w2 0 0 C->kY w2 C ((if owner=0 then (e.does.look c).fail 2 ta else e.does.look c).want (e.does.jW c.jy) e.at' owner)->nU (vY a0 kind owner e ⟨tt,ta⟩) a w w2 lo hi (.iface 383 (Pt b 0)) b C c):=λw1 w2 q1 q2 q3=>UQ (λ_=>rfl) HC.out.1.ok h1 h2 HC.out.2 HB.out q1 q2 q3;by_cases hk:owner=0
 .subst hk;go_enter func371,ntmps371;go_wp2_with fail;refine H1.out.mono ?_;rintro en w1 ⟨rfl,hl⟩;have hb1:=(hl.keep.keep b (by have:=HC.out.2;omega) (je (aj _))).trans HB.out;have e3:=jK 3 hb1 rfl;have e4:=jK 4 hb1 rfl;have e6:=jK 6 hb1 rfl;have HF:=jA (Lr hl.ck 2 ta);have HL:=jA (jd hl hb1);clear hl hb1 H1;go_wp2_with fail;refine HF.out.mono ?_;rintro en w2 ⟨rfl,p1,p2⟩;have hbC:b<C:=by have:=HC.out.2;omega
  have hb2:=(p2.keep b hbC (je (bD _))).trans HL.out.2;have g3:=jK 3 hb2 rfl;have g4:=jK 4 hb2 rfl;have HW:Hid (∀n,Calls prog 317 #[Pt C 0,.iface T1 (Pt b1 0),Im 0] (w2.drewN n) λen w3=>en=.returned (.tuple #[])/\kY w3 C (((e.does.look c).fail 2 ta).want (e.does.jW c.jy) e.at' 0)/\Lk w2 w3 0 0 C):=λn=>by
   obtain⟨T',b',hv,hT,_,q2,h0,_⟩:=HC.out.1.ok.head _ _ _ _ _ HL.out.1.here;cases hv;have abJ:b1<C:=by omega
   refine(aaB (p1.grow (lK w2 n)) hT ((lK w2 n).cell ((p2.cell abJ (je (bD _))).trans HL.out.1.kind) (by simp)) ((lK w2 n).cell ((p2.cell abJ (je (bD _))).trans h0) (by simp)) 0).mono ?_;rintro en w3 ⟨h1,h2,h3⟩;exact⟨h1,h2,(Lk.grown (lK w2 n) p1.lt).trans h3⟩
  have lT:=jA p2;clear p1 p2 hb2;go_wp2_with fail;refine nP 9 (by kernel_rfl) (by kernel_rfl) ?_;simp only[aC,aO,aG,aQ];repeat (go_big_quiet_step (fail))
  refine bF ?_;intro _ hw';obtain⟨n3,hw''⟩:=hw';subst hw'';go_wp2_with fail;refine(HW.out _).mono ?_;rintro en w3 ⟨rfl,p1,p2⟩;have HE:=jA (nT.out _ _ HL.out.1 (lT.out.trans p2) p1);clear p1 p2;go_wp2_with fail;go_end0;exact⟨rfl,HE.out⟩
 .have hbk:(owner==0)=false:=by simp[hk]
  rw[jg hk]at nT;go_enter func371,ntmps371;go_wp2_with fail;refine H1.out.mono ?_;rintro en w1 ⟨rfl,hl⟩;have hb1:=(hl.keep.keep b (by have:=HC.out.2;omega) (je (aj _))).trans HB.out;have e3:=jK 3 hb1 rfl;have e4:=jK 4 hb1 rfl;have HW:=jA (λn=>hl.want HC.out.1.ok owner n);have HL:=jA hl;clear hl hb1 H1;go_wp2_with fail;refine nP 9 (by kernel_rfl) (by kernel_rfl) ?_;simp only[aC,aO,aG,aQ];repeat (go_big_quiet_step (fail))
  refine bF ?_;intro _ hw';obtain⟨n3,hw''⟩:=hw';subst hw'';go_wp2_with fail;refine(HW.out _).mono ?_;rintro en w2 ⟨rfl,p1,p2⟩;have HE:=jA (nT.out _ _ HL.out p2 p1);clear p1 p2;go_wp2_with fail;go_end0;exact⟨rfl,HE.out⟩
end
section
variable {w w' w1 w2 w3 w4:jk}{C lo hi b d m:Nat}{c:Ck}{u v:jm}{e l r:Ex}{a:Int}{T:jo}
theorem UW{T' T:jo}{at' jw kind:Int}{mk:List jm->List jm}{dn:Dn}{c1 c2:Ck}(hk:∀ns,dn.jW ns=kind)(hl:kV l)(hr:kV r)(h1:lo<=b)(h2:b<hi)(hC:hi<=C)(hm1:lo<=m)(hm2:m<=b)(hb:w.heap[b]? =some (.cells (Im a::Im jw::Im kind::mk [u,v]).toArray T))
 {b1 b2:Nat}(L1:nU l l.at' w w1 lo m u b1 C c1)(hw:Lk w1 w2 0 0 C)(L2:nU r r.at' w2 w3 m b v b2 C c2)(hw3:Lk w3 w4 0 0 C)(hc:kY w4 C (dn.look c)):nU (rE T' T at' jw kind (xY (l.here l.at') (r.here r.at')) mk dn) a w w4 lo hi (.iface T' (Pt b 0)) b C c:=by
 have kk:=((L1.keep.wide (aj _) hm2).trans (hw.all _ _)).trans ((L2.keep.wide hm1 (aj _)).trans (hw3.all _ _));have hb2:=(kk.keep b (by omega) (je (aj _))).trans hb;have e1:=(hl.law _).lk L1.here hw (by omega) (je (bD _));have e2:=(hl.law _).lk e1 L2.keep (by omega) (jf (aj _));have e3:=(hl.law _).lk e2 hw3 (by omega) (je (bD _));have e4:=(hr.law _).lk L2.here hw3 (by omega) (je (bD _));refine⟨⟨b,[u,v],rfl,h1,h2,⟨m,u,v,rfl,hm1,hm2,e3,e4⟩,hb2⟩,?_,hc,kk.wide (aj _) (by omega)⟩;show w4.cell? (Ad b 2)=some (Im (dn.jW c.jy));rw[hk];exact jI hb2
theorem akr{b:Nat}{k:Int}(hT:lU T)(h:w.cell? (Ad b 2)=some (Im k)):Calls prog 362 #[.iface T (Pt b 0)] w λe w'=>e=.returned (Im (if k=2 then 2 else 1))/\w'=w:=by
 have m1:=hT.sort b;have HS:=jA (NK b k h);by_cases hk:k=2
 .subst hk;go_enter func362,ntmps362;go_wp2_with fail;refine HS.out.mono ?_;rintro en w1 ⟨rfl,rfl⟩;go_wp2_with fail;go_ret;exact⟨rfl,rfl⟩
 .have hb:(k==2)=false:=by simp[hk]
  rw[jg hk];go_enter func362,ntmps362;go_wp2_with fail;refine HS.out.mono ?_;rintro en w1 ⟨rfl,rfl⟩;go_wp2_with fail;go_ret;exact⟨rfl,rfl⟩
theorem aoI(hl:mD d l)(hr:mD d r)(a0:Int):mD d (x9 a0 l r):=by
 refine⟨ad2 a0 hl.ok hr.ok,λc=>?_,?_⟩
 .show((r.does.look ((l.does.look c).want (l.does.jW c.jy) l.at' 4)).want (r.does.jW ((l.does.look c).want (l.does.jW c.jy) l.at' 4).jy) r.at' 3).jy=c.jy;rw[wE,hr.jy,wE,hl.jy]
 rintro a w lo hi T b C c ⟨b',us,hv,h1,h2,⟨m,u,v,rfl,hm1,hm2,hu,hv2⟩,hb⟩ hC hc hn;cases hv;obtain⟨T1,b1,f1,rfl,hT1,l1,l2,m1,kM,H1⟩:=hl.use (C:=C) (c:=c) hu (by omega) hc hn;have kM:∀args w,(callFunc f1 args).run prog w=.ok (.enter f1 args) w:=kM;have H1:Hid (Calls prog f1 #[Pt b1 0,Pt C 0] w λen w'=>en=.returned (.tuple #[])/\nU l l.at' w w' lo m (.iface T1 (Pt b1 0)) b1 C c):=H1;obtain⟨T2,b2,rfl,hT2,_⟩:=hr.ok.head _ _ _ _ _ hv2;have c3:=jK 3 hb rfl;have HB:=jA hb;have HC:=jA (jd hl (jd hr (jd hC (jd hn hv2))));refine⟨387,λw=>by kernel_rfl,λargs w=>by kernel_rfl,?_⟩;clear hu hb hc hn hv2 hl hr;go_enter func387,ntmps387;go_wp2_with fail;refine H1.out.mono ?_;rintro en w1 ⟨rfl,L1⟩;have hb1:=(L1.keep.keep b (by omega) (je hm2)).trans HB.out;have e3:=jK 3 hb1 rfl;have HW:=jA (L1.want HC.out.1.ok 4 0);have HL:=jA (jd L1 hb1);clear L1 hb1 H1;go_wp2_with fail;refine HW.out.mono ?_;rintro en w2 ⟨rfl,p1,p2⟩;have hb2:=(p2.keep b (by omega) (je (bD _))).trans HL.out.2;have e4:=jK 4 hb2 rfl;have hr2:=(HC.out.2.1.ok.law _).lk ((HC.out.2.1.ok.law _).lk HC.out.2.2.2.2 HL.out.1.keep (by omega) (je (aj _))) p2 (by omega) (je (bD _));have hnm:((l.does.look c).want (l.does.jW c.jy) l.at' 4).jy=c.jy:=by rw[wE,HC.out.1.jy]
 obtain⟨f2,m2,qp,H2⟩:=HC.out.2.1.look _ _ _ _ _ _ C _ hr2 (by omega) p1 (by rw[hnm];exact HC.out.2.2.2.1);have qp:∀args w,(callFunc f2 args).run prog w=.ok (.enter f2 args) w:=qp;have H2:Hid (Calls prog f2 #[Pt b2 0,Pt C 0] w2 λen w'=>en=.returned (.tuple #[])/\nU r r.at' w2 w' m b (.iface T2 (Pt b2 0)) b2 C ((l.does.look c).want (l.does.jW c.jy) l.at' 4)):=H2;have lT:=jA (jd p2 hb2);clear p1 p2 hb2 hr2 hnm HW;go_wp2_with fail;refine H2.out.mono ?_;rintro en w3 ⟨rfl,L2⟩;have hb3:=(L2.keep.keep b (by omega) (je (aj _))).trans lT.out.2;have e5:=jK 4 hb3 rfl;have HW:=jA (L2.want HC.out.2.1.ok 3 0);have HL2:=jA L2;clear L2 hb3 H2;go_wp2_with fail;refine HW.out.mono ?_;rintro en w4 ⟨rfl,p1,p2⟩;have HE:Hid (nU (x9 a0 l r) a w w4 lo hi (.iface 398 (Pt b 0)) b C c):=UW (λ_=>rfl) HC.out.1.ok HC.out.2.1.ok h1 h2 hC hm1 hm2 HB.out HL.out.1 lT.out.1 HL2.out p2 p1;clear p1 p2;go_wp2_with fail;go_end0;exact⟨rfl,HE.out⟩
theorem atC(hl:mD d l)(hr:mD d r)(a0 kind:Int)(sign:ji):mD d (kK a0 kind sign l r):=by
 refine⟨Ro a0 kind sign hl.ok hr.ok,λc=>?_,?_⟩
 .show((r.does.look ((l.does.look c).want (l.does.jW c.jy) l.at' (ra sign (l.does.jW c.jy)))).want (r.does.jW ((l.does.look c).want (l.does.jW c.jy) l.at' (ra sign (l.does.jW c.jy))).jy) r.at' (ra sign (l.does.jW c.jy))).jy=c.jy;rw[wE,hr.jy,wE,hl.jy]
 rintro a w lo hi T b C c ⟨b',us,hv,h1,h2,⟨m,u,v,rfl,hm1,hm2,hu,hv2⟩,hb⟩ hC hc hn;cases hv;obtain⟨T1,b1,f1,rfl,hT1,l1,l2,m1,kM,H1⟩:=hl.use (C:=C) (c:=c) hu (by omega) hc hn;have kM:∀args w,(callFunc f1 args).run prog w=.ok (.enter f1 args) w:=kM;have H1:Hid (Calls prog f1 #[Pt b1 0,Pt C 0] w λen w'=>en=.returned (.tuple #[])/\nU l l.at' w w' lo m (.iface T1 (Pt b1 0)) b1 C c):=H1;obtain⟨T2,b2,rfl,hT2,_⟩:=hr.ok.head _ _ _ _ _ hv2;have c4:=jK 4 hb rfl;have HB:=jA hb;have HC:=jA (jd hl (jd hr (jd hC (jd hn hv2))));have RY:=jA (λx=>afY sign x);have HT1:=jA hT1;refine⟨355,λw=>by kernel_rfl,λargs w=>by kernel_rfl,?_⟩;clear hu hb hc hn hv2 hl hr hT1;have hsd:ra sign (l.does.jW c.jy)=if (kE sign.data.toList).1=0 then (if l.does.jW c.jy=2 then 2 else 1)else (kE sign.data.toList).1:=rfl;generalize hside:ra sign (l.does.jW c.jy)=side at *;have Zr:=jA hside;clear hside;generalize hsk:kE sign.data.toList=sk at *;obtain⟨s1,s2⟩:=sk;simp only at hsd RY;go_enter func355,ntmps355;go_wp2_with fail;refine H1.out.mono ?_;rintro en w1 ⟨rfl,L1⟩;have hb1:=(L1.keep.keep b (by omega) (je hm2)).trans HB.out;have e3:=jK 3 hb1 rfl;have e4:=jK 4 hb1 rfl;have HQ:=jA (akr HT1.out L1.kind);have HW:=jA (L1.want HC.out.1.ok side 0);have HL:=jA (jd L1 hb1);clear L1 hb1 H1;generalize hlk:l.does.jW c.jy=lk at *;have Zf:=jA hlk;clear hlk;by_cases hs1:s1=0
 .subst hs1;rw[jh rfl]at hsd;rw[<-hsd]at HQ;clear hsd;go_wp2_with fail;refine(RY.out _).mono ?_;rintro en w1' ⟨rfl,rfl⟩;go_wp2_with fail;refine HQ.out.mono ?_;rintro en w1' ⟨rfl,rfl⟩;go_wp2_with fail;refine HW.out.mono ?_;rintro en w2 ⟨rfl,p1,p2⟩;have hb2:=(p2.keep b (by omega) (je (bD _))).trans HL.out.2;have e5:=jK 5 hb2 rfl;have hr2:=(HC.out.2.1.ok.law _).lk ((HC.out.2.1.ok.law _).lk HC.out.2.2.2.2 HL.out.1.keep (by omega) (je (aj _))) p2 (by omega) (je (bD _));have hnm:((l.does.look c).want lk l.at' side).jy=c.jy:=by rw[wE,HC.out.1.jy]
  obtain⟨f2,m2,qp,H2⟩:=HC.out.2.1.look _ _ _ _ _ _ C _ hr2 (by omega) p1 (by rw[hnm];exact HC.out.2.2.2.1);have qp:∀args w,(callFunc f2 args).run prog w=.ok (.enter f2 args) w:=qp;have H2:Hid (Calls prog f2 #[Pt b2 0,Pt C 0] w2 λen w'=>en=.returned (.tuple #[])/\nU r r.at' w2 w' m b (.iface T2 (Pt b2 0)) b2 C ((l.does.look c).want lk l.at' side)):=H2;have lT:=jA (jd p2 hb2);clear p1 p2 hb2 hr2 hnm HW;go_wp2_with fail;refine H2.out.mono ?_;rintro en w3 ⟨rfl,L2⟩;have hb3:=(L2.keep.keep b (by omega) (je (aj _))).trans lT.out.2;have e6:=jK 5 hb3 rfl;have HW:=jA (L2.want HC.out.2.1.ok side 0);have HL2:=jA L2;clear L2 hb3 H2;go_wp2_with fail;refine HW.out.mono ?_;rintro en w4 ⟨rfl,p1,p2⟩;have HE:Hid (nU (kK a0 kind sign l r) a w w4 lo hi (.iface 374 (Pt b 0)) b C c):=by
   refine UW (λ_=>rfl) HC.out.1.ok HC.out.2.1.ok h1 h2 hC hm1 hm2 HB.out HL.out.1 lT.out.1 HL2.out p2 ?_;have h0:(kK a0 kind sign l r).does.look c=(r.does.look ((l.does.look c).want lk l.at' side)).want (r.does.jW ((l.does.look c).want lk l.at' side).jy) r.at' side:=by
    show(r.does.look ((l.does.look c).want (l.does.jW c.jy) l.at' (ra sign (l.does.jW c.jy)))).want (r.does.jW ((l.does.look c).want (l.does.jW c.jy) l.at' (ra sign (l.does.jW c.jy))).jy) r.at' (ra sign (l.does.jW c.jy))=_;rw[Zf.out,Zr.out]
   have p1:kY w4 C ((kK a0 kind sign l r).does.look c):=by rw[h0];exact p1
   exact p1
  clear p1 p2;go_wp2_with fail;go_end0;exact⟨rfl,HE.out⟩
 .have hb0:(s1==0)=false:=by simp[hs1]
  rw[jg hs1]at hsd;subst hsd;go_wp2_with fail;refine(RY.out _).mono ?_;rintro en w1' ⟨rfl,rfl⟩;go_wp2_with fail;refine HW.out.mono ?_;rintro en w2 ⟨rfl,p1,p2⟩;have hb2:=(p2.keep b (by omega) (je (bD _))).trans HL.out.2;have e5:=jK 5 hb2 rfl;have hr2:=(HC.out.2.1.ok.law _).lk ((HC.out.2.1.ok.law _).lk HC.out.2.2.2.2 HL.out.1.keep (by omega) (je (aj _))) p2 (by omega) (je (bD _));have hnm:((l.does.look c).want lk l.at' side).jy=c.jy:=by rw[wE,HC.out.1.jy]
  obtain⟨f2,m2,qp,H2⟩:=HC.out.2.1.look _ _ _ _ _ _ C _ hr2 (by omega) p1 (by rw[hnm];exact HC.out.2.2.2.1);have qp:∀args w,(callFunc f2 args).run prog w=.ok (.enter f2 args) w:=qp;have H2:Hid (Calls prog f2 #[Pt b2 0,Pt C 0] w2 λen w'=>en=.returned (.tuple #[])/\nU r r.at' w2 w' m b (.iface T2 (Pt b2 0)) b2 C ((l.does.look c).want lk l.at' side)):=H2;have lT:=jA (jd p2 hb2);clear p1 p2 hb2 hr2 hnm HW;go_wp2_with fail;refine H2.out.mono ?_;rintro en w3 ⟨rfl,L2⟩;have hb3:=(L2.keep.keep b (by omega) (je (aj _))).trans lT.out.2;have e6:w3.cell? (Ad b 5)=some (.iface T2 (Pt b2 0)):=jI hb3;have HW:Hid (Calls prog 317 #[Pt C 0,.iface T2 (Pt b2 0),Im side] w3 λen w4=>en=.returned (.tuple #[])/\kY w4 C ((r.does.look ((l.does.look c).want lk l.at' side)).want (r.does.jW ((l.does.look c).want lk l.at' side).jy) r.at' side)/\Lk w3 w4 0 0 C):=L2.want HC.out.2.1.ok side 0;have HL2:Hid (nU r r.at' w2 w3 m b (.iface T2 (Pt b2 0)) b2 C ((l.does.look c).want lk l.at' side)):=L2;clear L2 hb3 H2;go_wp2_with fail;refine HW.out.mono ?_;rintro en w4 ⟨rfl,p1,p2⟩;have HE:Hid (nU (kK a0 kind sign l r) a w w4 lo hi (.iface 374 (Pt b 0)) b C c):=by
   refine UW (λ_=>rfl) HC.out.1.ok HC.out.2.1.ok h1 h2 hC hm1 hm2 HB.out HL.out.1 lT.out.1 HL2.out p2 ?_;have h0:(kK a0 kind sign l r).does.look c=(r.does.look ((l.does.look c).want lk l.at' side)).want (r.does.jW ((l.does.look c).want lk l.at' side).jy) r.at' side:=by
    show(r.does.look ((l.does.look c).want (l.does.jW c.jy) l.at' (ra sign (l.does.jW c.jy)))).want (r.does.jW ((l.does.look c).want (l.does.jW c.jy) l.at' (ra sign (l.does.jW c.jy))).jy) r.at' (ra sign (l.does.jW c.jy))=_;rw[Zf.out,Zr.out]
   have p1:kY w4 C ((kK a0 kind sign l r).does.look c):=by rw[h0];exact p1
   exact p1
  clear p1 p2;go_wp2_with fail;go_end0;exact⟨rfl,HE.out⟩
end
end
section
open Go.RowKit Hx
section
theorem aai{g:Nat}:∀{bs:List (Wd×Ex)}{w w':jk}{lo hi:Nat}{us:List jm},(∀b∈bs,∀a,Lawful (b.2.here a))->uS g bs w lo hi us->(∀b,lo<=b->b<hi->b≠g->w'.heap[b]? =w.heap[b]?)->uS g bs w' lo hi us
 |[],_,_,_,_,_,_,h,_=>h
 |b::bs,_,_,_,_,_,hl,⟨l,m,u,us',h0,h1,h2,h3,h4,h5,h6⟩,hk=>
  ⟨l,m,u,us',h0,h1,h2,h3,h4,(hl b (aW ..) _).loc _ _ _ _ _ h5 (λk k1 k2=>hk k (by omega) (by omega) (by omega)),aai (λc hc=>hl c (aI _ hc)) h6 (λk k1 k2 k3=>hk k (by omega) k2 k3)⟩
theorem aaj{g:Nat}:∀{bs:List (Wd×Ex)}{w:jk}{lo hi:Nat}{us:List jm},uS g bs w lo hi us->us.length=bs.length
 |[],_,_,_,_,h=>by
  have h:=h;rw[h];rfl
 |_::_,_,_,_,_,⟨_,_,_,_,h0,_,_,_,_,_,h6⟩=>by rw[h0];simp[aaj h6]
theorem aah:∀(bs:List (Wd×Ex))(us:List jm)(b:Wd×Ex)(u:jm),us.length=bs.length->xq (bs++[b]) (us++[u])=xq bs us++Om b.1 u
 |[],[],b,u,_=>by simp[xq]
 |c::bs,v::us,b,u,h=>by
  have:=aah bs us b u (by simpa using h);simp[xq,this]
 |[],_::_,_,_,h=>by simp at h
 |_::_,[],_,_,h=>by simp at h
structure su(P:Nat)(w wr:jk)(S:Nat)(fv:jm)(g:Nat)(x:Sx)(us:List jm)(m:Nat):Prop where
 Fq:uS g x.jE wr (S+1) m us
 own:wr.ownsRow (S+1) 361 3 fv x.jE.length (xq x.jE us)
 jM:(fv.ownBlock=some g/\g<m)\/(x.jE=[]/\fv=Nl)
 FZ:S+1<=m
 Ey:m<=wr.heap.size
 Gg:w.heap.size<=S
 set:wr.heap[S]? =some (.cells #[Im x.at',Im x.jw,.string x.base,Im x.of,fv] 348)
 grown:w.grownBy wr (some P)
variable {P S g m gg cap n l hh:Nat}{w wr w2 wy w':jk}{fv u:jm}{x:Sx}{us:List jm}{d:Wd}{e:Ex}{s:ji}{q:Ps}
theorem su.keep(h:su P w wr S fv g x us m)(hx:pq x)(hP:P<w.heap.size)(hg:wr.grownBy w' (some P)):su P w w' S fv g x us m:=by
 have h1:=h.Gg;have h2:=h.FZ;have h3:=h.Ey;have h4:=hg.size;refine⟨Fv (λb hb a=>(hx.all b hb).law a) h.Fq (λb b1 b2=>hg.block b (by omega) (by simp;omega)),h.own.kept hg ?_,h.jM,h2,by omega,h1,(hg.block S (by omega) (by simp;omega)).trans h.set,h.grown.trans hg⟩;cases hb:fv.ownBlock with
 |none=>exact jf rfl
 |some k=>right;have:=(h.own.lt k hb).1;simp;omega
theorem su.out(h:su P w wr S fv g x us m):oW x wr w.heap.size wr.heap.size (Pt S 0):=by
 have h1:=h.Gg;have h2:=h.FZ;have h3:=h.Ey;refine⟨S,fv,rfl,h1,by omega,h.set,?_⟩;rcases h.own with⟨_,⟨k2,k3⟩|⟨g',cap,cur,k2,k3,k4,k5,k6,k7,k8⟩⟩
 .exact jf ⟨List.length_eq_zero_iff.1 k3,k2⟩
 .rcases h.jM with⟨hg,hg2⟩|⟨_,hg⟩
  .subst k2;simp only[Value.ownBlock,bJ]at hg;subst hg;refine je ⟨g',cap,S+1,us,cur,rfl,by omega,by omega,by omega,by omega,Ou h.Fq h3,k4,λj v hj=>?_⟩;rw[<-k8]at hj;rw[iW]at hj;split at hj
   .simpa using hj
   .cases hj
  .rw[hg]at k2;cases k2
theorem su.pF(h:su P w wr S fv g x us m)(BU:wr.grownBy wy none)(hgr:wy.grownBy w2 fv.ownBlock):
 (∀b,b<wr.heap.size->b≠g\/m<=b\/b<=S->w2.heap[b]? =wr.heap[b]?)/\w.grownBy w2 (some P):=by
 have h1:=h.Gg;have h2:=h.FZ;have h3:=h.Ey;have h4:=BU.size;rcases h.jM with⟨k1,k2⟩|⟨k1,k2⟩
 .rw[k1]at hgr;have hgB:=(h.own.lt g k1).1;refine⟨λb hb hb2=>(hgr.block b (by omega) (by simp;omega)).trans (BU.block b hb (by simp)),?_⟩;exact(h.grown.trans (BU.but _)).andThen hgr (λj ej=>by cases ej;exact jf (by omega))
 .rw[k2]at hgr;have hgr:wy.grownBy w2 none:=hgr;exact⟨λb hb _=>(hgr.block b (by omega) (by simp)).trans (BU.block b hb (by simp)),h.grown.trans ((BU.trans hgr).but _)⟩
theorem su.add(h:su P w wr S fv g x us m)(hx:pq x)(he:kV e)(BU:wr.grownBy wy none)(hgr:wy.grownBy w2 fv.ownBlock)
 (hown:w2.ownsRow (S+1) 361 3 (.slice (some (Ad gg 0)) n cap) (x.jE.length+1) (xq x.jE us++Om d u))(hat:fv.ownBlock=some gg\/wr.heap.size<=gg)(hlt2:gg<w2.heap.size)
 (hh1:e.here e.at' wr l hh u)(hl1:m<=l)(hl2:l<=hh)(hl3:hh<=wr.heap.size):
 su P w (w2.setCell (Ad S 4) (.slice (some (Ad gg 0)) n cap)) S (.slice (some (Ad gg 0)) n cap) gg {x with jE:=x.jE++[(d,e)]} (us++[u]) w2.heap.size:=by
 have h1:=h.Gg;have h2:=h.FZ;have h3:=h.Ey;have h4:=BU.size;have h5:=hgr.size;obtain⟨n1,n2⟩:=h.pF BU hgr;have hgm:gg=g/\g<m\/wr.heap.size<=gg:=by
  rcases hat with k1|k1
  .rcases h.jM with⟨k2,k3⟩|⟨_,k2⟩
   .rw[k2]at k1;exact jf ⟨(fZ k1).symm,k3⟩
   .rw[k2]at k1;cases k1
  .exact je k1
 have rW:∀b∈x.jE,∀a,Lawful (b.2.here a):=λb hb a=>(hx.all b hb).law a;have k1:=aai rW h.Fq (λb b1 b2 b3=>n1 b (by omega) (jf b3));have k2:uS gg x.jE w2 (S+1) m us:=by
  rcases hgm with⟨h1,_⟩|h1
  .rw[h1];exact k1
  .exact aak k1 (by omega)
 have k3:=(he.law _).loc _ _ _ _ _ hh1 (λb b1 b2=>n1 b (by omega) (je (jf (by omega))));have k4:uS gg (x.jE++[(d,e)]) w2 (S+1) w2.heap.size (us++[u]):=aal (Ou k2 hl1) k3 (by omega) hl2 (by omega) (by omega);have alk:∀b∈x.jE++[(d,e)],∀a,Lawful (b.2.here a):=λb hb a=>by
  rcases List.mem_append.1 hb with hb|hb
  .exact rW b hb a
  .rw[cO.1 hb];exact he.law a
 have hSn:S≠gg:=by have:=(hown.lt gg rfl).1;omega
 have hset:=(n1 S (by omega) (je (je (aj _)))).trans h.set;have hsz:(w2.setCell (Ad S 4) (.slice (some (Ad gg 0)) n cap)).heap.size=w2.heap.size:=by simp[World.setCell]
 refine⟨Fv alk k4 (λb b1 b2=>bC _ _ _ _ (by simp only;omega)),?_,jf ⟨rfl,hlt2⟩,by omega,by rw[hsz];exact aj _,h1,?_,?_⟩
 .rw[aah _ _ _ _ (aaj h.Fq)];have:=hown.kept (vO w2 (Ad S 4) (.slice (some (Ad gg 0)) n cap)) (je (by simp[Value.ownBlock];omega));simpa using this
 .exact aK _ _ _ _ _ _ hset
 .exact pK n2 h1 _ _
theorem su.jw(h:su P w wr S fv g x us m)(hx:pq x)(hP:P<w.heap.size)(hg:wr.grownBy w' none)(c:Int):su P w (w'.setCell (Ad S 1) (Im c)) S fv g {x with jw:=c} us m:=by
 have k:=h.keep hx hP (hg.but _);have h1:=h.Gg;have hsz:(w'.setCell (Ad S 1) (Im c)).heap.size=w'.heap.size:=by simp[World.setCell]
 refine⟨Fv (λb hb a=>(hx.all b hb).law a) k.Fq (λb b1 b2=>bC _ _ _ _ (by simp only;omega)),?_,h.jM,k.FZ,by rw[hsz];exact k.Ey,h1,aK _ _ _ _ _ _ k.set,pK k.grown h1 _ _⟩;refine k.own.kept (vO w' (Ad S 1) (Im c)) ?_;cases hb:fv.ownBlock with
 |none=>exact jf rfl
 |some j=>right;have:=(k.own.lt j hb).1;simp;omega
theorem su.start(hset:wr.heap[S]? =some (.cells #[Im x.at',Im x.jw,.string x.base,Im x.of,Nl] 348))(hx:x.jE=[])(hS:w.heap.size<=S)(hg:w.grownBy wr (some P)):su P w wr S (Nl) 0 x [] (S+1):=by
 refine⟨?_,?_,je ⟨hx,rfl⟩,aj _,lY hset,hS,hset,hg⟩
 .rw[hx];rfl
 .rw[hx];exact fK _ _ _ _
end
end
section
open Go.RowKit Hx
attribute [local go_sem ↓] Go.wp_at_zero Go.wp_at_succ
attribute [local go_sem] kP
section
variable {w w' w1 w2 w3 w4:jk}{C lo hi b d m k:Nat}{c:Ck}{u v:jm}{e l r:Ex}{a:Int}{T:jo}{o:Obj}
structure CQ(w:jk)(C k:Nat)(o:Obj):Prop where
 at':w.heap[k]? =some o
 gt:C<k
 row:rowOf w C≠some k
theorem CQ.lk(h:CQ w C k o)(hl:Lk w w' lo hi C):CQ w' C k o:=
 ⟨(hl.pF k h.gt (lY h.at') (λe=>h.row e.symm)).trans h.at',h.gt,λe=>by
   rcases hl.row k e with e2|e2
   .exact h.row e2
   .have:=lY h.at';omega⟩
theorem CQ.new(hc:kY w C c)(o:Obj):CQ (w.alloc o) C w.heap.size o:=by
 have hC:=hc.lt;refine⟨aY w o,hC,λe=>?_⟩;rw[V6 (fP w o C hC)]at e;obtain⟨v,h⟩:=hc;have hr:rowOf w C=v.ownBlock:=by unfold rowOf;rw[show w.cell? (Ad C 0)=some v from jI h.jM]
 rw[hr]at e;have:=(h.row.lt _ e).2;omega
theorem aer{a:Option Addr}{n n' cap cap' k:Nat}(h:(Value.slice a n cap).ownBlock=some k):(Value.slice a n' cap').ownBlock=some k:=by
 cases a with
 |none=>cases h
 |some ad=>exact h
theorem aad(c:Ck)(t:ji)(ta:Int)(e:Dn)(ea one want:Int)(he:∀c,(e.look c).jy=c.jy):(c.bracket t ta e ea one want).jy=c.jy:=by
 unfold Ck.bracket Ck.cut;simp only[wE,he,Ck.add,Kr];simp
theorem aaA(h:mD d e)(hh:e.here e.at' w lo hi u)(hC:hi<=C)(hc:kY w C c)(hn:c.jy.length+(d+1)<=900000)(t:ji)(ta one want:Int):
 Calls prog 351 #[Pt C 0,.agg #[.string t,Im ta,u],Im one,Im want] w λen w'=>en=.returned (.tuple #[])/\e.here e.at' w' lo hi u/\kY w' C (c.bracket t ta e.does e.at' one want)/\Lk w w' lo hi C:=by
 have zM:=hc.lt;obtain⟨T1,b1,rfl,hT1,l1,l2,_⟩:=h.ok.head _ _ _ _ _ hh;have g0:w.grownBy (w.alloc (.cells #[.string t,Im ta,.iface T1 (Pt b1 0)] 361)) none:=ah w _ none;have hbx0:CQ (w.alloc (.cells #[.string t,Im ta,.iface T1 (Pt b1 0)] 361)) C w.heap.size (.cells #[.string t,Im ta,.iface T1 (Pt b1 0)] 361):=CQ.new hc _;have HA:=jA (jd h (jd hC hn));have hN0:=Tj (hc.grow g0) t ta (by omega);have HN:Hid (Calls prog 325 #[Pt C 0,.agg #[.string t,Im ta]] (w.alloc (.cells #[.string t,Im ta,.iface T1 (Pt b1 0)] 361)) λen w'=>en=.returned (.tuple #[])/\kY w' C (c.nG t ta)/\CQ w' C w.heap.size (.cells #[.string t,Im ta,.iface T1 (Pt b1 0)] 361)/\Lk w w' 0 0 C/\e.here e.at' w' lo hi (.iface T1 (Pt b1 0))):=hN0.mono λen w' ⟨q1,q2,q3⟩=>by
  have hl:=(Lk.grown g0 zM).trans q3;exact⟨q1,q2,hbx0.lk q3,hl,(h.ok.law _).lk hh hl hC (je (bD _))⟩
 have n0:¬C=w.heap.size:=by omega
 clear hN0 hbx0 g0 hh hc hn hT1 h;go_enter func351,ntmps351;go_wp2_with fail;refine HN.out.mono ?_;rintro en w1 ⟨rfl,k1,bx1,lk1,hh1⟩;have PD:=Kr c t ta;have kJ:=jA (jd k1 (jd bx1 (jd lk1 hh1)));obtain⟨v1,q1⟩:=kJ.out.1;obtain⟨a1,cap1,rfl⟩:=Bc q1.row;rw[PD]at q1;have c0:=jK 0 q1.jM rfl;have x0:=jK 0 bx1.at' rfl;have x1:=jK 1 bx1.at' rfl;have hA1:=Td kJ.out.1 t ta one false (by rw[PD];have:=HA.out.2.2;omega);have Gu:=jA hA1;have hcl:c.jy.length<=900000:=by have:=HA.out.2.2;omega
 clear k1 bx1 lk1 hh1 q1 hA1 HN;generalize hnl:c.jy.length=nl at *;go_wp2_with fail;refine Gu.out.mono ?_;rintro en w2 ⟨rfl,k2,Qb⟩;have SY:=kJ.out.2.1.lk Qb;have hh2:=(HA.out.1.ok.law _).lk kJ.out.2.2.2 Qb HA.out.2.1 (je (bD _));have hn2:((c.nG t ta).add t one false).jy.length+d<=900000:=by
  have:=HA.out.2.2;unfold Ck.add;rw[PD];simp only[aA,aF,bg];omega
 obtain⟨f1,m1,kM,H1⟩:=HA.out.1.look _ _ _ _ _ _ C _ hh2 HA.out.2.1 k2 hn2;have kM:∀args w,(callFunc f1 args).run prog w=.ok (.enter f1 args) w:=kM;have H1:Hid (Calls prog f1 #[Pt b1 0,Pt C 0] w2 λen w'=>en=.returned (.tuple #[])/\nU e e.at' w2 w' lo hi (.iface T1 (Pt b1 0)) b1 C ((c.nG t ta).add t one false)):=H1;have x2:=jK 2 SY.at' rfl;have HP2:=jA (jd SY (kJ.out.2.2.1.trans Qb));clear k2 Qb SY hh2 hn2 Gu;go_wp2_with fail;refine H1.out.mono ?_;rintro en w3 ⟨rfl,L3⟩;have bx3:=HP2.out.1.lk L3.keep;have x3:=jK 2 bx3.at' rfl;have HW:=jA (L3.want HA.out.1.ok want 0);have wV:=jA L3;clear L3 bx3 H1;go_wp2_with fail;refine HW.out.mono ?_;rintro en w4 ⟨rfl,k4,lk4⟩;have Um:((e.does.look ((c.nG t ta).add t one false)).want (e.does.jW ((c.nG t ta).add t one false).jy) e.at' want).jy.length=nl+1:=by
  rw[wE,HA.out.1.jy];unfold Ck.add;rw[PD];simp only[aA,aF,bg];omega
 obtain⟨v4,q4⟩:=k4;obtain⟨a4,cap4,rfl⟩:=Bc q4.row;rw[Um]at q4;have y0:=jK 0 q4.jM rfl;have fz:=qV q4.jM;have hcap:nl+1<=cap4:=by
  have:=q4.row;rw[Um]at this;rcases this with⟨_,⟨h2,h3⟩|⟨g,cap',cur,h2,_,_,h5,_⟩⟩
  .omega
  .cases h2;exact h5
 have hcut:=q4.cut (m:=nl) (by omega);have HE:Hid (e.here e.at' (w4.setCell (Ad C 0) (.slice a4 nl cap4)) lo hi (.iface T1 (Pt b1 0))/\kY (w4.setCell (Ad C 0) (.slice a4 nl cap4)) C (c.bracket t ta e.does e.at' one want)/\Lk w (w4.setCell (Ad C 0) (.slice a4 nl cap4)) lo hi C):=by
  have hl5:Lk w4 (w4.setCell (Ad C 0) (.slice a4 nl cap4)) 0 0 C:=Lk.named (v:=.slice a4 (nl+1) cap4) (aN _ _) q4.lt y0 (λk hk=>by have:=(q4.row.lt k hk).1;omega) (λk hk=>jf (aer hk));have h34:=lk4.trans hl5;refine⟨(HA.out.1.ok.law _).lk wV.out.here h34 HA.out.2.1 (je (bD _)),⟨.slice a4 nl cap4,?_⟩,(HP2.out.2.all _ _).trans (wV.out.keep.trans (h34.all _ _))⟩;unfold Ck.bracket;rw[hnl];exact hcut
 clear q4 hcut lk4 Um;have i0:(0:Int)<=(nl:Int):=by omega
 have i1:(nl:Int)<=(cap4:Int):=by omega
 go_wp2_with fail;go_end0;exact⟨rfl,HE.out⟩
end
section
variable {w w' w1 w2 w3 w4:jk}{C lo hi b d m k:Nat}{c:Ck}{u v:jm}{e l r:Ex}{a:Int}{T:jo}{o:Obj}{x:Sx}
theorem SX{g:Nat}:∀{bs:List (Wd×Ex)}{w:jk}{lo hi i:Nat}{us:List jm}{b:Wd×Ex},(∀b∈bs,∀a,Lawful (b.2.here a))->uS g bs w lo hi us->bs[i]? =some b->
 ∃l m u,us[i]? =some u/\lo<=l/\l<=m/\m<=hi/\(g<l\/m<=g)/\b.2.here b.2.at' w l m u/\∀w',(∀k,lo<=k->k<hi->k<l\/m<=k->w'.heap[k]? =w.heap[k]?)->b.2.here b.2.at' w' l m u->uS g bs w' lo hi us
 |[],_,_,_,_,_,_,_,_,hb=>by simp at hb
 |b0::bs,w,lo,hi,0,us,b,hl,⟨l,m,u,us',h0,h1,h2,h3,h4,h5,h6⟩,hb=>by
  simp only[dw,bJ]at hb;subst hb h0;refine⟨l,m,u,rfl,h1,h2,h3,h4,h5,λw' hk hh=>⟨l,m,u,us',rfl,h1,h2,h3,h4,hh,?_⟩⟩;exact Fv (λc hc=>hl c (aI _ hc)) h6 (λk k1 k2=>hk k (by omega) k2 (je k1))
 |b0::bs,w,lo,hi,i+1,us,b,hl,⟨l,m,u,us',h0,h1,h2,h3,h4,h5,h6⟩,hb=>by
  subst h0;obtain⟨l',m',u',q0,q1,q2,q3,q4,q5,q6⟩:=SX (i:=i) (λc hc=>hl c (aI _ hc)) h6 (by simpa using hb);refine⟨l',m',u',by simpa using q0,by omega,q2,q3,q4,q5,λw' hk hh=>⟨l,m,u,us',rfl,h1,h2,h3,h4,?_,q6 w' (λk k1 k2 k3=>hk k (by omega) k2 k3) hh⟩⟩;exact(hl b0 (aW ..) _).loc _ _ _ _ _ h5 (λk k1 k2=>hk k (by omega) (by omega) (jf (by omega)))
theorem Ot:∀(bs:List (Wd×Ex))(us:List jm)(i:Nat)(b:Wd×Ex)(u:jm),bs[i]? =some b->us[i]? =some u->(xq bs us)[i * 3]? =some (.string b.1.text)/\(xq bs us)[i * 3+1]? =some (Im b.1.at')/\(xq bs us)[i * 3+2]? =some u
 |[],_,i,b,u,h,_=>by simp at h
 |_::_,[],i,b,u,_,h=>by simp at h
 |b0::bs,u0::us,0,b,u,h,k=>by
  simp only[dw,bJ]at h k;subst h k;exact⟨rfl,rfl,rfl⟩
 |b0::bs,u0::us,i+1,b,u,h,k=>by
  have ih:=Ot bs us i b u (by simpa using h) (by simpa using k);have e:∀j,(xq (b0::bs) (u0::us))[j+3]? =(xq bs us)[j]? :=λj=>by simp[xq,Om]
  have e1:(i+1) * 3=i * 3+3:=by omega
  rw[e1];exact⟨(e _).trans ih.1,(e (i * 3+1)).trans ih.2.1,(e (i * 3+2)).trans ih.2.2⟩
theorem Nc(of:Int):∀(fs:List (Wd×Ex))(c:Ck),(∀b∈fs,∀c,(b.2.does.look c).jy=c.jy)->(oz of fs c).jy=c.jy
 |[],_,_=>rfl
 |b::fs,c,h=>by
  unfold oz;rw[bP];have:=Nc of fs (c.bracket b.1.text b.1.at' b.2.does b.2.at' of 2) (λb' hb=>h b' (aI _ hb));unfold oz at this;rw[this,aad _ _ _ _ _ _ _ (h b (aW ..))]
theorem am5(of:Int)(fs:List (Wd×Ex))(c:Ck)(i:Nat)(b:Wd×Ex)(h:fs[i]? =some b):oz of (fs.take (i+1)) c=(oz of (fs.take i) c).bracket b.1.text b.1.at' b.2.does b.2.at' of 2:=by
 have h1:fs.take (i+1)=fs.take i++[b]:=by rw[fU,h];rfl
 rw[h1];unfold oz;rw[dV]
 rfl
structure SC(x:Sx)(S g cap:Nat)(w wr:jk)(lo hi m C:Nat)(us:List jm)(arr:Array jm)(c:Ck)(i:Nat):Prop where
 set:wr.heap[S]? =some (.cells #[Im x.at',Im x.jw,.string x.base,Im x.of,.slice (some (Ad g 0)) x.jE.length cap] 348)
 row:wr.heap[g]? =some (.cells arr 361)
 Fq:uS g x.jE wr m hi us
 ck:kY wr C (oz x.of (x.jE.take i) c)
 keep:Lk w wr lo hi C
theorem Ti(h:rD 100000 (mD d) x)(hh:oW x w lo hi v)(hC:hi<=C)(hc:kY w C c)(hn:c.jy.length+(d+1)<=900000):
 Calls prog 349 #[Pt C 0,v] w λen w'=>en=.returned (.tuple #[])/\oW x w' lo hi v/\kY w' C (oz x.of x.jE c)/\Lk w w' lo hi C:=by
 obtain⟨S,fv,rfl,h1,h2,hS,hrow⟩:=hh;rcases hrow with⟨hf,rfl⟩|⟨g,cap,m,us,arr,rfl,g1,g2,m1,m2,hbr,hg,harr⟩
 .have c4:=jK 4 hS rfl;have HE:Hid (oW x w lo hi (Pt S 0)/\kY w C (oz x.of x.jE c)/\Lk w w lo hi C):=⟨⟨S,_,rfl,h1,h2,hS,jf ⟨hf,rfl⟩⟩,by rw[hf];exact hc,Lk.refl _ _ _ _⟩;clear hS hc;go_enter func349,ntmps349;go_wp2_with fail;refine wp_loop_rounds 1 ?_;rw[rounds_succ];go_wp2_with fail;go_end0;exact⟨rfl,HE.out⟩
 .have c4:=jK 4 hS rfl;have HA:=jA (jd h (jd hn (jd harr (jd hC (jd h1 (jd h2 (jd g1 (jd g2 (jd m1 m2)))))))));have HO:Hid (SC x S g cap w w lo hi m C us arr c 0):=⟨hS,hg,hbr,hc,Lk.refl _ _ _ _⟩;have hln:=h.len;clear hS hc hbr hg harr h hn;go_enter func349,ntmps349;go_wp2_with fail;go_loopg [11] (x.jE.length+1) (λgg i wr=>Hid (∃k:Nat,k+gg=x.jE.length+1/\k<=x.jE.length/\i=Im k/\SC x S g cap w wr lo hi m C us arr c k))
  case atStart=>exact⟨0,by omega,bD _,rfl,HO.out⟩
  case round=>
   obtain⟨k,hk1,hk2,rfl,hI⟩:=hrel.out;clear hrel HO;by_cases hlt:k<x.jE.length
   .have d1:decide ((k:Int)<(x.jE.length:Int))=true:=by simp;omega
    have i0:(0:Int)<=(k:Int):=by omega
    have i1:(k:Int)<(x.jE.length:Int):=by omega
    have hget:x.jE[k]? =some x.jE[k]:=by simp
    have hQ:=HA.out.1.all x.jE[k] (fG hlt);obtain⟨q1,q2,q3,q4,q5,q6,q7,q8,q9⟩:=HA.out.2;obtain⟨l',m',u',e0,e1,e2,e3,e4,e5,e6⟩:=SX (λb hb a=>(HA.out.1.all b hb).ok.law a) hI.Fq hget;obtain⟨z0,z1,z2⟩:=Ot _ us k _ u' hget e0;obtain⟨T1,b1,hu',_⟩:=hQ.ok.head _ _ _ _ _ e5;have k0:wr.cell? (Ad g (k * 3))=some (.string x.jE[k].1.text):=(jI hI.row).trans (q2 _ _ z0);have k1:wr.cell? (Ad g (k * 3+1))=some (Im x.jE[k].1.at'):=(jI hI.row).trans (q2 _ _ z1);have k2:wr.cell? (Ad g (k * 3+2))=some u':=(jI hI.row).trans (q2 _ _ z2);have c3:=jK 3 hI.set rfl;have hSl:=lY hI.set;have nS:¬S=wr.heap.size:=by omega
    have zM:=hI.ck.lt;have hLn:(oz x.of (x.jE.take k) c).jy=c.jy:=Nc _ _ _ (λb hb=>(HA.out.1.all b (dS hb)).jy);have Gv:Hid (∀y,wr.grownBy y none->Calls prog 351 #[Pt C 0,.agg #[.string x.jE[k].1.text,Im x.jE[k].1.at',u'],Im x.of,Im 2] y λen w'=>en=.returned (.tuple #[])/\SC x S g cap w w' lo hi m C us arr c (k+1)):=λy hy=>by
     have MF:=Lk.grown hy zM;refine(aaA hQ ((hQ.ok.law _).lk e5 MF (by omega) (je (bD _))) (by omega) (hI.ck.grow hy) (by rw[hLn];exact q1) _ _ x.of 2).mono ?_;rintro en w' ⟨r1,r2,r3,r4⟩;have hl2:=(MF.all _ _).trans r4;refine⟨r1,(hl2.keep S (by omega) (jf (by omega))).trans hI.set,(hl2.keep g (by omega) (by omega)).trans hI.row,e6 w' (λj j1 j2 j3=>hl2.keep j (by omega) j3) r2,?_,hI.keep.trans (hl2.wide (by omega) (by omega))⟩;rw[am5 _ _ _ _ _ hget];exact r3
    obtain⟨g',hg'⟩:∃g',gk=g'+1:=⟨gk-1,by omega⟩;subst hu';clear hget hQ q1 q2 q3 q4 q5 q6 q7 q8 q9 e0 e1 e2 e3 e4 e5 e6 z0 z1 z2 hI hLn;generalize x.jE[k].1.text=ft at *;generalize x.jE[k].1.at'=fa at *;go_wp2_with fail;refine nP 6 (by kernel_rfl) (by kernel_rfl) ?_;simp only[aC,aO,aG,aQ];repeat (go_big_quiet_step (fail))
    refine bF ?_;intro _ hw';obtain⟨n3,hw''⟩:=hw';subst hw'';go_wp2_with fail;refine(Gv.out _ ((ah wr _ none).trans (lK _ _))).mono ?_;rintro en w2 ⟨rfl,hI2⟩;have HI2:=jA hI2;clear hI2 Gv;go_wp2_with fail;go_roundg g'
    case measure=>omega
    case rel=>exact⟨k+1,by omega,by omega,by go_num,HI2.out⟩
   .have d1:decide ((k:Int)<(x.jE.length:Int))=false:=by simp;omega
    have HE:Hid (oW x wr lo hi (Pt S 0)/\kY wr C (oz x.of x.jE c)/\Lk w wr lo hi C):=by
     obtain⟨q1,q2,q3,q4,q5,q6,q7,q8,q9⟩:=HA.out.2;have hck:=hI.ck;rw[eU (by omega)]at hck;exact⟨⟨S,_,rfl,q4,q5,hI.set,je ⟨g,cap,m,us,arr,rfl,q6,q7,q8,q9,hI.Fq,hI.row,q2⟩⟩,hck,hI.keep⟩
    clear hI;go_wp2_with fail;go_end0;exact⟨rfl,HE.out⟩
end
section
variable {w w' w1 w2:jk}{C lo hi b S:Nat}{c:Co}{u:jm}{e l r:Ex}{a:Int}{T:jo}{x:Sx}
theorem UD(he:kC e)(t:ji)(one:Int):(c.inside t e.does one).1.jy=c.jy:=by
 unfold Co.inside Co.cut;simp only[he.jy,Co.know];simp
theorem UC(he:kC e)(t:ji)(one:Int)(hk:e.jw<=1000000):((c.inside t e.does one).1.code.length:Int)<=c.code.length+200 * e.jw+50:=he.len (c.know t one) (-1) hk
theorem kD.back(h:kD w C c){n:Nat}(hn:n<=c.jy.length):∃a cap,w.cell? (Ad C 1)=some (.slice a c.jy.length cap)/\c.jy.length<=cap/\(∀j,w.frozen? (Ad C j)=false)/\kD (w.setCell (Ad C 1) (.slice a n cap)) C (c.cut n)/\Gk w (w.setCell (Ad C 1) (.slice a n cap)) C:=by
 obtain⟨v,nv,h⟩:=h;obtain⟨a,cap,rfl⟩:=Bc h.jy;have hcut:=h.cut hn;refine⟨a,cap,jI h.jM,?_,λj=>oQ h.jM,⟨v,_,hcut.1⟩,hcut.2⟩;rcases h.jy with⟨_,⟨h2,h3⟩|⟨g,cap',cur,h2,_,_,h5,_⟩⟩
 .rw[h3];exact bD _
 .cases h2;exact h5
theorem abk(he:kC e)(hh:e.here e.at' w lo hi u)(hC:hi<=C)(hc:kD w C c)(hr:Room c (e.jw+1))(t:ji)(ta one:Int):
 Calls prog 352 #[Pt C 0,.agg #[.string t,Im ta,u],Im one] w λen w'=>en=.returned (Im (c.inside t e.does one).2)/\kD w' C (c.inside t e.does one).1/\Gk w w' C:=by
 have zM:=hc.lt;have ec:=he.ok.jw;obtain⟨T1,b1,rfl,_⟩:=he.ok.head _ _ _ _ _ hh;have g0:=λo=>ah w o none;have hnl:c.jy.length<=3000000:=by have:=hr.jy;omega
 have HN:Hid (∀o,Calls prog 324 #[Pt C 0,.agg #[.string t,Im ta],Im one] (w.alloc o) λen w'=>en=.returned (.tuple #[])/\kD w' C (c.know t one)/\DU w' C w.heap.size o/\Gk w w' C):=λo=>(TQ (hc.grow (g0 o)) t ta one (by omega)).mono λen w' ⟨q1,q2,q3⟩=>⟨q1,q2,(DU.new hc o).gk q3,(Gk.grown (g0 o) zM).trans q3⟩;have HA:Hid (kC e/\hi<=C/\e.here e.at' w lo hi (.iface T1 (Pt b1 0))/\Room (c.know t one) e.jw):=⟨he,hC,hh,by have:=hr.jw;omega,by have:=hr.code;show(c.code.length:Int)+_<=_;omega,by have:=hr.jy;show((c.jy++[(t,one)]).length:Int)+_<=_;simp only[aA,aF,bg];omega⟩;have hkn:(e.does.give (c.know t one) (-1)).1.jy.length=c.jy.length+1:=by rw[he.jy];simp[Co.know]
 obtain⟨a0,cap0,c1,_⟩:=hc.back (n:=0) (bD _);have n0:¬C=w.heap.size:=by omega
 clear hh hc hr he;unfold Co.inside;generalize auM:c.jy.length=nl at *;generalize hgv:e.does.give (c.know t one) (-1)=gv at *;have HGv:=jA hgv;clear hgv;obtain⟨gc,gs⟩:=gv;simp only at hkn⊢;go_enter func352,ntmps352;go_wp2_with fail;refine(HN.out _).mono ?_;rintro en w1 ⟨rfl,p1,bx1,q1⟩;have x2:=jK 2 bx1.at' rfl;obtain⟨f1,m1,kM,H1⟩:=HA.out.1.give _ _ _ _ _ _ C (c.know t one) (-1) ((HA.out.1.ok.law _).gk HA.out.2.2.1 q1 HA.out.2.1) HA.out.2.1 p1 HA.out.2.2.2;have kM:∀args w,(callFunc f1 args).run prog w=.ok (.enter f1 args) w:=kM;rw[HGv.out]at H1;have H1:Hid (Calls prog f1 #[Pt b1 0,Pt C 0,Im (-1)] w1 λen w'=>en=.returned (Im gs)/\kD w' C gc/\Gk w1 w' C):=H1;have mg:=jA q1;clear p1 q1 bx1 HN;go_wp2_with fail;refine H1.out.mono ?_;rintro en w2 ⟨rfl,p2,q2⟩;obtain⟨a2,cap2,y1,y2,fz,y3,y4⟩:=p2.back (n:=nl) (by omega);rw[hkn]at y1 y2;have HE:=jA (jd y3 ((mg.out.trans q2).trans y4));clear p2 q2 y3 y4 H1 mg;have i0:(0:Int)<=(nl:Int):=by omega
 have i1:(nl:Int)<=(cap2:Int):=by omega
 go_wp2_with fail;go_ret;exact⟨rfl,HE.out⟩
theorem TR(h:w.heap[S]? =some (.cells #[Im x.at',Im x.jw,.string x.base,Im x.of,u] 348)):Calls prog 348 #[Pt S 0] w λe w'=>e=.returned (Im (jP x.base))/\w'=w:=by
 have c2:=jK 2 h rfl;clear h;unfold jP;rw[<-aZ];cases h1:(x.base.toList==[70,82,69,83,72])with
 |true=>
  go_enter func348,ntmps348;go_wp2;go_ret;exact⟨rfl,rfl⟩
 |false=>
  cases h2:(x.base.toList==[65,71,65,73,78])with
  |true=>
   go_enter func348,ntmps348;go_wp2;go_ret;exact⟨rfl,rfl⟩
  |false=>
   go_enter func348,ntmps348;go_wp2;go_ret;exact⟨rfl,rfl⟩
def xW(one:Int)(c:Co)(b:Wd×Ex):Co:=((c.inside b.1.text b.2.does one).1.lay 5 [(c.inside b.1.text b.2.does one).2]).jX c.free
theorem TJ(one:Int){b:Wd×Ex}(h:kC b.2):(xW one c b).jy=c.jy:=UD h _ _
theorem akx(one:Int){b:Wd×Ex}(h:kC b.2)(hk:b.2.jw<=1000000):((xW one c b).code.length:Int)<=c.code.length+200 * (1+b.2.jw):=by
 have h1:=UC (c:=c) h b.1.text one hk;have h2:=oO (c.inside b.1.text b.2.does one).1 5 [(c.inside b.1.text b.2.does one).2];simp only[aF,bg]at h2;show(((c.inside b.1.text b.2.does one).1.lay 5 [(c.inside b.1.text b.2.does one).2]).code.length:Int)<=_;omega
theorem aky(one:Int)(fs:List (Wd×Ex))(c:Co)(i:Nat)(b:Wd×Ex)(h:fs[i]? =some b):Co.jE one (fs.take (i+1)) c=xW one (Co.jE one (fs.take i) c) b:=by
 have h1:fs.take (i+1)=fs.take i++[b]:=by rw[fU,h];rfl
 rw[h1];unfold Co.jE;rw[dV]
 rfl
theorem Iu{fs:List (Wd×Ex)}(h:∀b∈fs,0<=b.2.jw):0<=(fs.map λb=>1+b.2.jw).sum:=by
 induction fs with
 |nil=>simp
 |cons b fs ih=>
  have:=ih λc hc=>h c (aI _ hc);have:=h b (aW ..);simp only[dL,gY];omega
theorem WW{fs:List (Wd×Ex)}(h:∀b∈fs,0<=b.2.jw):∀(i:Nat)(b:Wd×Ex),fs[i]? =some b->((fs.take i).map λb=>1+b.2.jw).sum+(1+b.2.jw)<=(fs.map λb=>1+b.2.jw).sum:=by
 induction fs with
 |nil=>intro i b hb;simp at hb
 |cons b0 fs ih=>
  have h0:=h b0 (aW ..);have h1:∀b∈fs,0<=b.2.jw:=λc hc=>h c (aI _ hc);intro i b hb;cases i with
  |zero=>
   simp only[dw,bJ]at hb;subst hb;have:=Iu h1;simp only[aO,iM,List.sum_nil,dL,gY];omega
  |succ i=>
   have:=ih h1 i b (by simpa using hb);simp only[aC,dL,gY];omega
theorem OO(one:Int):∀(fs:List (Wd×Ex))(c:Co),(∀b∈fs,kC b.2)->(∀b∈fs,b.2.jw<=1000000)->(Co.jE one fs c).jy=c.jy/\((Co.jE one fs c).code.length:Int)<=c.code.length+200 * (fs.map λb=>1+b.2.jw).sum
 |[],c,_,_=>by simp[Co.jE]
 |b::fs,c,h,hk=>by
  have h0:=h b (aW ..);have h1:=akx (c:=c) one h0 (hk b (aW ..));obtain⟨h2,h3⟩:=OO one fs (xW one c b) (λd hd=>h d (aI _ hd)) (λd hd=>hk d (aI _ hd));have e:Co.jE one (b::fs) c=Co.jE one fs (xW one c b):=rfl;rw[e];refine⟨h2.trans (TJ one h0),?_⟩;simp only[dL,gY];omega
structure wG(x:Sx):Prop where
 all:∀b∈x.jE,kC b.2
 pos:∀b∈x.jE,0<=b.2.jw
 sum:1+(x.jE.map λb=>1+b.2.jw).sum<=x.jw
 max:x.jw<=1000000
 len:x.jE.length<=100000
theorem wG.of{N:Nat}(hN:N<=100000)(h:rD N kC x)(hk:x.jw<=1000000):wG x:=
 ⟨h.all,λb hb=>(h.all b hb).ok.jw.1,h.sum hk,hk,dH h.len hN⟩
theorem wG.each(h:wG x):∀b∈x.jE,b.2.jw<=1000000:=λb hb=>by
 obtain⟨i,hi,he⟩:=List.mem_iff_getElem.1 hb;have h1:=WW h.pos i b (by rw[<-he];simp);have h2:=Iu (fs:=x.jE.take i) λc hc=>h.pos c (dS hc);have:=h.sum;have:=h.max;omega
theorem ao3(h:wG x)(list:Int):(c.jZ list x.jE).1.jy=c.jy:=(OO _ _ _ h.all h.each).1
theorem VH(h:wG x)(list:Int):((c.jZ list x.jE).1.code.length:Int)<=c.code.length+52+200 * (x.jw-1):=by
 have h1:=(OO c.hold.2 x.jE ((c.hold.1.lay 21 [c.hold.2,list]).lay 4 [list,c.hold.2,c.hold.2]) h.all h.each).2;have h2:=oO (c.hold.1.lay 21 [c.hold.2,list]) 4 [list,c.hold.2,c.hold.2];have h3:=oO c.hold.1 21 [c.hold.2,list];have h4:=h.sum;have h5:c.hold.1.code.length=c.code.length:=rfl;simp only[aF,bg]at h2 h3;show((Co.jE c.hold.2 x.jE ((c.hold.1.lay 21 [c.hold.2,list]).lay 4 [list,c.hold.2,c.hold.2])).code.length:Int)<=_;omega
theorem OM(h:wG x)(list:Int):((c.nk list x.jE).1.code.length:Int)<=c.code.length+95+200 * (x.jw-1):=by
 have h5:c.hold.1.code.length=c.code.length:=rfl;have h6:=h.sum;have h7:=Iu h.pos;unfold Co.nk;split
 .have h3:=oO c.hold.1 21 [c.hold.2,list];simp only[aF,bg]at h3;simp only;omega
 .have h1:=VH (c:=c.hold.1.lay 6 [c.hold.2,0]) h list;have h3:=oO c.hold.1 6 [c.hold.2,0];simp only;generalize (c.hold.1.lay 6 [c.hold.2,0]).jZ list x.jE=o at *;have h2:=oO o.1 22 [c.hold.2,o.2];have h4:=oO (o.1.lay 22 [c.hold.2,o.2]) 0 [];simp only[aF,bg]at h2 h3 h4;show((((o.1.lay 22 [c.hold.2,o.2]).lay 0 []).code.length:Nat):Int)<=_;omega
end
end
end Go.Proofs.YthllhabjfchgiaaGreatDoor
