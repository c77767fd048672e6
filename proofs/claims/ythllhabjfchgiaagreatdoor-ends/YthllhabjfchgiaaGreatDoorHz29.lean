import Derived.Test.YthllhabjfchgiaaGreatDoorHz28
set_option maxRecDepth 100000
set_option maxHeartbeats 8000000
namespace Go.Proofs.YthllhabjfchgiaaGreatDoor
open _root_.Go.Proofs.Tryz
section
open Go.RowKit Hx
attribute [local go_sem ↓] Go.wp_at_zero Go.wp_at_succ
attribute [local go_sem] bT
section
variable {w w' w1 w2 w3 w4:World}{C lo hi b d m:Nat}{c:Ck}{u v:Value}{e l r:Ex}{a:Int}{T:TypeId}
theorem Pg{T' T:TypeId}{at' aj kind:Int}{mk:List Value->List Value}{dn:Dn}{c1 c2:Ck}(hk:∀ns,dn.bY ns=kind)(hl:cZ l)(hr:cZ r)(h1:lo<=b)(h2:b<hi)(hC:hi<=C)(hm1:lo<=m)(hm2:m<=b)(hb:w.heap[b]? =some (.cells (Im a::Im aj::Im kind::mk [u,v]).toArray T))
 {b1 b2:Nat}(L1:dW l l.at' w w1 lo m u b1 C c1)(hw:Lk w1 w2 0 0 C)(L2:dW r r.at' w2 w3 m b v b2 C c2)(hw3:Lk w3 w4 0 0 C)(hc:bU w4 C (dn.look c)):dW (lW T' T at' aj kind (rX (l.here l.at') (r.here r.at')) mk dn) a w w4 lo hi (.iface T' (Pt b 0)) b C c:=by
 have kk:Lk w w4 lo b C:=((L1.aN.wide (Nat.le_refl _) hm2).trans (hw.all _ _)).trans ((L2.aN.wide hm1 (Nat.le_refl _)).trans (hw3.all _ _));have hb2:=(kk.aN b (by omega) (Or.inr (Nat.le_refl _))).trans hb;have e1:l.here l.at' w2 lo m u:=(hl.law _).lk L1.here hw (by omega) (Or.inr (Nat.zero_le _));have e2:l.here l.at' w3 lo m u:=(hl.law _).lk e1 L2.aN (by omega) (Or.inl (Nat.le_refl _));have e3:l.here l.at' w4 lo m u:=(hl.law _).lk e2 hw3 (by omega) (Or.inr (Nat.zero_le _));have e4:r.here r.at' w4 m b v:=(hr.law _).lk L2.here hw3 (by omega) (Or.inr (Nat.zero_le _));refine⟨⟨b,[u,v],rfl,h1,h2,⟨m,u,v,rfl,hm1,hm2,e3,e4⟩,hb2⟩,?_,hc,kk.wide (Nat.le_refl _) (by omega)⟩;show w4.cell? (Ad b 2)=some (Im (dn.bY c.au));rw[hk];exact aA hb2
theorem abm{b:Nat}{k:Int}(hT:lD T)(h:w.cell? (Ad b 2)=some (Im k)):Calls prog 362 #[.iface T (Pt b 0)] w fun e w'=>e=.returned (Im (if k=2 then 2 else 1))/\w'=w:=by
 have m1:=hT.sort b;have HS:Hid (Calls prog 356 #[Pt b 0] w fun e w'=>e=.returned (Im k)/\w'=w):=IU b k h;by_cases hk:k=2
 .subst hk;go_enter func362,ntmps362;go_wp2_with fail;refine HS.out.mono ?_;rintro en w1 ⟨rfl,rfl⟩;go_wp2_with fail;go_ret;exact⟨rfl,rfl⟩
 .have hb:(k==2)=false:=by simp[hk]
  rw[if_neg hk];go_enter func362,ntmps362;go_wp2_with fail;refine HS.out.mono ?_;rintro en w1 ⟨rfl,rfl⟩;go_wp2_with fail;go_ret;exact⟨rfl,rfl⟩
theorem ae9(hl:dQ d l)(hr:dQ d r)(a0:Int):dQ d (Ae a0 l r):=by
 refine⟨PW a0 hl.ok hr.ok,fun c=>?_,?_⟩
 .show((r.does.look ((l.does.look c).want (l.does.bY c.au) l.at' 4)).want (r.does.bY ((l.does.look c).want (l.does.bY c.au) l.at' 4).au) r.at' 3).au=c.au;rw[ql,hr.au,ql,hl.au]
 rintro a w lo hi T b C c ⟨b',us,hv,h1,h2,⟨m,u,v,rfl,hm1,hm2,hu,hv2⟩,hb⟩ hC hc hn;cases hv;obtain⟨T1,b1,f1,rfl,hT1,l1,l2,m1,dU,H1⟩:=hl.use (C:=C) (c:=c) hu (by omega) hc hn;have dU:∀args w,(callFunc f1 args).run prog w=.ok (.enter f1 args) w:=dU;have H1:Hid (Calls prog f1 #[Pt b1 0,Pt C 0] w fun en w'=>en=.returned (.tuple #[])/\dW l l.at' w w' lo m (.iface T1 (Pt b1 0)) b1 C c):=H1;obtain⟨T2,b2,rfl,hT2,_⟩:=hr.ok.head _ _ _ _ _ hv2;have c3:w.cell? (Ad b 3)=some (.iface T1 (Pt b1 0)):=aA hb;have HB:Hid (w.heap[b]? =some (.cells (Im a::Im (bD [l.aj,r.aj])::Im 2::[.iface T1 (Pt b1 0),.iface T2 (Pt b2 0)]).toArray 400)):=hb;have HC:Hid (dQ d l/\dQ d r/\hi<=C/\c.au.length+d<=900000/\r.here r.at' w m b (.iface T2 (Pt b2 0))):=⟨hl,hr,hC,hn,hv2⟩;refine⟨387,fun w=>by kernel_rfl,fun args w=>by kernel_rfl,?_⟩;clear hu hb hc hn hv2 hl hr;go_enter func387,ntmps387;go_wp2_with fail;refine H1.out.mono ?_;rintro en w1 ⟨rfl,L1⟩;have hb1:=(L1.aN.aN b (by omega) (Or.inr hm2)).trans HB.out;have e3:w1.cell? (Ad b 3)=some (.iface T1 (Pt b1 0)):=aA hb1;have HW:Hid (Calls prog 317 #[Pt C 0,.iface T1 (Pt b1 0),Im 4] w1 fun en w2=>en=.returned (.tuple #[])/\bU w2 C ((l.does.look c).want (l.does.bY c.au) l.at' 4)/\Lk w1 w2 0 0 C):=L1.want HC.out.1.ok 4 0;have HL:Hid (dW l l.at' w w1 lo m (.iface T1 (Pt b1 0)) b1 C c/\w1.heap[b]? =some (.cells (Im a::Im (bD [l.aj,r.aj])::Im 2::[.iface T1 (Pt b1 0),.iface T2 (Pt b2 0)]).toArray 400)):=⟨L1,hb1⟩;clear L1 hb1 H1;go_wp2_with fail;refine HW.out.mono ?_
 rintro en w2 ⟨rfl,p1,p2⟩;have hb2:=(p2.aN b (by omega) (Or.inr (Nat.zero_le _))).trans HL.out.2;have e4:w2.cell? (Ad b 4)=some (.iface T2 (Pt b2 0)):=aA hb2;have hr2:r.here r.at' w2 m b (.iface T2 (Pt b2 0)):=(HC.out.2.1.ok.law _).lk ((HC.out.2.1.ok.law _).lk HC.out.2.2.2.2 HL.out.1.aN (by omega) (Or.inr (Nat.le_refl _))) p2 (by omega) (Or.inr (Nat.zero_le _));have hnm:((l.does.look c).want (l.does.bY c.au) l.at' 4).au=c.au:=by rw[ql,HC.out.1.au]
 obtain⟨f2,m2,qN,H2⟩:=HC.out.2.1.look _ _ _ _ _ _ C _ hr2 (by omega) p1 (by rw[hnm];exact HC.out.2.2.2.1);have qN:∀args w,(callFunc f2 args).run prog w=.ok (.enter f2 args) w:=qN;have H2:Hid (Calls prog f2 #[Pt b2 0,Pt C 0] w2 fun en w'=>en=.returned (.tuple #[])/\dW r r.at' w2 w' m b (.iface T2 (Pt b2 0)) b2 C ((l.does.look c).want (l.does.bY c.au) l.at' 4)):=H2;have dO:Hid (Lk w1 w2 0 0 C/\w2.heap[b]? =some (.cells (Im a::Im (bD [l.aj,r.aj])::Im 2::[.iface T1 (Pt b1 0),.iface T2 (Pt b2 0)]).toArray 400)):=⟨p2,hb2⟩;clear p1 p2 hb2 hr2 hnm HW;go_wp2_with fail;refine H2.out.mono ?_;rintro en w3 ⟨rfl,L2⟩;have hb3:=(L2.aN.aN b (by omega) (Or.inr (Nat.le_refl _))).trans dO.out.2;have e5:w3.cell? (Ad b 4)=some (.iface T2 (Pt b2 0)):=aA hb3;have HW:Hid (Calls prog 317 #[Pt C 0,.iface T2 (Pt b2 0),Im 3] w3 fun en w4=>en=.returned (.tuple #[])/\bU w4 C ((Ae a0 l r).does.look c)/\Lk w3 w4 0 0 C):=L2.want HC.out.2.1.ok 3 0;have HL2:Hid (dW r r.at' w2 w3 m b (.iface T2 (Pt b2 0)) b2 C ((l.does.look c).want (l.does.bY c.au) l.at' 4)):=L2;clear L2 hb3 H2;go_wp2_with fail;refine HW.out.mono ?_;rintro en w4 ⟨rfl,p1,p2⟩;have HE:Hid (dW (Ae a0 l r) a w w4 lo hi (.iface 398 (Pt b 0)) b C c):=Pg (fun _=>rfl) HC.out.1.ok HC.out.2.1.ok h1 h2 hC hm1 hm2 HB.out HL.out.1 dO.out.1 HL2.out p2 p1;clear p1 p2;go_wp2_with fail;go_end0;exact⟨rfl,HE.out⟩
theorem ai5(hl:dQ d l)(hr:dQ d r)(a0 kind:Int)(sign:ByteArray):dQ d (qH a0 kind sign l r):=by
 refine⟨IZ a0 kind sign hl.ok hr.ok,fun c=>?_,?_⟩
 .show((r.does.look ((l.does.look c).want (l.does.bY c.au) l.at' (uV sign (l.does.bY c.au)))).want (r.does.bY ((l.does.look c).want (l.does.bY c.au) l.at' (uV sign (l.does.bY c.au))).au) r.at' (uV sign (l.does.bY c.au))).au=c.au;rw[ql,hr.au,ql,hl.au]
 rintro a w lo hi T b C c ⟨b',us,hv,h1,h2,⟨m,u,v,rfl,hm1,hm2,hu,hv2⟩,hb⟩ hC hc hn;cases hv;obtain⟨T1,b1,f1,rfl,hT1,l1,l2,m1,dU,H1⟩:=hl.use (C:=C) (c:=c) hu (by omega) hc hn;have dU:∀args w,(callFunc f1 args).run prog w=.ok (.enter f1 args) w:=dU;have H1:Hid (Calls prog f1 #[Pt b1 0,Pt C 0] w fun en w'=>en=.returned (.tuple #[])/\dW l l.at' w w' lo m (.iface T1 (Pt b1 0)) b1 C c):=H1;obtain⟨T2,b2,rfl,hT2,_⟩:=hr.ok.head _ _ _ _ _ hv2;have c4:w.cell? (Ad b 4)=some (.iface T1 (Pt b1 0)):=aA hb;have HB:Hid (w.heap[b]? =some (.cells (Im a::Im (bD [l.aj,r.aj])::Im kind::[.string sign,.iface T1 (Pt b1 0),.iface T2 (Pt b2 0)]).toArray 376)):=hb;have HC:Hid (dQ d l/\dQ d r/\hi<=C/\c.au.length+d<=900000/\r.here r.at' w m b (.iface T2 (Pt b2 0))):=⟨hl,hr,hC,hn,hv2⟩;have Nj:Hid (∀x,Calls prog 267 #[.string sign] x fun e w'=>e=.returned (.tuple #[Im (lX sign.data.toList).1,Im (lX sign.data.toList).2])/\w'=x):=fun x=>XU sign x;have HT1:Hid (lD T1):=hT1;refine⟨355,fun w=>by kernel_rfl,fun args w=>by kernel_rfl,?_⟩;clear hu hb hc hn hv2 hl hr hT1;have hsd:uV sign (l.does.bY c.au)=if (lX sign.data.toList).1=0 then (if l.does.bY c.au=2 then 2 else 1)else (lX sign.data.toList).1:=rfl;generalize hside:uV sign (l.does.bY c.au)=side at *;have Ea:Hid (uV sign (l.does.bY c.au)=side):=hside;clear hside;generalize hsk:lX sign.data.toList=sk at *;obtain⟨s1,s2⟩:=sk;simp only at hsd Nj;go_enter func355,ntmps355;go_wp2_with fail;refine H1.out.mono ?_;rintro en w1 ⟨rfl,L1⟩
 have hb1:=(L1.aN.aN b (by omega) (Or.inr hm2)).trans HB.out;have e3:w1.cell? (Ad b 3)=some (.string sign):=aA hb1;have e4:w1.cell? (Ad b 4)=some (.iface T1 (Pt b1 0)):=aA hb1;have HQ:Hid (Calls prog 362 #[.iface T1 (Pt b1 0)] w1 fun e w'=>e=.returned (Im (if l.does.bY c.au=2 then 2 else 1))/\w'=w1):=abm HT1.out L1.kind;have HW:Hid (Calls prog 317 #[Pt C 0,.iface T1 (Pt b1 0),Im side] w1 fun en w2=>en=.returned (.tuple #[])/\bU w2 C ((l.does.look c).want (l.does.bY c.au) l.at' side)/\Lk w1 w2 0 0 C):=L1.want HC.out.1.ok side 0;have HL:Hid (dW l l.at' w w1 lo m (.iface T1 (Pt b1 0)) b1 C c/\w1.heap[b]? =some (.cells (Im a::Im (bD [l.aj,r.aj])::Im kind::[.string sign,.iface T1 (Pt b1 0),.iface T2 (Pt b2 0)]).toArray 376)):=⟨L1,hb1⟩;clear L1 hb1 H1;generalize hlk:l.does.bY c.au=lk at *;have Rq:Hid (l.does.bY c.au=lk):=hlk;clear hlk;by_cases hs1:s1=0
 .subst hs1;rw[if_pos rfl]at hsd;rw[<-hsd]at HQ;clear hsd;go_wp2_with fail;refine(Nj.out _).mono ?_;rintro en w1' ⟨rfl,rfl⟩;go_wp2_with fail;refine HQ.out.mono ?_;rintro en w1' ⟨rfl,rfl⟩;go_wp2_with fail;refine HW.out.mono ?_;rintro en w2 ⟨rfl,p1,p2⟩;have hb2:=(p2.aN b (by omega) (Or.inr (Nat.zero_le _))).trans HL.out.2;have e5:w2.cell? (Ad b 5)=some (.iface T2 (Pt b2 0)):=aA hb2;have hr2:r.here r.at' w2 m b (.iface T2 (Pt b2 0)):=(HC.out.2.1.ok.law _).lk ((HC.out.2.1.ok.law _).lk HC.out.2.2.2.2 HL.out.1.aN (by omega) (Or.inr (Nat.le_refl _))) p2 (by omega) (Or.inr (Nat.zero_le _));have hnm:((l.does.look c).want lk l.at' side).au=c.au:=by rw[ql,HC.out.1.au]
  obtain⟨f2,m2,qN,H2⟩:=HC.out.2.1.look _ _ _ _ _ _ C _ hr2 (by omega) p1 (by rw[hnm];exact HC.out.2.2.2.1);have qN:∀args w,(callFunc f2 args).run prog w=.ok (.enter f2 args) w:=qN;have H2:Hid (Calls prog f2 #[Pt b2 0,Pt C 0] w2 fun en w'=>en=.returned (.tuple #[])/\dW r r.at' w2 w' m b (.iface T2 (Pt b2 0)) b2 C ((l.does.look c).want lk l.at' side)):=H2;have dO:Hid (Lk w1' w2 0 0 C/\w2.heap[b]? =some (.cells (Im a::Im (bD [l.aj,r.aj])::Im kind::[.string sign,.iface T1 (Pt b1 0),.iface T2 (Pt b2 0)]).toArray 376)):=⟨p2,hb2⟩;clear p1 p2 hb2 hr2 hnm HW;go_wp2_with fail;refine H2.out.mono ?_;rintro en w3 ⟨rfl,L2⟩;have hb3:=(L2.aN.aN b (by omega) (Or.inr (Nat.le_refl _))).trans dO.out.2;have e6:w3.cell? (Ad b 5)=some (.iface T2 (Pt b2 0)):=aA hb3;have HW:Hid (Calls prog 317 #[Pt C 0,.iface T2 (Pt b2 0),Im side] w3 fun en w4=>en=.returned (.tuple #[])/\bU w4 C ((r.does.look ((l.does.look c).want lk l.at' side)).want (r.does.bY ((l.does.look c).want lk l.at' side).au) r.at' side)/\Lk w3 w4 0 0 C):=L2.want HC.out.2.1.ok side 0;have HL2:Hid (dW r r.at' w2 w3 m b (.iface T2 (Pt b2 0)) b2 C ((l.does.look c).want lk l.at' side)):=L2;clear L2 hb3 H2;go_wp2_with fail;refine HW.out.mono ?_;rintro en w4 ⟨rfl,p1,p2⟩;have HE:Hid (dW (qH a0 kind sign l r) a w w4 lo hi (.iface 374 (Pt b 0)) b C c):=by
   refine Pg (fun _=>rfl) HC.out.1.ok HC.out.2.1.ok h1 h2 hC hm1 hm2 HB.out HL.out.1 dO.out.1 HL2.out p2 ?_;have h0:(qH a0 kind sign l r).does.look c=(r.does.look ((l.does.look c).want lk l.at' side)).want (r.does.bY ((l.does.look c).want lk l.at' side).au) r.at' side:=by
    show(r.does.look ((l.does.look c).want (l.does.bY c.au) l.at' (uV sign (l.does.bY c.au)))).want (r.does.bY ((l.does.look c).want (l.does.bY c.au) l.at' (uV sign (l.does.bY c.au))).au) r.at' (uV sign (l.does.bY c.au))=_;rw[Rq.out,Ea.out]
   have p1:bU w4 C ((qH a0 kind sign l r).does.look c):=by rw[h0];exact p1
   exact p1
  clear p1 p2;go_wp2_with fail;go_end0;exact⟨rfl,HE.out⟩
 .have hb0:(s1==0)=false:=by simp[hs1]
  rw[if_neg hs1]at hsd;subst hsd;go_wp2_with fail;refine(Nj.out _).mono ?_;rintro en w1' ⟨rfl,rfl⟩;go_wp2_with fail;refine HW.out.mono ?_;rintro en w2 ⟨rfl,p1,p2⟩;have hb2:=(p2.aN b (by omega) (Or.inr (Nat.zero_le _))).trans HL.out.2;have e5:w2.cell? (Ad b 5)=some (.iface T2 (Pt b2 0)):=aA hb2;have hr2:r.here r.at' w2 m b (.iface T2 (Pt b2 0)):=(HC.out.2.1.ok.law _).lk ((HC.out.2.1.ok.law _).lk HC.out.2.2.2.2 HL.out.1.aN (by omega) (Or.inr (Nat.le_refl _))) p2 (by omega) (Or.inr (Nat.zero_le _));have hnm:((l.does.look c).want lk l.at' side).au=c.au:=by rw[ql,HC.out.1.au]
  obtain⟨f2,m2,qN,H2⟩:=HC.out.2.1.look _ _ _ _ _ _ C _ hr2 (by omega) p1 (by rw[hnm];exact HC.out.2.2.2.1);have qN:∀args w,(callFunc f2 args).run prog w=.ok (.enter f2 args) w:=qN;have H2:Hid (Calls prog f2 #[Pt b2 0,Pt C 0] w2 fun en w'=>en=.returned (.tuple #[])/\dW r r.at' w2 w' m b (.iface T2 (Pt b2 0)) b2 C ((l.does.look c).want lk l.at' side)):=H2;have dO:Hid (Lk w1' w2 0 0 C/\w2.heap[b]? =some (.cells (Im a::Im (bD [l.aj,r.aj])::Im kind::[.string sign,.iface T1 (Pt b1 0),.iface T2 (Pt b2 0)]).toArray 376)):=⟨p2,hb2⟩;clear p1 p2 hb2 hr2 hnm HW;go_wp2_with fail;refine H2.out.mono ?_;rintro en w3 ⟨rfl,L2⟩;have hb3:=(L2.aN.aN b (by omega) (Or.inr (Nat.le_refl _))).trans dO.out.2;have e6:w3.cell? (Ad b 5)=some (.iface T2 (Pt b2 0)):=aA hb3;have HW:Hid (Calls prog 317 #[Pt C 0,.iface T2 (Pt b2 0),Im side] w3 fun en w4=>en=.returned (.tuple #[])/\bU w4 C ((r.does.look ((l.does.look c).want lk l.at' side)).want (r.does.bY ((l.does.look c).want lk l.at' side).au) r.at' side)/\Lk w3 w4 0 0 C):=L2.want HC.out.2.1.ok side 0;have HL2:Hid (dW r r.at' w2 w3 m b (.iface T2 (Pt b2 0)) b2 C ((l.does.look c).want lk l.at' side)):=L2;clear L2 hb3 H2;go_wp2_with fail;refine HW.out.mono ?_;rintro en w4 ⟨rfl,p1,p2⟩;have HE:Hid (dW (qH a0 kind sign l r) a w w4 lo hi (.iface 374 (Pt b 0)) b C c):=by
   refine Pg (fun _=>rfl) HC.out.1.ok HC.out.2.1.ok h1 h2 hC hm1 hm2 HB.out HL.out.1 dO.out.1 HL2.out p2 ?_;have h0:(qH a0 kind sign l r).does.look c=(r.does.look ((l.does.look c).want lk l.at' side)).want (r.does.bY ((l.does.look c).want lk l.at' side).au) r.at' side:=by
    show(r.does.look ((l.does.look c).want (l.does.bY c.au) l.at' (uV sign (l.does.bY c.au)))).want (r.does.bY ((l.does.look c).want (l.does.bY c.au) l.at' (uV sign (l.does.bY c.au))).au) r.at' (uV sign (l.does.bY c.au))=_;rw[Rq.out,Ea.out]
   have p1:bU w4 C ((qH a0 kind sign l r).does.look c):=by rw[h0];exact p1
   exact p1
  clear p1 p2;go_wp2_with fail;go_end0;exact⟨rfl,HE.out⟩
end
end
section
open Go.RowKit Hx
section
theorem Td{g:Nat}:∀{bs:List (Wd×Ex)}{w w':World}{lo hi:Nat}{us:List Value},(∀b∈bs,∀a,Lawful (b.2.here a))->oN g bs w lo hi us->(∀b,lo<=b->b<hi->b≠g->w'.heap[b]? =w.heap[b]?)->oN g bs w' lo hi us
 |[],_,_,_,_,_,_,h,_=>h
 |b::bs,_,_,_,_,_,hl,⟨l,m,u,us',h0,h1,h2,h3,h4,h5,h6⟩,hk=>
  ⟨l,m,u,us',h0,h1,h2,h3,h4,(hl b (List.mem_cons_self ..) _).loc _ _ _ _ _ h5 (fun k k1 k2=>hk k (by omega) (by omega) (by omega)),Td (fun c hc=>hl c (List.mem_cons_of_mem _ hc)) h6 (fun k k1 k2 k3=>hk k (by omega) k2 k3)⟩
theorem Tf{g:Nat}:∀{bs:List (Wd×Ex)}{w:World}{lo hi:Nat}{us:List Value},oN g bs w lo hi us->us.length=bs.length
 |[],_,_,_,_,h=>by
  have h:_=[]:=h;rw[h];rfl
 |_::_,_,_,_,_,⟨_,_,_,_,h0,_,_,_,_,_,h6⟩=>by rw[h0];simp[Tf h6]
theorem Tc:∀(bs:List (Wd×Ex))(us:List Value)(b:Wd×Ex)(u:Value),us.length=bs.length->qx (bs++[b]) (us++[u])=qx bs us++JE b.1 u
 |[],[],b,u,_=>by simp[qx]
 |c::bs,v::us,b,u,h=>by
  have:=Tc bs us b u (by simpa using h);simp[qx,this]
 |[],_::_,_,_,h=>by simp at h
 |_::_,[],_,_,h=>by simp at h
structure mY(P:Nat)(w wr:World)(S:Nat)(fv:Value)(g:Nat)(x:Sx)(us:List Value)(m:Nat):Prop where
 AX:oN g x.aH wr (S+1) m us
 own:wr.ownsRow (S+1) 361 3 fv x.aH.length (qx x.aH us)
 aW:(fv.ownBlock=some g/\g<m)\/(x.aH=[]/\fv=Nl)
 Bh:S+1<=m
 Aa:m<=wr.heap.size
 Bz:w.heap.size<=S
 set:wr.heap[S]? =some (.cells #[Im x.at',Im x.aj,.string x.base,Im x.of,fv] 348)
 grown:w.grownBy wr (some P)
variable {P S g m gg cap n l hh:Nat}{w wr w2 wy w':World}{fv u:Value}{x:Sx}{us:List Value}{d:Wd}{e:Ex}{s:ByteArray}{q:Ps}
theorem mY.aN(h:mY P w wr S fv g x us m)(hx:fM x)(hP:P<w.heap.size)(hg:wr.grownBy w' (some P)):mY P w w' S fv g x us m:=by
 have h1:=h.Bz;have h2:=h.Bh;have h3:=h.Aa;have h4:=hg.size;refine⟨Em (fun b hb a=>(hx.all b hb).law a) h.AX (fun b b1 b2=>hg.block b (by omega) (by simp;omega)),h.own.kept hg ?_,h.aW,h2,by omega,h1,(hg.block S (by omega) (by simp;omega)).trans h.set,h.grown.trans hg⟩;cases hb:fv.ownBlock with
 |none=>exact Or.inl rfl
 |some k=>right;have:=(h.own.lt k hb).1;simp;omega
theorem mY.out(h:mY P w wr S fv g x us m):dF x wr w.heap.size wr.heap.size (Pt S 0):=by
 have h1:=h.Bz;have h2:=h.Bh;have h3:=h.Aa;refine⟨S,fv,rfl,h1,by omega,h.set,?_⟩;rcases h.own with⟨_,⟨k2,k3⟩|⟨g',cap,cur,k2,k3,k4,k5,k6,k7,k8⟩⟩
 .exact Or.inl ⟨List.length_eq_zero_iff.1 k3,k2⟩
 .rcases h.aW with⟨hg,hg2⟩|⟨_,hg⟩
  .subst k2;simp only[Value.ownBlock,Option.some.injEq]at hg;subst hg;refine Or.inr ⟨g',cap,S+1,us,cur,rfl,by omega,by omega,by omega,by omega,JG h.AX h3,k4,fun j v hj=>?_⟩;rw[<-k8]at hj;rw[List.getElem?_take]at hj;split at hj
   .simpa using hj
   .cases hj
  .rw[hg]at k2;cases k2
theorem mY.lK(h:mY P w wr S fv g x us m)(xw:wr.grownBy wy none)(hgr:wy.grownBy w2 fv.ownBlock):
 (∀b,b<wr.heap.size->b≠g\/m<=b\/b<=S->w2.heap[b]? =wr.heap[b]?)/\w.grownBy w2 (some P):=by
 have h1:=h.Bz;have h2:=h.Bh;have h3:=h.Aa;have h4:=xw.size;rcases h.aW with⟨k1,k2⟩|⟨k1,k2⟩
 .rw[k1]at hgr;have hgB:S+1<=g:=(h.own.lt g k1).1;refine⟨fun b hb hb2=>(hgr.block b (by omega) (by simp;omega)).trans (xw.block b hb (by simp)),?_⟩;exact(h.grown.trans (xw.but _)).andThen hgr (fun j ej=>by cases ej;exact Or.inl (by omega))
 .rw[k2]at hgr;have hgr:wy.grownBy w2 none:=hgr;exact⟨fun b hb _=>(hgr.block b (by omega) (by simp)).trans (xw.block b hb (by simp)),h.grown.trans ((xw.trans hgr).but _)⟩
theorem mY.add(h:mY P w wr S fv g x us m)(hx:fM x)(he:cZ e)(xw:wr.grownBy wy none)(hgr:wy.grownBy w2 fv.ownBlock)
 (hown:w2.ownsRow (S+1) 361 3 (.slice (some (Ad gg 0)) n cap) (x.aH.length+1) (qx x.aH us++JE d u))(hat:fv.ownBlock=some gg\/wr.heap.size<=gg)(hlt2:gg<w2.heap.size)
 (hh1:e.here e.at' wr l hh u)(hl1:m<=l)(hl2:l<=hh)(hl3:hh<=wr.heap.size):
 mY P w (w2.setCell (Ad S 4) (.slice (some (Ad gg 0)) n cap)) S (.slice (some (Ad gg 0)) n cap) gg {x with aH:=x.aH++[(d,e)]} (us++[u]) w2.heap.size:=by
 have h1:=h.Bz;have h2:=h.Bh;have h3:=h.Aa;have h4:=xw.size;have h5:=hgr.size;obtain⟨n1,n2⟩:=h.lK xw hgr;have hgm:gg=g/\g<m\/wr.heap.size<=gg:=by
  rcases hat with k1|k1
  .rcases h.aW with⟨k2,k3⟩|⟨_,k2⟩
   .rw[k2]at k1;exact Or.inl ⟨(Option.some.inj k1).symm,k3⟩
   .rw[k2]at k1;cases k1
  .exact Or.inr k1
 have rV:∀b∈x.aH,∀a,Lawful (b.2.here a):=fun b hb a=>(hx.all b hb).law a;have k1:oN g x.aH w2 (S+1) m us:=Td rV h.AX (fun b b1 b2 b3=>n1 b (by omega) (Or.inl b3));have k2:oN gg x.aH w2 (S+1) m us:=by
  rcases hgm with⟨h1,_⟩|h1
  .rw[h1];exact k1
  .exact Ti k1 (by omega)
 have k3:e.here e.at' w2 l hh u:=(he.law _).loc _ _ _ _ _ hh1 (fun b b1 b2=>n1 b (by omega) (Or.inr (Or.inl (by omega))));have k4:oN gg (x.aH++[(d,e)]) w2 (S+1) w2.heap.size (us++[u]):=Tj (JG k2 hl1) k3 (by omega) hl2 (by omega) (by omega);have acj:∀b∈x.aH++[(d,e)],∀a,Lawful (b.2.here a):=fun b hb a=>by
  rcases List.mem_append.1 hb with hb|hb
  .exact rV b hb a
  .rw[List.mem_singleton.1 hb];exact he.law a
 have hSn:S≠gg:=by have:=(hown.lt gg rfl).1;omega
 have hset:w2.heap[S]? =some (.cells #[Im x.at',Im x.aj,.string x.base,Im x.of,fv] 348):=(n1 S (by omega) (Or.inr (Or.inr (Nat.le_refl _)))).trans h.set;have hsz:(w2.setCell (Ad S 4) (.slice (some (Ad gg 0)) n cap)).heap.size=w2.heap.size:=by simp[World.setCell]
 refine⟨Em acj k4 (fun b b1 b2=>Below.heap_setCell _ _ _ _ (by simp only;omega)),?_,Or.inl ⟨rfl,hlt2⟩,by omega,by rw[hsz];exact Nat.le_refl _,h1,?_,?_⟩
 .rw[Tc _ _ _ _ (Tf h.AX)];have:=hown.kept (pO w2 (Ad S 4) (.slice (some (Ad gg 0)) n cap)) (Or.inr (by simp[Value.ownBlock];omega));simpa using this
 .exact heap_setCell_same _ _ _ _ _ _ hset
 .exact kP n2 h1 _ _
theorem mY.aj(h:mY P w wr S fv g x us m)(hx:fM x)(hP:P<w.heap.size)(hg:wr.grownBy w' none)(c:Int):mY P w (w'.setCell (Ad S 1) (Im c)) S fv g {x with aj:=c} us m:=by
 have k:=h.aN hx hP (hg.but _);have h1:=h.Bz;have hsz:(w'.setCell (Ad S 1) (Im c)).heap.size=w'.heap.size:=by simp[World.setCell]
 refine⟨Em (fun b hb a=>(hx.all b hb).law a) k.AX (fun b b1 b2=>Below.heap_setCell _ _ _ _ (by simp only;omega)),?_,h.aW,k.Bh,by rw[hsz];exact k.Aa,h1,heap_setCell_same _ _ _ _ _ _ k.set,kP k.grown h1 _ _⟩;refine k.own.kept (pO w' (Ad S 1) (Im c)) ?_;cases hb:fv.ownBlock with
 |none=>exact Or.inl rfl
 |some j=>right;have:=(k.own.lt j hb).1;simp;omega
theorem mY.start(hset:wr.heap[S]? =some (.cells #[Im x.at',Im x.aj,.string x.base,Im x.of,Nl] 348))(hx:x.aH=[])(hS:w.heap.size<=S)(hg:w.grownBy wr (some P)):mY P w wr S (Nl) 0 x [] (S+1):=by
 refine⟨?_,?_,Or.inr ⟨hx,rfl⟩,Nat.le_refl _,dS hset,hS,hset,hg⟩
 .rw[hx];rfl
 .rw[hx];exact World.ownsRow_nil _ _ _ _
end
end
section
open Go.RowKit Hx
attribute [local go_sem ↓] Go.wp_at_zero Go.wp_at_succ
attribute [local go_sem] bT
section
variable {w w' w1 w2 w3 w4:World}{C lo hi b d m k:Nat}{c:Ck}{u v:Value}{e l r:Ex}{a:Int}{T:TypeId}{o:Obj}
structure rH(w:World)(C k:Nat)(o:Obj):Prop where
 at':w.heap[k]? =some o
 gt:C<k
 row:rowOf w C≠some k
theorem rH.lk(h:rH w C k o)(hl:Lk w w' lo hi C):rH w' C k o:=
 ⟨(hl.lK k h.gt (dS h.at') (fun e=>h.row e.symm)).trans h.at',h.gt,fun e=>by
   rcases hl.row k e with e2|e2
   .exact h.row e2
   .have:=dS h.at';omega⟩
theorem rH.new(hc:bU w C c)(o:Obj):rH (w.alloc o) C w.heap.size o:=by
 have hC:=hc.lt;refine⟨heap_alloc_new w o,hC,fun e=>?_⟩;rw[Qo (Below.heap_alloc w o C hC)]at e;obtain⟨v,h⟩:=hc;have hr:rowOf w C=v.ownBlock:=by unfold rowOf;rw[show w.cell? (Ad C 0)=some v from aA h.aW]
 rw[hr]at e;have:=(h.row.lt _ e).2;omega
theorem WM{a:Option Addr}{n n' cap cap' k:Nat}(h:(Value.slice a n cap).ownBlock=some k):(Value.slice a n' cap').ownBlock=some k:=by
 cases a with
 |none=>cases h
 |some ad=>exact h
theorem SY(c:Ck)(t:ByteArray)(ta:Int)(e:Dn)(ea one want:Int)(he:∀c,(e.look c).au=c.au):(c.bracket t ta e ea one want).au=c.au:=by
 unfold Ck.bracket Ck.cut;simp only[ql,he,Ck.add,FH];simp
theorem Tz(h:dQ d e)(hh:e.here e.at' w lo hi u)(hC:hi<=C)(hc:bU w C c)(hn:c.au.length+(d+1)<=900000)(t:ByteArray)(ta one want:Int):
 Calls prog 351 #[Pt C 0,.agg #[.string t,Im ta,u],Im one,Im want] w fun en w'=>en=.returned (.tuple #[])/\e.here e.at' w' lo hi u/\bU w' C (c.bracket t ta e.does e.at' one want)/\Lk w w' lo hi C:=by
 have uH:=hc.lt;obtain⟨T1,b1,rfl,hT1,l1,l2,_⟩:=h.ok.head _ _ _ _ _ hh;have g0:w.grownBy (w.alloc (.cells #[.string t,Im ta,.iface T1 (Pt b1 0)] 361)) none:=World.grownBy_alloc w _ none;have hbx0:rH (w.alloc (.cells #[.string t,Im ta,.iface T1 (Pt b1 0)] 361)) C w.heap.size (.cells #[.string t,Im ta,.iface T1 (Pt b1 0)] 361):=rH.new hc _;have HA:Hid (dQ d e/\hi<=C/\c.au.length+(d+1)<=900000):=⟨h,hC,hn⟩;have hN0:Calls prog 325 #[Pt C 0,.agg #[.string t,Im ta]] (w.alloc (.cells #[.string t,Im ta,.iface T1 (Pt b1 0)] 361)) fun en w'=>en=.returned (.tuple #[])/\bU w' C (c.eX t ta)/\Lk (w.alloc (.cells #[.string t,Im ta,.iface T1 (Pt b1 0)] 361)) w' 0 0 C:=NU (hc.grow g0) t ta (by omega);have HN:Hid (Calls prog 325 #[Pt C 0,.agg #[.string t,Im ta]] (w.alloc (.cells #[.string t,Im ta,.iface T1 (Pt b1 0)] 361)) fun en w'=>en=.returned (.tuple #[])/\bU w' C (c.eX t ta)/\rH w' C w.heap.size (.cells #[.string t,Im ta,.iface T1 (Pt b1 0)] 361)/\Lk w w' 0 0 C/\e.here e.at' w' lo hi (.iface T1 (Pt b1 0))):=hN0.mono fun en w' ⟨q1,q2,q3⟩=>by
  have hl:=(Lk.grown g0 uH).trans q3;exact⟨q1,q2,hbx0.lk q3,hl,(h.ok.law _).lk hh hl hC (Or.inr (Nat.zero_le _))⟩
 have n0:¬C=w.heap.size:=by omega
 clear hN0 hbx0 g0 hh hc hn hT1 h;go_enter func351,ntmps351;go_wp2_with fail;refine HN.out.mono ?_;rintro en w1 ⟨rfl,k1,bx1,Vz,hh1⟩;have KC:(c.eX t ta).au=c.au:=FH c t ta;have bP:Hid (bU w1 C (c.eX t ta)/\rH w1 C w.heap.size (.cells #[.string t,Im ta,.iface T1 (Pt b1 0)] 361)/\Lk w w1 0 0 C/\e.here e.at' w1 lo hi (.iface T1 (Pt b1 0))):=⟨k1,bx1,Vz,hh1⟩;obtain⟨v1,q1⟩:=bP.out.1;obtain⟨a1,cap1,rfl⟩:=fJ q1.row;rw[KC]at q1;have c0:w1.cell? (Ad C 0)=some (.slice a1 c.au.length cap1):=aA q1.aW;have x0:w1.cell? (Ad w.heap.size 0)=some (.string t):=aA bx1.at';have x1:w1.cell? (Ad w.heap.size 1)=some (Im ta):=aA bx1.at';have hA1:Calls prog 326 #[Pt C 0,.agg #[.string t,Im ta],Im one,.bool false] w1 fun en w'=>en=.returned (.tuple #[])/\bU w' C ((c.eX t ta).add t one false)/\Lk w1 w' 0 0 C:=NR bP.out.1 t ta one false (by rw[KC];have:=HA.out.2.2;omega);have BM:Hid (Calls prog 326 #[Pt C 0,.agg #[.string t,Im ta],Im one,.bool false] w1 fun en w'=>en=.returned (.tuple #[])/\bU w' C ((c.eX t ta).add t one false)/\Lk w1 w' 0 0 C):=hA1;have hcl:c.au.length<=900000:=by have:=HA.out.2.2;omega
 clear k1 bx1 Vz hh1 q1 hA1 HN;generalize hnl:c.au.length=nl at *;go_wp2_with fail;refine BM.out.mono ?_;rintro en w2 ⟨rfl,k2,KZ⟩;have NM:=bP.out.2.1.lk KZ;have hh2:e.here e.at' w2 lo hi (.iface T1 (Pt b1 0)):=(HA.out.1.ok.law _).lk bP.out.2.2.2 KZ HA.out.2.1 (Or.inr (Nat.zero_le _));have hn2:((c.eX t ta).add t one false).au.length+d<=900000:=by
  have:=HA.out.2.2;unfold Ck.add;rw[KC];simp only[List.length_append,List.length_cons,List.length_nil];omega
 obtain⟨f1,m1,dU,H1⟩:=HA.out.1.look _ _ _ _ _ _ C _ hh2 HA.out.2.1 k2 hn2;have dU:∀args w,(callFunc f1 args).run prog w=.ok (.enter f1 args) w:=dU;have H1:Hid (Calls prog f1 #[Pt b1 0,Pt C 0] w2 fun en w'=>en=.returned (.tuple #[])/\dW e e.at' w2 w' lo hi (.iface T1 (Pt b1 0)) b1 C ((c.eX t ta).add t one false)):=H1;have x2:w2.cell? (Ad w.heap.size 2)=some (.iface T1 (Pt b1 0)):=aA NM.at';have HP2:Hid (rH w2 C w.heap.size (.cells #[.string t,Im ta,.iface T1 (Pt b1 0)] 361)/\Lk w w2 0 0 C):=⟨NM,bP.out.2.2.1.trans KZ⟩;clear k2 KZ NM hh2 hn2 BM;go_wp2_with fail;refine H1.out.mono ?_;rintro en w3 ⟨rfl,L3⟩;have Tn:=HP2.out.1.lk L3.aN;have x3:w3.cell? (Ad w.heap.size 2)=some (.iface T1 (Pt b1 0)):=aA Tn.at';have HW:Hid (Calls prog 317 #[Pt C 0,.iface T1 (Pt b1 0),Im want] w3 fun en w4=>en=.returned (.tuple #[])/\bU w4 C ((e.does.look ((c.eX t ta).add t one false)).want (e.does.bY ((c.eX t ta).add t one false).au) e.at' want)/\Lk w3 w4 0 0 C):=L3.want HA.out.1.ok want 0;have pF:Hid (dW e e.at' w2 w3 lo hi (.iface T1 (Pt b1 0)) b1 C ((c.eX t ta).add t one false)):=L3;clear L3 Tn H1;go_wp2_with fail;refine HW.out.mono ?_;rintro en w4 ⟨rfl,k4,VA⟩;have OC:((e.does.look ((c.eX t ta).add t one false)).want (e.does.bY ((c.eX t ta).add t one false).au) e.at' want).au.length=nl+1:=by
  rw[ql,HA.out.1.au];unfold Ck.add;rw[KC];simp only[List.length_append,List.length_cons,List.length_nil];omega
 obtain⟨v4,q4⟩:=k4;obtain⟨a4,cap4,rfl⟩:=fJ q4.row;rw[OC]at q4;have y0:w4.cell? (Ad C 0)=some (.slice a4 (nl+1) cap4):=aA q4.aW;have fz:∀j,w4.frozen? (Ad C j)=false:=fun j=>eu q4.aW;have hcap:nl+1<=cap4:=by
  have:=q4.row;rw[OC]at this;rcases this with⟨_,⟨h2,h3⟩|⟨g,cap',cur,h2,_,_,h5,_⟩⟩
  .omega
  .cases h2;exact h5
 have hcut:=q4.cut (m:=nl) (by omega);have HE:Hid (e.here e.at' (w4.setCell (Ad C 0) (.slice a4 nl cap4)) lo hi (.iface T1 (Pt b1 0))/\bU (w4.setCell (Ad C 0) (.slice a4 nl cap4)) C (c.bracket t ta e.does e.at' one want)/\Lk w (w4.setCell (Ad C 0) (.slice a4 nl cap4)) lo hi C):=by
  have hl5:Lk w4 (w4.setCell (Ad C 0) (.slice a4 nl cap4)) 0 0 C:=Lk.named (v:=.slice a4 (nl+1) cap4) (World.grownBy.refl _ _) q4.lt y0 (fun k hk=>by have:=(q4.row.lt k hk).1;omega) (fun k hk=>Or.inl (WM hk));have Ut:=VA.trans hl5;refine⟨(HA.out.1.ok.law _).lk pF.out.here Ut HA.out.2.1 (Or.inr (Nat.zero_le _)),⟨.slice a4 nl cap4,?_⟩,(HP2.out.2.all _ _).trans (pF.out.aN.trans (Ut.all _ _))⟩;unfold Ck.bracket;rw[hnl];exact hcut
 clear q4 hcut VA OC;have i0:(0:Int)<=(nl:Int):=by omega
 have i1:(nl:Int)<=(cap4:Int):=by omega
 go_wp2_with fail;go_end0;exact⟨rfl,HE.out⟩
end
section
variable {w w' w1 w2 w3 w4:World}{C lo hi b d m k:Nat}{c:Ck}{u v:Value}{e l r:Ex}{a:Int}{T:TypeId}{o:Obj}{x:Sx}
theorem NK{g:Nat}:∀{bs:List (Wd×Ex)}{w:World}{lo hi i:Nat}{us:List Value}{b:Wd×Ex},(∀b∈bs,∀a,Lawful (b.2.here a))->oN g bs w lo hi us->bs[i]? =some b->
 ∃l m u,us[i]? =some u/\lo<=l/\l<=m/\m<=hi/\(g<l\/m<=g)/\b.2.here b.2.at' w l m u/\∀w',(∀k,lo<=k->k<hi->k<l\/m<=k->w'.heap[k]? =w.heap[k]?)->b.2.here b.2.at' w' l m u->oN g bs w' lo hi us
 |[],_,_,_,_,_,_,_,_,hb=>by simp at hb
 |b0::bs,w,lo,hi,0,us,b,hl,⟨l,m,u,us',h0,h1,h2,h3,h4,h5,h6⟩,hb=>by
  simp only[List.getElem?_cons_zero,Option.some.injEq]at hb;subst hb h0;refine⟨l,m,u,rfl,h1,h2,h3,h4,h5,fun w' hk hh=>⟨l,m,u,us',rfl,h1,h2,h3,h4,hh,?_⟩⟩;exact Em (fun c hc=>hl c (List.mem_cons_of_mem _ hc)) h6 (fun k k1 k2=>hk k (by omega) k2 (Or.inr k1))
 |b0::bs,w,lo,hi,i+1,us,b,hl,⟨l,m,u,us',h0,h1,h2,h3,h4,h5,h6⟩,hb=>by
  subst h0;obtain⟨l',m',u',q0,q1,q2,q3,q4,q5,q6⟩:=NK (i:=i) (fun c hc=>hl c (List.mem_cons_of_mem _ hc)) h6 (by simpa using hb);refine⟨l',m',u',by simpa using q0,by omega,q2,q3,q4,q5,fun w' hk hh=>⟨l,m,u,us',rfl,h1,h2,h3,h4,?_,q6 w' (fun k k1 k2 k3=>hk k (by omega) k2 k3) hh⟩⟩;exact(hl b0 (List.mem_cons_self ..) _).loc _ _ _ _ _ h5 (fun k k1 k2=>hk k (by omega) (by omega) (Or.inl (by omega)))
theorem NJ:∀(bs:List (Wd×Ex))(us:List Value)(i:Nat)(b:Wd×Ex)(u:Value),bs[i]? =some b->us[i]? =some u->(qx bs us)[i * 3]? =some (.string b.1.text)/\(qx bs us)[i * 3+1]? =some (Im b.1.at')/\(qx bs us)[i * 3+2]? =some u
 |[],_,i,b,u,h,_=>by simp at h
 |_::_,[],i,b,u,_,h=>by simp at h
 |b0::bs,u0::us,0,b,u,h,k=>by
  simp only[List.getElem?_cons_zero,Option.some.injEq]at h k;subst h k;exact⟨rfl,rfl,rfl⟩
 |b0::bs,u0::us,i+1,b,u,h,k=>by
  have ih:=NJ bs us i b u (by simpa using h) (by simpa using k);have e:∀j,(qx (b0::bs) (u0::us))[j+3]? =(qx bs us)[j]? :=fun j=>by simp[qx,JE]
  have e1:(i+1) * 3=i * 3+3:=by omega
  rw[e1];exact⟨(e _).trans ih.1,(e (i * 3+1)).trans ih.2.1,(e (i * 3+2)).trans ih.2.2⟩
theorem Ia(of:Int):∀(fs:List (Wd×Ex))(c:Ck),(∀b∈fs,∀c,(b.2.does.look c).au=c.au)->(kH of fs c).au=c.au
 |[],_,_=>rfl
 |b::fs,c,h=>by
  unfold kH;rw[List.foldl_cons];have:=Ia of fs (c.bracket b.1.text b.1.at' b.2.does b.2.at' of 2) (fun b' hb=>h b' (List.mem_cons_of_mem _ hb));unfold kH at this;rw[this,SY _ _ _ _ _ _ _ (h b (List.mem_cons_self ..))]
theorem aea(of:Int)(fs:List (Wd×Ex))(c:Ck)(i:Nat)(b:Wd×Ex)(h:fs[i]? =some b):kH of (fs.take (i+1)) c=(kH of (fs.take i) c).bracket b.1.text b.1.at' b.2.does b.2.at' of 2:=by
 have h1:fs.take (i+1)=fs.take i++[b]:=by rw[List.take_add_one,h];rfl
 rw[h1];unfold kH;rw[List.foldl_append]
 rfl
structure Js(x:Sx)(S g cap:Nat)(w wr:World)(lo hi m C:Nat)(us:List Value)(arr:Array Value)(c:Ck)(i:Nat):Prop where
 set:wr.heap[S]? =some (.cells #[Im x.at',Im x.aj,.string x.base,Im x.of,.slice (some (Ad g 0)) x.aH.length cap] 348)
 row:wr.heap[g]? =some (.cells arr 361)
 AX:oN g x.aH wr m hi us
 ck:bU wr C (kH x.of (x.aH.take i) c)
 aN:Lk w wr lo hi C
theorem NT(h:nO 100000 (dQ d) x)(hh:dF x w lo hi v)(hC:hi<=C)(hc:bU w C c)(hn:c.au.length+(d+1)<=900000):
 Calls prog 349 #[Pt C 0,v] w fun en w'=>en=.returned (.tuple #[])/\dF x w' lo hi v/\bU w' C (kH x.of x.aH c)/\Lk w w' lo hi C:=by
 obtain⟨S,fv,rfl,h1,h2,hS,hrow⟩:=hh;rcases hrow with⟨hf,rfl⟩|⟨g,cap,m,us,arr,rfl,g1,g2,m1,m2,hbr,hg,harr⟩
 .have c4:w.cell? (Ad S 4)=some (Nl):=aA hS;have HE:Hid (dF x w lo hi (Pt S 0)/\bU w C (kH x.of x.aH c)/\Lk w w lo hi C):=⟨⟨S,_,rfl,h1,h2,hS,Or.inl ⟨hf,rfl⟩⟩,by rw[hf];exact hc,Lk.refl _ _ _ _⟩;clear hS hc;go_enter func349,ntmps349;go_wp2_with fail;refine wp_loop_rounds 1 ?_;rw[rounds_succ];go_wp2_with fail;go_end0;exact⟨rfl,HE.out⟩
 .have c4:w.cell? (Ad S 4)=some (.slice (some (Ad g 0)) x.aH.length cap):=aA hS;have HA:Hid (nO 100000 (dQ d) x/\c.au.length+(d+1)<=900000/\(∀(j:Nat)(v:Value),(qx x.aH us)[j]? =some v->arr[j]? =some v)/\hi<=C/\lo<=S/\S<hi/\S<g/\g<hi/\lo<=m/\S<m):=⟨h,hn,harr,hC,h1,h2,g1,g2,m1,m2⟩;have HO:Hid (Js x S g cap w w lo hi m C us arr c 0):=⟨hS,hg,hbr,hc,Lk.refl _ _ _ _⟩;have hln:=h.len;clear hS hc hbr hg harr h hn;go_enter func349,ntmps349;go_wp2_with fail;go_loopg [11] (x.aH.length+1) (fun gg i wr=>Hid (∃k:Nat,k+gg=x.aH.length+1/\k<=x.aH.length/\i=Im k/\Js x S g cap w wr lo hi m C us arr c k))
  case atStart=>exact⟨0,by omega,Nat.zero_le _,rfl,HO.out⟩
  case round=>
   obtain⟨k,hk1,hk2,rfl,hI⟩:=hrel.out;clear hrel HO;by_cases hlt:k<x.aH.length
   .have d1:decide ((k:Int)<(x.aH.length:Int))=true:=by simp;omega
    have i0:(0:Int)<=(k:Int):=by omega
    have i1:(k:Int)<(x.aH.length:Int):=by omega
    have hget:x.aH[k]? =some x.aH[k]:=by simp
    have hQ:=HA.out.1.all x.aH[k] (List.getElem_mem hlt);obtain⟨q1,q2,q3,q4,q5,q6,q7,q8,q9⟩:=HA.out.2;obtain⟨l',m',u',e0,e1,e2,e3,e4,e5,e6⟩:=NK (fun b hb a=>(HA.out.1.all b hb).ok.law a) hI.AX hget;obtain⟨z0,z1,z2⟩:=NJ _ us k _ u' hget e0;obtain⟨T1,b1,hu',_⟩:=hQ.ok.head _ _ _ _ _ e5;have k0:wr.cell? (Ad g (k * 3))=some (.string x.aH[k].1.text):=(aA hI.row).trans (q2 _ _ z0);have k1:wr.cell? (Ad g (k * 3+1))=some (Im x.aH[k].1.at'):=(aA hI.row).trans (q2 _ _ z1);have k2:wr.cell? (Ad g (k * 3+2))=some u':=(aA hI.row).trans (q2 _ _ z2);have c3:wr.cell? (Ad S 3)=some (Im x.of):=aA hI.set;have hSl:=dS hI.set;have nS:¬S=wr.heap.size:=by omega
    have uH:=hI.ck.lt;have hLn:(kH x.of (x.aH.take k) c).au=c.au:=Ia _ _ _ (fun b hb=>(HA.out.1.all b (List.mem_of_mem_take hb)).au);have BN:Hid (∀y,wr.grownBy y none->Calls prog 351 #[Pt C 0,.agg #[.string x.aH[k].1.text,Im x.aH[k].1.at',u'],Im x.of,Im 2] y fun en w'=>en=.returned (.tuple #[])/\Js x S g cap w w' lo hi m C us arr c (k+1)):=fun y hy=>by
     have G9:=Lk.grown hy uH;refine(Tz hQ ((hQ.ok.law _).lk e5 G9 (by omega) (Or.inr (Nat.zero_le _))) (by omega) (hI.ck.grow hy) (by rw[hLn];exact q1) _ _ x.of 2).mono ?_;rintro en w' ⟨r1,r2,r3,r4⟩;have hl2:Lk wr w' l' m' C:=(G9.all _ _).trans r4;refine⟨r1,(hl2.aN S (by omega) (Or.inl (by omega))).trans hI.set,(hl2.aN g (by omega) (by omega)).trans hI.row,e6 w' (fun j j1 j2 j3=>hl2.aN j (by omega) j3) r2,?_,hI.aN.trans (hl2.wide (by omega) (by omega))⟩;rw[aea _ _ _ _ _ hget];exact r3
    obtain⟨g',hg'⟩:∃g',gk=g'+1:=⟨gk-1,by omega⟩;subst hu';clear hget hQ q1 q2 q3 q4 q5 q6 q7 q8 q9 e0 e1 e2 e3 e4 e5 e6 z0 z1 z2 hI hLn;generalize x.aH[k].1.text=ft at *;generalize x.aH[k].1.at'=fa at *;go_wp2_with fail;refine fC 6 (by kernel_rfl) (by kernel_rfl) ?_;simp only[List.take_succ_cons,List.take_zero,List.drop_succ_cons,List.drop_zero];repeat (go_big_quiet_step (fail))
    refine wpQuiet_nil ?_;intro _ hw';obtain⟨n3,hw''⟩:=hw';subst hw'';go_wp2_with fail;refine(BN.out _ ((World.grownBy_alloc wr _ none).trans (dh _ _))).mono ?_;rintro en w2 ⟨rfl,hI2⟩;have HI2:Hid (Js x S g cap w w2 lo hi m C us arr c (k+1)):=hI2;clear hI2 BN;go_wp2_with fail;go_roundg g'
    case measure=>omega
    case rel=>exact⟨k+1,by omega,by omega,by go_num,HI2.out⟩
   .have d1:decide ((k:Int)<(x.aH.length:Int))=false:=by simp;omega
    have HE:Hid (dF x wr lo hi (Pt S 0)/\bU wr C (kH x.of x.aH c)/\Lk w wr lo hi C):=by
     obtain⟨q1,q2,q3,q4,q5,q6,q7,q8,q9⟩:=HA.out.2;have hck:=hI.ck;rw[List.take_of_length_le (by omega)]at hck;exact⟨⟨S,_,rfl,q4,q5,hI.set,Or.inr ⟨g,cap,m,us,arr,rfl,q6,q7,q8,q9,hI.AX,hI.row,q2⟩⟩,hck,hI.aN⟩
    clear hI;go_wp2_with fail;go_end0;exact⟨rfl,HE.out⟩
end
end
end Go.Proofs.YthllhabjfchgiaaGreatDoor
