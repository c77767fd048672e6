import Derived.Test.YthllhabjfchgiaaGreatDoorHz37
set_option maxRecDepth 100000
set_option maxHeartbeats 8000000
namespace Go.Proofs.YthllhabjfchgiaaGreatDoor
open _root_.Go.Proofs.Tryz
section
open Go.RowKit Hx
attribute [local go_sem ↓] Go.wp_at_zero Go.wp_at_succ
attribute [local go_sem] bT
section
variable {w w' w1 w2 w3 w4:World}{C lo hi b d m k:Nat}{c:Ck}{u v:Value}{e f:Ex}{a:Int}{T:TypeId}{x:Sx}
theorem ahT(h:dQ k e)(hk:k<=10000 * d)(t:Wd):uy d (tZ t e):=by
 obtain⟨tt,ta⟩:=t;refine⟨XT _ h.ok,fun c=>Fz ?_,?_⟩
 .show((e.does.look (if (fV c.au tt).isVar then c else c.fail 2 ta)).want (e.does.bY (if (fV c.au tt).isVar then c else c.fail 2 ta).au) e.at' (fV c.au tt).kind).au=c.au;rw[ql,h.au];split
  .rfl
  .exact Ey _ _ _
 rintro w lo hi T b C c ⟨b',us,hv,h1,h2,⟨u,rfl,hu⟩,hb⟩ hC hc hn;cases hv;have uH:=hc.lt;obtain⟨T1,b1,rfl,hT1,_⟩:=h.ok.head _ _ _ _ _ hu;have c2:w.cell? (Ad b 2)=some (.string tt):=aA hb;have HF:Hid (Calls prog 315 #[Pt C 0,.string tt] w fun en w'=>en=.returned (.agg #[.string (fV c.au tt).name,Im (fV c.au tt).kind,.bool (fV c.au tt).isVar])/\w.grownBy w' none):=NS hc tt (by omega);have HC:Hid (dQ k e/\hi<=C/\c.au.length+k<=899999/\e.here e.at' w lo b (.iface T1 (Pt b1 0))):=⟨h,hC,by omega,hu⟩;have HB:Hid (w.heap[b]? =some (.cells (Im ta::Im (bD [e.aj])::[.string tt,Im ta,.iface T1 (Pt b1 0)]).toArray 326)):=hb;have DZ:Hid (∀w',w.grownBy w' none->∀o,bU (w'.alloc o) C c/\rH (w'.alloc o) C w'.heap.size o/\Lk w (w'.alloc o) 0 0 C):=fun w' hg o=>⟨hc.grow (hg.trans (World.grownBy_alloc w' o none)),rH.new (hc.grow hg) o,Lk.grown (hg.trans (World.grownBy_alloc w' o none)) uH⟩;refine⟨311,fun w=>by kernel_rfl,fun args w=>by kernel_rfl,?_⟩;have HR:Hid (∀w0 w1 w2 c1,c1=(if (fV c.au tt).isVar then c else c.fail 2 ta)->Lk w w0 0 0 C->dW e e.at' w0 w1 lo b (.iface T1 (Pt b1 0)) b1 C c1->Lk w1 w2 0 0 C->bU w2 C ((e.does.look c1).want (e.does.bY c1.au) e.at' (fV c.au tt).kind)->(tZ ⟨tt,ta⟩ e).here w2 lo hi (.iface 321 (Pt b 0))/\bU w2 C ((tZ ⟨tt,ta⟩ e).does.look c)/\Lk w w2 lo hi C):=fun w0 w1 w2 c1 hc1 q0 q1 q2 q3=>by
  subst hc1;exact O7 HC.out.1.ok h1 h2 HC.out.2.1 HB.out q0 q1 q2 q3
 have hbC:b<C:=by omega
 clear hu hb hc hn hC h hT1;generalize fV c.au tt=r at *;obtain⟨rt,rk,rv⟩:=r;simp only at HF HR;have hnf:(c.fail 2 ta).au=c.au:=Ey _ _ _;have Y5:Hid ((c.fail 2 ta).au=c.au):=hnf;clear hnf;cases rv with
 |true=>
  simp only[if_true]at HR;go_enter func311,ntmps311;go_wp2_with fail;refine HF.out.mono ?_;rintro en w0 ⟨rfl,g0⟩;have hX:=DZ.out w0 g0 (.cells #[.string rt,Im rk,.bool true] 446);have xu:=(g0.block b (by omega) (by simp)).trans HB.out;have d3:w0.cell? (Ad b 3)=some (Im ta):=aA xu;have d4:w0.cell? (Ad b 4)=some (.iface T1 (Pt b1 0)):=aA xu;have n0:¬b=w0.heap.size:=by have:=dS xu;omega
  have n1:b<w0.heap.size:=dS xu;generalize hW:w0.alloc (.cells #[.string rt,Im rk,.bool true] 446)=W at *;have HX:Hid (bU W C c/\rH W C w0.heap.size (.cells #[.string rt,Im rk,.bool true] 446)/\Lk w W 0 0 C):=hX;have hb0:=(hX.2.2.aN b hbC (Or.inr (Nat.zero_le _))).trans HB.out;have Np:Hid (w0.alloc (.cells #[.string rt,Im rk,.bool true] 446)=W):=hW;have hh0:=(HC.out.1.ok.law _).lk HC.out.2.2.2 hX.2.2 (by omega) (Or.inr (Nat.zero_le _));obtain⟨f1,m1,dU,H1⟩:=HC.out.1.look _ _ _ _ _ _ C _ hh0 (by omega) hX.1 (by have:=HC.out.2.2.1;omega);have dU:∀args w,(callFunc f1 args).run prog w=.ok (.enter f1 args) w:=dU;have H1:Hid (Calls prog f1 #[Pt b1 0,Pt C 0] W fun en w'=>en=.returned (.tuple #[])/\dW e e.at' W w' lo b (.iface T1 (Pt b1 0)) b1 C (c)):=H1;have HB0:Hid (W.heap[b]? =some (.cells (Im ta::Im (bD [e.aj])::[.string tt,Im ta,.iface T1 (Pt b1 0)]).toArray 326)):=hb0;clear hX hb0 hh0 hW g0 xu;go_wp2_with fail;rw[Np.out];refine H1.out.mono ?_;rintro en w1 ⟨rfl,hl⟩;have bx1:=HX.out.2.1.lk hl.aN;have hb1:=(hl.aN.aN b hbC (Or.inr (Nat.le_refl _))).trans HB0.out;have e4:w1.cell? (Ad b 4)=some (.iface T1 (Pt b1 0)):=aA hb1;have x1:w1.cell? (Ad w0.heap.size 1)=some (Im rk):=aA bx1.at';have Nq:Hid (∀n,Calls prog 317 #[Pt C 0,.iface T1 (Pt b1 0),Im rk] (w1.drewN n) fun en w2=>en=.returned (.tuple #[])/\bU w2 C ((e.does.look (c)).want (e.does.bY (c).au) e.at' rk)/\Lk w1 w2 0 0 C):=fun n=>hl.want HC.out.1.ok rk n;have HL:Hid (dW e e.at' W w1 lo b (.iface T1 (Pt b1 0)) b1 C (c)):=hl
  clear hl bx1 hb1 H1;go_wp2_with fail;refine fC 7 (by kernel_rfl) (by kernel_rfl) ?_;simp only[List.take_succ_cons,List.take_zero,List.drop_succ_cons,List.drop_zero];repeat (go_big_quiet_step (fail))
  refine wpQuiet_nil ?_;intro _ hw';obtain⟨n3,hw''⟩:=hw';subst hw'';go_wp2_with fail;refine(Nq.out _).mono ?_;rintro en w2 ⟨rfl,p1,p2⟩;have HE:Hid ((tZ ⟨tt,ta⟩ e).here w2 lo hi (.iface 321 (Pt b 0))/\bU w2 C ((tZ ⟨tt,ta⟩ e).does.look c)/\Lk w w2 lo hi C):=HR.out _ _ _ _ rfl HX.out.2.2 HL.out p2 p1;clear p1 p2;go_wp2_with fail;go_end0;exact⟨rfl,HE.out⟩
 |false=>
  simp only[Bool.false_eq_true,if_false]at HR;go_enter func311,ntmps311;go_wp2_with fail;refine HF.out.mono ?_;rintro en w0 ⟨rfl,g0⟩;have hX:=DZ.out w0 g0 (.cells #[.string rt,Im rk,.bool false] 446);have xu:=(g0.block b (by omega) (by simp)).trans HB.out;have d3:w0.cell? (Ad b 3)=some (Im ta):=aA xu;have d4:w0.cell? (Ad b 4)=some (.iface T1 (Pt b1 0)):=aA xu;have n0:¬b=w0.heap.size:=by have:=dS xu;omega
  have n1:b<w0.heap.size:=dS xu;generalize hW:w0.alloc (.cells #[.string rt,Im rk,.bool false] 446)=W at *;have HX:Hid (bU W C c/\rH W C w0.heap.size (.cells #[.string rt,Im rk,.bool false] 446)/\Lk w W 0 0 C):=hX;have hb0:=(hX.2.2.aN b hbC (Or.inr (Nat.zero_le _))).trans HB.out;have Np:Hid (w0.alloc (.cells #[.string rt,Im rk,.bool false] 446)=W):=hW;have Rj:Hid (Calls prog 316 #[Pt C 0,Im 2,Im ta] W fun en w'=>en=.returned (.tuple #[])/\bU w' C (c.fail 2 ta)/\Lk W w' 0 0 C):=Gu hX.1 2 ta;have HB0:Hid (W.heap[b]? =some (.cells (Im ta::Im (bD [e.aj])::[.string tt,Im ta,.iface T1 (Pt b1 0)]).toArray 326)):=hb0;clear hX hb0 hW g0 xu;go_wp2_with fail;rw[Np.out];refine Rj.out.mono ?_;rintro en w5 ⟨rfl,p3,p4⟩;have hX:=HX.out;have Tq:=hX.2.1.lk p4;have hb5:=(p4.aN b hbC (Or.inr (Nat.zero_le _))).trans HB0.out;have f4:w5.cell? (Ad b 4)=some (.iface T1 (Pt b1 0)):=aA hb5;have RS:Hid (rH w5 C w0.heap.size (.cells #[.string rt,Im rk,.bool false] 446)/\Lk w w5 0 0 C):=⟨Tq,hX.2.2.trans p4⟩;have YR:Hid (w5.heap[b]? =some (.cells (Im ta::Im (bD [e.aj])::[.string tt,Im ta,.iface T1 (Pt b1 0)]).toArray 326)):=hb5;have hh0:=(HC.out.1.ok.law _).lk HC.out.2.2.2 (hX.2.2.trans p4) (by omega) (Or.inr (Nat.zero_le _));obtain⟨f1,m1,dU,H1⟩:=HC.out.1.look _ _ _ _ _ _ C _ hh0 (by omega) p3 (by rw[Y5.out];have:=HC.out.2.2.1;omega);have dU:∀args w,(callFunc f1 args).run prog w=.ok (.enter f1 args) w:=dU
  have H1:Hid (Calls prog f1 #[Pt b1 0,Pt C 0] w5 fun en w'=>en=.returned (.tuple #[])/\dW e e.at' w5 w' lo b (.iface T1 (Pt b1 0)) b1 C (c.fail 2 ta)):=H1;clear hX hh0 p3 p4 Tq hb5 Rj;go_wp2_with fail;refine H1.out.mono ?_;rintro en w1 ⟨rfl,hl⟩;have bx1:=RS.out.1.lk hl.aN;have hb1:=(hl.aN.aN b hbC (Or.inr (Nat.le_refl _))).trans YR.out;have e4:w1.cell? (Ad b 4)=some (.iface T1 (Pt b1 0)):=aA hb1;have x1:w1.cell? (Ad w0.heap.size 1)=some (Im rk):=aA bx1.at';have Nq:Hid (∀n,Calls prog 317 #[Pt C 0,.iface T1 (Pt b1 0),Im rk] (w1.drewN n) fun en w2=>en=.returned (.tuple #[])/\bU w2 C ((e.does.look (c.fail 2 ta)).want (e.does.bY (c.fail 2 ta).au) e.at' rk)/\Lk w1 w2 0 0 C):=fun n=>hl.want HC.out.1.ok rk n;have HL:Hid (dW e e.at' w5 w1 lo b (.iface T1 (Pt b1 0)) b1 C (c.fail 2 ta)):=hl;clear hl bx1 hb1 H1;go_wp2_with fail;refine fC 7 (by kernel_rfl) (by kernel_rfl) ?_;simp only[List.take_succ_cons,List.take_zero,List.drop_succ_cons,List.drop_zero];repeat (go_big_quiet_step (fail))
  refine wpQuiet_nil ?_;intro _ hw';obtain⟨n3,hw''⟩:=hw';subst hw'';go_wp2_with fail;refine(Nq.out _).mono ?_;rintro en w2 ⟨rfl,p1,p2⟩;have HE:Hid ((tZ ⟨tt,ta⟩ e).here w2 lo hi (.iface 321 (Pt b 0))/\bU w2 C ((tZ ⟨tt,ta⟩ e).does.look c)/\Lk w w2 lo hi C):=HR.out _ _ _ _ rfl RS.out.2 HL.out p2 p1;clear p1 p2;go_wp2_with fail;go_end0;exact⟨rfl,HE.out⟩
theorem af7(hl:dQ k e)(hr:dQ k f)(hk:k<=10000 * d)(a:Int):uy d (yR a e f):=by
 refine⟨Xc a hl.ok hr.ok,fun c=>Fz ?_,?_⟩
 .show((f.does.look ((e.does.look c).want (e.does.bY c.au) e.at' 3)).want (f.does.bY ((e.does.look c).want (e.does.bY c.au) e.at' 3).au) f.at' 4).au=c.au;rw[ql,hr.au,ql,hl.au]
 rintro w lo hi T b C c ⟨b',us,hv,h1,h2,⟨m,u,v,rfl,hm1,hm2,hu,hv2⟩,hb⟩ hC hc hn;cases hv;obtain⟨T1,b1,f1,rfl,hT1,l1,l2,m1,dU,H1⟩:=hl.use (C:=C) (c:=c) hu (by omega) hc (by omega);have dU:∀args w,(callFunc f1 args).run prog w=.ok (.enter f1 args) w:=dU;have H1:Hid (Calls prog f1 #[Pt b1 0,Pt C 0] w fun en w'=>en=.returned (.tuple #[])/\dW e e.at' w w' lo m (.iface T1 (Pt b1 0)) b1 C c):=H1;obtain⟨T2,b2,rfl,hT2,_⟩:=hr.ok.head _ _ _ _ _ hv2;have c2:w.cell? (Ad b 2)=some (.iface T1 (Pt b1 0)):=aA hb;have HB:Hid (w.heap[b]? =some (.cells (Im a::Im (bD [e.aj,f.aj])::[.iface T1 (Pt b1 0),.iface T2 (Pt b2 0)]).toArray 335)):=hb;have HC:Hid (dQ k e/\dQ k f/\hi<=C/\c.au.length+k<=900000/\f.here f.at' w m b (.iface T2 (Pt b2 0))):=⟨hl,hr,hC,by omega,hv2⟩;refine⟨329,fun w=>by kernel_rfl,fun args w=>by kernel_rfl,?_⟩;clear hu hb hc hn hv2 hl hr;go_enter func329,ntmps329;go_wp2_with fail;refine H1.out.mono ?_;rintro en w1 ⟨rfl,L1⟩;have hb1:=(L1.aN.aN b (by omega) (Or.inr hm2)).trans HB.out;have e2:w1.cell? (Ad b 2)=some (.iface T1 (Pt b1 0)):=aA hb1;have HW:Hid (Calls prog 317 #[Pt C 0,.iface T1 (Pt b1 0),Im 3] w1 fun en w2=>en=.returned (.tuple #[])/\bU w2 C ((e.does.look c).want (e.does.bY c.au) e.at' 3)/\Lk w1 w2 0 0 C):=L1.want HC.out.1.ok 3 0;have HL:Hid (dW e e.at' w w1 lo m (.iface T1 (Pt b1 0)) b1 C c/\w1.heap[b]? =some (.cells (Im a::Im (bD [e.aj,f.aj])::[.iface T1 (Pt b1 0),.iface T2 (Pt b2 0)]).toArray 335)):=⟨L1,hb1⟩;clear L1 hb1 H1;go_wp2_with fail;refine HW.out.mono ?_
 rintro en w2 ⟨rfl,p1,p2⟩;have hb2:=(p2.aN b (by omega) (Or.inr (Nat.zero_le _))).trans HL.out.2;have e3:w2.cell? (Ad b 3)=some (.iface T2 (Pt b2 0)):=aA hb2;have hr2:f.here f.at' w2 m b (.iface T2 (Pt b2 0)):=(HC.out.2.1.ok.law _).lk ((HC.out.2.1.ok.law _).lk HC.out.2.2.2.2 HL.out.1.aN (by omega) (Or.inr (Nat.le_refl _))) p2 (by omega) (Or.inr (Nat.zero_le _));have hnm:((e.does.look c).want (e.does.bY c.au) e.at' 3).au=c.au:=by rw[ql,HC.out.1.au]
 obtain⟨f2,m2,qN,H2⟩:=HC.out.2.1.look _ _ _ _ _ _ C _ hr2 (by omega) p1 (by rw[hnm];exact HC.out.2.2.2.1);have qN:∀args w,(callFunc f2 args).run prog w=.ok (.enter f2 args) w:=qN;have H2:Hid (Calls prog f2 #[Pt b2 0,Pt C 0] w2 fun en w'=>en=.returned (.tuple #[])/\dW f f.at' w2 w' m b (.iface T2 (Pt b2 0)) b2 C ((e.does.look c).want (e.does.bY c.au) e.at' 3)):=H2;have dO:Hid (Lk w1 w2 0 0 C/\w2.heap[b]? =some (.cells (Im a::Im (bD [e.aj,f.aj])::[.iface T1 (Pt b1 0),.iface T2 (Pt b2 0)]).toArray 335)):=⟨p2,hb2⟩;clear p1 p2 hb2 hr2 hnm HW;go_wp2_with fail;refine H2.out.mono ?_;rintro en w3 ⟨rfl,L2⟩;have hb3:=(L2.aN.aN b (by omega) (Or.inr (Nat.le_refl _))).trans dO.out.2;have e5:w3.cell? (Ad b 3)=some (.iface T2 (Pt b2 0)):=aA hb3;have HW:Hid (Calls prog 317 #[Pt C 0,.iface T2 (Pt b2 0),Im 4] w3 fun en w4=>en=.returned (.tuple #[])/\bU w4 C ((yR a e f).does.look c)/\Lk w3 w4 0 0 C):=L2.want HC.out.2.1.ok 4 0;have HL2:Hid (dW f f.at' w2 w3 m b (.iface T2 (Pt b2 0)) b2 C ((e.does.look c).want (e.does.bY c.au) e.at' 3)):=L2;clear L2 hb3 H2;go_wp2_with fail;refine HW.out.mono ?_;rintro en w4 ⟨rfl,p1,p2⟩;have HE:Hid ((yR a e f).here w4 lo hi (.iface 333 (Pt b 0))/\bU w4 C ((yR a e f).does.look c)/\Lk w w4 lo hi C):=by
  have kk:Lk w w4 lo b C:=((HL.out.1.aN.wide (Nat.le_refl _) hm2).trans (dO.out.1.all _ _)).trans ((HL2.out.aN.wide hm1 (Nat.le_refl _)).trans (p2.all _ _));have hb2:=(kk.aN b (by omega) (Or.inr (Nat.le_refl _))).trans HB.out;have q1:=(HC.out.1.ok.law _).lk HL.out.1.here dO.out.1 (by omega) (Or.inr (Nat.zero_le _));have q2:=(HC.out.1.ok.law _).lk q1 HL2.out.aN (by omega) (Or.inl (Nat.le_refl _));have q3:=(HC.out.1.ok.law _).lk q2 p2 (by omega) (Or.inr (Nat.zero_le _));have q4:=(HC.out.2.1.ok.law _).lk HL2.out.here p2 (by omega) (Or.inr (Nat.zero_le _));exact⟨⟨b,_,rfl,h1,h2,⟨m,_,_,rfl,hm1,hm2,q3,q4⟩,hb2⟩,p1,kk.wide (Nat.le_refl _) (by omega)⟩
 clear p1 p2;go_wp2_with fail;go_end0;exact⟨rfl,HE.out⟩
end
section
variable {w w' w1 w2 w3 w4:World}{C lo hi b d m k:Nat}{c:Ck}{u v:Value}{e f:Ex}{a:Int}{T:TypeId}{x:Sx}{l:List bI}
theorem Qy{g:Nat}:∀{bs:List bI}{w:World}{lo hi i:Nat}{us:List Value}{b:bI},(∀b∈bs,Lawful b.here)->nJ g bs w lo hi us->bs[i]? =some b->
 ∃l m u,us[i]? =some u/\lo<=l/\l<=m/\m<=hi/\(g<l\/m<=g)/\b.here w l m u/\∀w',(∀k,lo<=k->k<hi->k<l\/m<=k->w'.heap[k]? =w.heap[k]?)->b.here w' l m u->nJ g bs w' lo hi us
 |[],_,_,_,_,_,_,_,_,hb=>by simp at hb
 |b0::bs,w,lo,hi,0,us,b,hl,⟨l,m,u,us',h0,h1,h2,h3,h4,h5,h6⟩,hb=>by
  simp only[List.getElem?_cons_zero,Option.some.injEq]at hb;subst hb h0;refine⟨l,m,u,rfl,h1,h2,h3,h4,h5,fun w' hk hh=>⟨l,m,u,us',rfl,h1,h2,h3,h4,hh,?_⟩⟩;exact MG (fun c hc=>hl c (List.mem_cons_of_mem _ hc)) h6 (fun k k1 k2=>hk k (by omega) k2 (Or.inr k1))
 |b0::bs,w,lo,hi,i+1,us,b,hl,⟨l,m,u,us',h0,h1,h2,h3,h4,h5,h6⟩,hb=>by
  subst h0;obtain⟨l',m',u',q0,q1,q2,q3,q4,q5,q6⟩:=Qy (i:=i) (fun c hc=>hl c (List.mem_cons_of_mem _ hc)) h6 (by simpa using hb);refine⟨l',m',u',by simpa using q0,by omega,q2,q3,q4,q5,fun w' hk hh=>⟨l,m,u,us',rfl,h1,h2,h3,h4,?_,q6 w' (fun k k1 k2 k3=>hk k (by omega) k2 k3) hh⟩⟩;exact(hl b0 (List.mem_cons_self ..)).loc _ _ _ _ _ h5 (fun k k1 k2=>hk k (by omega) (by omega) (Or.inl (by omega)))
def xB(l:List bI)(c:Ck):Ck:=l.foldl (fun c s=>s.does.look c) c
theorem ad7(l:List bI)(c:Ck)(i:Nat)(s:bI)(h:l[i]? =some s):xB (l.take (i+1)) c=s.does.look (xB (l.take i) c):=by
 have h1:l.take (i+1)=l.take i++[s]:=by rw[List.take_add_one,h];rfl
 rw[h1];unfold xB;rw[List.foldl_append]
 rfl
theorem Pq:∀(l:List bI)(c:Ck),(∀s∈l,uy d s)->∃more,(xB l c).au=c.au++more/\more.length<=l.length
 |[],c,_=>⟨[],by simp[xB],Nat.le_refl _⟩
 |s::l,c,h=>by
  obtain⟨m1,e1,n1⟩:=(h s (List.mem_cons_self ..)).au c;obtain⟨m2,e2,n2⟩:=Pq l (s.does.look c) (fun s' hs=>h s' (List.mem_cons_of_mem _ hs));refine⟨m1++m2,?_,by simp only[List.length_append,List.length_cons];omega⟩;show(xB l (s.does.look c)).au=_;rw[e2,e1,List.append_assoc]
structure rO(d:Nat)(l:List bI):Prop where
 ok:∀s∈l,fQ s
 au:∀c,(lS l c).au=c.au
 look:∀w lo hi v C c,dX l w lo hi v->hi<=C->bU w C c->c.au.length+10000 * d<=800000->Calls prog 89 #[Pt C 0,v] w fun en w'=>en=.returned (.tuple #[])/\dX l w' lo hi v/\bU w' C (lS l c)/\Lk w w' lo hi C
structure Ja(l:List bI)(g:Nat)(w wr:World)(lo hi C:Nat)(us:List Value)(arr:Array Value)(c:Ck)(i:Nat):Prop where
 row:wr.heap[g]? =some (.cells arr 192)
 nI:nJ g l wr lo hi us
 ck:bU wr C (xB (l.take i) c)
 aN:Lk w wr lo hi C
theorem bU.back{n:Nat}(h:bU w C c)(hn:n<=c.au.length):∃a cap,w.cell? (Ad C 0)=some (.slice a c.au.length cap)/\(∀j,w.frozen? (Ad C j)=false)/\n<=cap/\bU (w.setCell (Ad C 0) (.slice a n cap)) C (c.cut n)/\Lk w (w.setCell (Ad C 0) (.slice a n cap)) 0 0 C:=by
 obtain⟨v,q⟩:=h;obtain⟨a,cap,rfl⟩:=fJ q.row;have hc0:w.cell? (Ad C 0)=some (.slice a c.au.length cap):=aA q.aW;refine⟨a,cap,hc0,fun j=>eu q.aW,?_,⟨_,q.cut hn⟩,?_⟩
 .rcases q.row with⟨_,⟨h2,h3⟩|⟨g,cap',cur,h2,_,_,h5,_⟩⟩
  .omega
  .cases h2;omega
 .exact Lk.named (v:=.slice a c.au.length cap) (World.grownBy.refl _ _) q.lt hc0 (fun k hk=>by have:=(q.row.lt k hk).1;omega) (fun k hk=>Or.inl (WM hk))
theorem ad8(h:∀s∈l,uy d s)(c:Ck):(lS l c).au=c.au:=by
 obtain⟨more,e,_⟩:=Pq l c h;show((xB l c).cut c.au.length).au=c.au;unfold Ck.cut;rw[e];simp
theorem Vx(h:∀s∈l,uy d s)(hln:l.length<=5000):rO d l:=by
 refine⟨fun s hs=>(h s hs).ok,ad8 h,?_⟩;intro w lo hi v C c hh hC hc hn;rcases hh with⟨rfl,rfl⟩|⟨g,cap,us,arr,rfl,g1,g2,hst,hg,harr⟩
 .obtain⟨a0,cap0,b1,b2,b3,b4,b5⟩:=hc.back (Nat.le_refl _);have HE:Hid (dX [] (w.setCell (Ad C 0) (.slice a0 c.au.length cap0)) lo hi (Nl)/\bU (w.setCell (Ad C 0) (.slice a0 c.au.length cap0)) C (lS [] c)/\Lk w (w.setCell (Ad C 0) (.slice a0 c.au.length cap0)) lo hi C):=⟨Or.inl ⟨rfl,rfl⟩,b4,b5.all _ _⟩;have i0:(0:Int)<=(c.au.length:Int):=by omega
  have i1:(c.au.length:Int)<=(cap0:Int):=by omega
  clear hc b4 b5 hn;generalize c.au.length=nl at *;go_enter func89,ntmps89;go_wp2_with fail;refine wp_loop_rounds 1 ?_;rw[rounds_succ];go_wp2_with fail;go_end0;exact⟨rfl,HE.out⟩
 .obtain⟨a0,cap0,b1,b2,b3,b4,b5⟩:=hc.back (Nat.le_refl _);have HA:Hid ((∀s∈l,uy d s)/\c.au.length+10000 * d<=800000/\(∀(j:Nat)(v:Value),us[j]? =some v->arr[j]? =some v)/\hi<=C/\lo<=g/\g<hi):=⟨h,hn,harr,hC,g1,g2⟩;have HO:Hid (Ja l g w w lo hi C us arr c 0):=⟨hg,hst,hc,Lk.refl _ _ _ _⟩;clear hst hg harr h hn hc b2 b3 b4 b5;obtain⟨nl,hnl⟩:∃nl,c.au.length=nl:=⟨_,rfl⟩;have qZ:Hid (c.au.length=nl):=hnl;rw[hnl]at b1;clear hnl;go_enter func89,ntmps89;go_wp2_with fail;go_loopg [14] (l.length+1) (fun gg i wr=>Hid (∃k:Nat,k+gg=l.length+1/\k<=l.length/\i=Im k/\Ja l g w wr lo hi C us arr c k))
  case atStart=>exact⟨0,by omega,Nat.zero_le _,rfl,HO.out⟩
  case round=>
   obtain⟨k,hk1,hk2,rfl,hI⟩:=hrel.out;clear hrel HO;obtain⟨more,hmore,hml⟩:=Pq (d:=d) (l.take k) c (fun s hs=>HA.out.1 s (List.mem_of_mem_take hs));have UN:more.length<=5000:=by rw[List.length_take]at hml;omega
   by_cases hlt:k<l.length
   .have d1:decide ((k:Int)<(l.length:Int))=true:=by simp;omega
    have i0:(0:Int)<=(k:Int):=by omega
    have i1:(k:Int)<(l.length:Int):=by omega
    have hget:l[k]? =some l[k]:=by simp
    have hQ:=HA.out.1 l[k] (List.getElem_mem hlt);obtain⟨q1,q2,q3,q4,q5⟩:=HA.out.2;obtain⟨l',m',u',e0,e1,e2,e3,e4,e5,e6⟩:=Qy (fun s hs=>(HA.out.1 s hs).ok.law) hI.nI hget;obtain⟨T1,b1',hu',_⟩:=hQ.ok.head _ _ _ _ e5;subst hu';have k0:wr.cell? (Ad g k)=some (.iface T1 (Pt b1' 0)):=(aA hI.row).trans (q2 _ _ e0);obtain⟨f1,m1,dU,H1⟩:=hQ.look _ _ _ _ _ C _ e5 (by omega) hI.ck (by rw[hmore,List.length_append];omega);have dU:∀args w,(callFunc f1 args).run prog w=.ok (.enter f1 args) w:=dU;have lJ:Hid (Calls prog f1 #[Pt b1' 0,Pt C 0] wr fun en w'=>en=.returned (.tuple #[])/\Ja l g w w' lo hi C us arr c (k+1)):=H1.mono fun en w' ⟨r1,r2,r3,r4⟩=>by
     refine⟨r1,(r4.aN g (by omega) (by omega)).trans hI.row,e6 w' (fun j j1 j2 j3=>r4.aN j (by omega) j3) r2,?_,hI.aN.trans (r4.wide (by omega) (by omega))⟩;rw[ad7 _ _ _ _ hget];exact r3
    obtain⟨g',hg'⟩:∃g',gk=g'+1:=⟨gk-1,by omega⟩;clear hget hQ q1 q2 q3 q4 q5 e0 e1 e2 e3 e4 e5 e6 hI H1 hmore hml UN;go_wp2_with fail;refine lJ.out.mono ?_;rintro en w2 ⟨rfl,hI2⟩;have HI2:Hid (Ja l g w w2 lo hi C us arr c (k+1)):=hI2;clear hI2 lJ;go_wp2_with fail;go_roundg g'
    case measure=>omega
    case rel=>exact⟨k+1,by omega,by omega,by go_num,HI2.out⟩
   .have d1:decide ((k:Int)<(l.length:Int))=false:=by simp;omega
    have hck:=hI.ck;have htk:l.take k=l:=List.take_of_length_le (by omega);rw[htk]at hck hmore;have hle:nl<=(xB l c).au.length:=by rw[hmore,List.length_append,qZ.out];omega
    obtain⟨a5,cap5,z1,z2,z3,z4,z5⟩:=hck.back hle;have HE:Hid (dX l (wr.setCell (Ad C 0) (.slice a5 nl cap5)) lo hi (.slice (some (Ad g 0)) l.length cap)/\bU (wr.setCell (Ad C 0) (.slice a5 nl cap5)) C (lS l c)/\Lk w (wr.setCell (Ad C 0) (.slice a5 nl cap5)) lo hi C):=by
     obtain⟨q1,q2,q3,q4,q5⟩:=HA.out.2;have CW:Lawful (dX l):=KW fun s hs=>(HA.out.1 s hs).ok.law;have h0:dX l wr lo hi (.slice (some (Ad g 0)) l.length cap):=Or.inr ⟨g,cap,us,arr,rfl,q4,q5,hI.nI,hI.row,q2⟩;refine⟨CW.lk h0 z5 (by omega) (Or.inr (Nat.zero_le _)),?_,hI.aN.trans (z5.all _ _)⟩;show bU _ C ((xB l c).cut c.au.length);rw[qZ.out];exact z4
    clear hI hck htk hmore hml UN z4 z5;have j0:(0:Int)<=(nl:Int):=by omega
    have j1:(nl:Int)<=(cap5:Int):=by omega
    generalize (xB l c).au.length=nn at *;go_wp2_with fail;go_end0;exact⟨rfl,HE.out⟩
end
section
variable {w w' w1 w2:World}{C lo hi b:Nat}{c:Co}{u v:Value}{l:List bI}
def ng(l:List bI):Int:=(l.map fun s=>s.aj).sum
theorem Es{l:List bI}(h:∀s∈l,1<=s.aj):(l.length:Int)<=ng l:=by
 unfold ng;induction l with
 |nil=>simp
 |cons s l ih=>
  have h1:=ih fun x hx=>h x (List.mem_cons_of_mem _ hx);have h2:=h s (List.mem_cons_self ..);simp only[List.map_cons,List.sum_cons,List.length_cons];omega
theorem TU:∀(l:List bI)(a:Int),(∀s∈l,1<=s.aj)->0<=a->l.foldl (fun a e=>dY [a,e.aj]) a<=1000000->l.foldl (fun a e=>dY [a,e.aj]) a=a+ng l
 |[],a,_,_,_=>by simp[ng]
 |s::l,a,h,ha,hk=>by
  have h1:∀x∈l,1<=x.aj:=fun x hx=>h x (List.mem_cons_of_mem _ hx);have h2:=h s (List.mem_cons_self ..);rw[List.foldl_cons]at hk⊢;have ht0:0<=dY [a,s.aj]:=by
   unfold dY;simp only[List.foldl_cons,List.foldl_nil];omega
  have h3:=TU l (dY [a,s.aj]) h1 ht0 hk;have h4:=Es h1;rw[h3]at hk⊢;have h5:=DT (a:=a) (b:=s.aj) (by omega) (by omega);rw[h5];simp only[ng,List.map_cons,List.sum_cons]at h4⊢;omega
theorem Yh(h:∀s∈l,1<=s.aj)(hk:dK l<=1000000):dK l=ng l:=by
 have:=TU l 0 h (Int.le_refl 0) hk;unfold dK;omega
def qB(l:List bI)(c:Co):Co:=l.foldl (fun c s=>s.does.lay c) c
theorem adE(l:List bI)(c:Co)(i:Nat)(s:bI)(h:l[i]? =some s):qB (l.take (i+1)) c=s.does.lay (qB (l.take i) c):=by
 have h1:l.take (i+1)=l.take i++[s]:=by rw[List.take_add_one,h];rfl
 rw[h1];unfold qB;rw[List.foldl_append]
 rfl
theorem Hy:∀(l:List bI)(c:Co),(∀s∈l,vk s)->(∃more,(qB l c).au=c.au++more/\more.length<=l.length)/\(ng l<=1000000->((qB l c).code.length:Int)<=c.code.length+200 * ng l)
 |[],c,_=>⟨⟨[],by simp[qB],by simp⟩,fun _=>by simp[qB,ng]⟩
 |s::l,c,h=>by
  have h0:=h s (List.mem_cons_self ..);have hl:∀x∈l,vk x:=fun x hx=>h x (List.mem_cons_of_mem _ hx);obtain⟨⟨m2,q1,q2⟩,q3⟩:=Hy l (s.does.lay c) hl;obtain⟨m1,p1,p2⟩:=h0.au c;have e:qB (s::l) c=qB l (s.does.lay c):=rfl;have hcp:=Es fun x hx=>(hl x hx).pos;have hsp:=h0.pos;refine⟨⟨m1++m2,by rw[e,q1,p1,List.append_assoc],by simp only[List.length_append,List.length_cons];omega⟩,fun hk=>?_⟩;have hk2:s.aj+ng l<=1000000:=by simpa [ng]using hk
  have r1:=q3 (by omega);have r2:=h0.len c (by omega);rw[e];have e2:ng (s::l)=s.aj+ng l:=by simp[ng]
  rw[e2];omega
theorem aa1(h:∀s∈l,1<=s.aj)(i:Nat)(s:bI)(hs:l[i]? =some s):(i:Int)+s.aj<=ng l/\ng (l.take i)+s.aj<=ng l:=by
 have h1:l=l.take i++s::l.drop (i+1):=by
  obtain⟨hi,he⟩:=List.getElem?_eq_some_iff.1 hs;rw[<-he,<-List.drop_eq_getElem_cons hi,List.take_append_drop]
 have h2:ng l=ng (l.take i)+(s.aj+ng (l.drop (i+1))):=by
  have:ng l=ng (l.take i++s::l.drop (i+1)):=by rw[<-h1]
  rw[this];simp[ng]
 have h3:=Es (l:=l.drop (i+1)) fun x hx=>h x (List.mem_of_mem_drop hx);have h4:=Es (l:=l.take i) fun x hx=>h x (List.mem_of_mem_take hx);have h5:(l.take i).length=i:=by
  rw[List.length_take];have:=(List.getElem?_eq_some_iff.1 hs).1;omega
 rw[h5]at h4;omega
structure sU(l:List bI):Prop where
 ok:∀s∈l,fQ s
 au:∀c,(fF l c).au=c.au
 len:∀c,dK l<=1000000->((fF l c).code.length:Int)<=c.code.length+200 * dK l
 lay:∀w lo hi v C c,dX l w lo hi v->hi<=C->aV w C c->lQ c (dK l)->Calls prog 91 #[Pt C 0,v] w fun en w'=>en=.returned (.tuple #[])/\aV w' C (fF l c)/\Gk w w' C
theorem sU.law(h:sU l):Lawful (dX l):=KW fun s hs=>(h.ok s hs).law
theorem aV.KR{cc:Co}(h:aV w C cc){n:Nat}(hn:n<=cc.au.length)(fr:Int):∃a cap,w.cell? (Ad C 1)=some (.slice a cc.au.length cap)/\cc.au.length<=cap/\w.cell? (Ad C 2)=some (Im cc.free)/\(∀j,w.frozen? (Ad C j)=false)/\aV ((w.setCell (Ad C 1) (.slice a n cap)).setCell (Ad C 2) (Im fr)) C ((cc.cut n).dw fr)/\Gk w ((w.setCell (Ad C 1) (.slice a n cap)).setCell (Ad C 2) (Im fr)) C:=by
 obtain⟨a,cap,h1,h2,h3,⟨v,nv,h4⟩,h5⟩:=h.back hn;refine⟨a,cap,h1,h2,?_,h3,⟨v,nv,h4.dw fr⟩,h5.trans (Gk.free _ _ _)⟩;obtain⟨v,nv,h⟩:=h;exact aA h.aW
theorem KX(h:∀s∈l,vk s):sU l:=by
 have hpos:∀s∈l,1<=s.aj:=fun s hs=>(h s hs).pos;refine⟨fun s hs=>(h s hs).ok,fun c=>?_,fun c hk=>?_,?_⟩
 .obtain⟨⟨more,h1,_⟩,_⟩:=Hy l c h;show((qB l c).au.take c.au.length)=c.au;rw[h1];simp
 .have hs:=Yh hpos hk;rw[hs]at hk⊢;exact(Hy l c h).2 hk
 intro w lo hi v C c hh hC hc hr;have hs:=Yh hpos hr.aj;rw[hs]at hr;have hrc:=hr.code;have hrn:=hr.au;have hrk:=hr.aj;have hlen:(l.length:Int)<=1000000:=by have:=Es hpos;omega
 obtain⟨a0,cap0,c1,_,c2,_⟩:=hc.KR (Nat.le_refl _) 0;have HP:Hid (∀k,∃more,(qB (l.take k) c).au=c.au++more):=fun k=>by
  obtain⟨⟨more,h1,_⟩,_⟩:=Hy (l.take k) c fun s hs=>h s (List.mem_of_mem_take hs);exact⟨more,h1⟩
 have RG:Hid (∀k s,l[k]? =some s->lQ (qB (l.take k) c) s.aj):=fun k s hks=>by
  obtain⟨⟨more,p1,p2⟩,p3⟩:=Hy (l.take k) c fun s hs=>h s (List.mem_of_mem_take hs);obtain⟨r1,r2⟩:=aa1 hpos k s hks;have r3:0<=ng (l.take k):=by have:=Es (l:=l.take k) fun x hx=>hpos x (List.mem_of_mem_take hx);omega
  have r4:=hpos s (List.mem_of_getElem? hks);have r5:=p3 (by omega);refine⟨by omega,by omega,?_⟩;rw[p1,List.length_append];rw[List.length_take]at p2;have:(more.length:Int)<=k:=by omega
  omega
 have HA:Hid (∀(k:Nat)(y:World)(hk:k<l.length),Gk w y C->aV y C (qB (l.take k) c)->∃g T b f,(∃cap,v=.slice (some (Ad g 0)) l.length cap)/\y.cell? (Ad g k)=some (.iface T (Pt b 0))/\(∀w,(method 576 T (Pt b 0) "helm/lang.lay").run prog w=.ok (f,Pt b 0) w)/\Enters f/\
  Calls prog f #[Pt b 0,Pt C 0] y fun en w'=>en=.returned (.tuple #[])/\aV w' C (qB (l.take (k+1)) c)/\Gk w w' C):=by
  intro k y hk hy hgc;rcases hh with⟨hf,_⟩|⟨g,cap,us,arr,rfl,g1,g2,hst,hg,harr⟩
  .rw[hf]at hk;simp at hk
  have hget:l[k]? =some l[k]:=by simp
  have hQ:=h l[k] (List.getElem_mem hk);obtain⟨l',m',u',e0,e1,e2,e3,e4,e5,e6⟩:=Qy (fun s hs=>(h s hs).ok.law) hst hget;obtain⟨T1,b1,hu',_⟩:=hQ.ok.head _ _ _ _ e5;subst hu';obtain⟨f1,m1,dU,H1⟩:=hQ.lay _ _ _ _ _ C _ (hQ.ok.law.gk e5 hy (by omega)) (by omega) hgc (RG.out k _ hget);refine⟨g,T1,b1,f1,⟨cap,rfl⟩,(hy.cell (by omega)).trans ((aA hg).trans (harr _ _ e0)),m1,dU,H1.mono ?_⟩;rintro en w' ⟨r1,r2,r3⟩;rw[adE l c k _ hget];exact⟨r1,r2,hy.trans r3⟩
 obtain⟨va,vc,hv⟩:∃va vc,v=.slice va l.length vc:=by
  rcases hh with⟨hf,rfl⟩|⟨g,cap,us,arr,rfl,_⟩
  .exact⟨none,0,by rw[hf];rfl⟩
  .exact⟨_,_,rfl⟩
 subst hv;have HZ:Hid (∀y,aV y C (qB (l.take l.length) c)->Gk w y C->∃a n cap,y.cell? (Ad C 1)=some (.slice a n cap)/\(c.au.length:Int)<=cap/\(∃u,y.cell? (Ad C 2)=some u)/\(∀j,y.frozen? (Ad C j)=false)/\aV ((y.setCell (Ad C 1) (.slice a c.au.length cap)).setCell (Ad C 2) (Im c.free)) C (fF l c)/\Gk w ((y.setCell (Ad C 1) (.slice a c.au.length cap)).setCell (Ad C 2) (Im c.free)) C):=fun y hg hy=>by
  obtain⟨more,hmo⟩:=HP.out l.length;rw[List.take_of_length_le (Nat.le_refl _)]at hg hmo;have hle:c.au.length<=(qB l c).au.length:=by rw[hmo];simp
  obtain⟨a,cap,z1,z2,z3,z4,z5,z6⟩:=hg.KR hle c.free;exact⟨a,_,cap,z1,by omega,⟨_,z3⟩,z4,z5,hy.trans z6⟩
 have HO:Hid (∀n,aV (w.drewN n) C (qB (l.take 0) c)/\Gk w (w.drewN n) C):=fun n=>⟨hc.grow (dh w n),Gk.grown (dh w n) hc.lt⟩;clear hh hc hr h RG HP hs hrc hrn hrk;generalize fF l c=R at *;generalize c.free=fr at *;generalize hnl:c.au.length=nl at *;go_enter func91,ntmps91;go_wp2_with fail;go_quiet (fail);go_wp2_with fail;go_loopg [19] (l.length+1) (fun gg i wr=>Hid (∃k:Nat,k+gg=l.length+1/\k<=l.length/\i=Im k/\aV wr C (qB (l.take k) c)/\Gk w wr C))
 case atStart=>exact⟨0,by omega,Nat.zero_le _,rfl,HO.out _⟩
 case round=>
  obtain⟨k,hk1,hk2,rfl,hI,hG⟩:=hrel.out;clear hrel HO;by_cases hlt:k<l.length
  .have d1:decide ((k:Int)<(l.length:Int))=true:=by simp;omega
   have i0:(0:Int)<=(k:Int):=by omega
   have i1:(k:Int)<(l.length:Int):=by omega
   obtain⟨g,T1,b1,f1,⟨cap,hv⟩,k0,m1,dU,H1⟩:=HA.out k wr hlt hG hI;cases hv;have dU:∀args w,(callFunc f1 args).run prog w=.ok (.enter f1 args) w:=dU;have H1:=bC H1;obtain⟨g',hg'⟩:∃g',gk=g'+1:=⟨gk-1,by omega⟩;clear hI hG;go_wp2_with fail;refine H1.out.mono ?_;rintro en w2 ⟨rfl,p2,q2⟩;have HE:=bC (And.intro p2 q2);clear p2 q2 H1;go_wp2_with fail;go_roundg g'
   case measure=>omega
   case rel=>exact⟨k+1,by omega,by omega,by go_num,HE.out⟩
  .have d1:decide ((k:Int)<(l.length:Int))=false:=by simp;omega
   have hke:k=l.length:=by omega
   obtain⟨a,n,cap,z1,z2,⟨z3u,z3⟩,z4,z5,z6⟩:=HZ.out wr (by rw[hke]at hI;exact hI) hG;have HE:=bC (And.intro z5 z6);have j0:(0:Int)<=(nl:Int):=by omega
   clear hI hG hke z5 z6;go_wp2_with fail;go_end0;exact⟨rfl,HE.out⟩
end
section
variable {w w' w1 w2 w3 w4:World}{C lo hi b d m k:Nat}{c:Ck}{u v:Value}{e f:Ex}{a:Int}{T:TypeId}{x:Sx}{l y n:List bI}
theorem rO.law(h:rO d l):Lawful (dX l):=KW fun s hs=>(h.ok s hs).law
theorem aaP(a:Int)(h:cZ e)(hy:∀s∈y,fQ s)(hn:∀s∈n,fQ s):fQ (rP a e y n):=qR (by simp[mJ]) (Ht (h.law _) (oC hy) (oC hn)) (LM h.aj (qG hy) (qG hn))
theorem aef(a:Int)(t:Wd)(hx:fM x)(hl:∀s∈l,fQ s):fQ (vW a t x l):=qR (by simp[mJ]) (tu hx.law (oC hl)) (Bo hx.aj (tY (qG hl)))
theorem uK{w:World}{lo hi:Nat}{v:Value}(h:dX l w lo hi v):∃ad n cap,v=.slice ad n cap:=by
 rcases h with⟨_,rfl⟩|⟨g,cap,us,arr,rfl,_⟩
 .exact⟨_,_,_,rfl⟩
 .exact⟨_,_,_,rfl⟩
theorem aaO(h:dQ k e)(hk:k<=10000 * (d+1))(hy:rO d y)(hn':rO d n)(a:Int):uy (d+1) (rP a e y n):=by
 refine⟨aaP a h.ok hy.ok hn'.ok,fun c=>Fz ?_,?_⟩
 .show(lS n (lS y ((e.does.look c).want (e.does.bY c.au) e.at' 2))).au=c.au;rw[hn'.au,hy.au,ql,h.au]
 rintro w lo hi T b C c ⟨b',us,hv,h1,h2,⟨m,k',u,v,z,rfl,hm1,hm2,OB,hu,hv2,hz⟩,hb⟩ hC hc hn;cases hv;obtain⟨T1,b1,f1,rfl,hT1,l1,l2,m1,dU,H1⟩:=h.use (C:=C) (c:=c) hu (by omega) hc (by omega);have dU:∀args w,(callFunc f1 args).run prog w=.ok (.enter f1 args) w:=dU;have H1:Hid (Calls prog f1 #[Pt b1 0,Pt C 0] w fun en w'=>en=.returned (.tuple #[])/\dW e e.at' w w' lo m (.iface T1 (Pt b1 0)) b1 C c):=H1;obtain⟨ya,yn,yc,rfl⟩:=uK hv2;obtain⟨na,nn,nc,rfl⟩:=uK hz;have c2:w.cell? (Ad b 2)=some (.iface T1 (Pt b1 0)):=aA hb;have HB:Hid (w.heap[b]? =some (.cells (Im a::Im (bD [e.aj,dK y,dK n])::[.iface T1 (Pt b1 0),.slice ya yn yc,.slice na nn nc,.bool false]).toArray 341)):=hb;have HC:Hid (dQ k e/\rO d y/\rO d n/\c.au.length+10000 * d<=800000/\dX y w m k' (.slice ya yn yc)/\dX n w k' b (.slice na nn nc)):=⟨h,hy,hn',by omega,hv2,hz⟩;refine⟨338,fun w=>by kernel_rfl,fun args w=>by kernel_rfl,?_⟩;clear hu hb hc hn hv2 hz hy hn' h;go_enter func338,ntmps338;go_wp2_with fail;refine H1.out.mono ?_;rintro en w1 ⟨rfl,L1⟩;have hb1:=(L1.aN.aN b (by omega) (Or.inr (by omega))).trans HB.out;have e2:w1.cell? (Ad b 2)=some (.iface T1 (Pt b1 0)):=aA hb1;have HW:Hid (Calls prog 317 #[Pt C 0,.iface T1 (Pt b1 0),Im 2] w1 fun en w2=>en=.returned (.tuple #[])/\bU w2 C ((e.does.look c).want (e.does.bY c.au) e.at' 2)/\Lk w1 w2 0 0 C):=L1.want HC.out.1.ok 2 0;have HL:Hid (dW e e.at' w w1 lo m (.iface T1 (Pt b1 0)) b1 C c):=L1;clear L1 hb1 H1;go_wp2_with fail;refine HW.out.mono ?_;rintro en w2 ⟨rfl,p1,p2⟩
 have q2:Lk w w2 lo m C:=HL.out.aN.trans (p2.all _ _);have hb2:=(q2.aN b (by omega) (Or.inr (by omega))).trans HB.out;have e3:w2.cell? (Ad b 3)=some (.slice ya yn yc):=aA hb2;have hy2:=HC.out.2.1.law.lk HC.out.2.2.2.2.1 q2 (by omega) (Or.inr (Nat.le_refl _));have he2:=(HC.out.1.ok.law _).lk HL.out.here p2 (by omega) (Or.inr (Nat.zero_le _));have hnm:((e.does.look c).want (e.does.bY c.au) e.at' 2).au=c.au:=by rw[ql,HC.out.1.au]
 have HY:Hid (Calls prog 89 #[Pt C 0,.slice ya yn yc] w2 fun en w'=>en=.returned (.tuple #[])/\dX y w' m k' (.slice ya yn yc)/\bU w' C (lS y ((e.does.look c).want (e.does.bY c.au) e.at' 2))/\Lk w2 w' m k' C):=HC.out.2.1.look _ _ _ _ C _ hy2 (by omega) p1 (by rw[hnm];exact HC.out.2.2.2.1);have dO:Hid (Lk w w2 lo m C/\e.here e.at' w2 lo m (.iface T1 (Pt b1 0))/\((e.does.look c).want (e.does.bY c.au) e.at' 2).au=c.au):=⟨q2,he2,hnm⟩;clear p1 p2 q2 hb2 hy2 he2 hnm HW;go_wp2_with fail;refine HY.out.mono ?_;rintro en w3 ⟨rfl,r1,r2,r3⟩;have q3:Lk w w3 lo k' C:=(dO.out.1.wide (Nat.le_refl _) hm2).trans (r3.wide hm1 (Nat.le_refl _));have hb3:=(q3.aN b (by omega) (Or.inr (by omega))).trans HB.out;have e4:w3.cell? (Ad b 4)=some (.slice na nn nc):=aA hb3;have hn3:=HC.out.2.2.1.law.lk HC.out.2.2.2.2.2 q3 (by omega) (Or.inr (Nat.le_refl _));have he3:=(HC.out.1.ok.law _).lk dO.out.2.1 r3 (by omega) (Or.inl (Nat.le_refl _));have HZ:Hid (Calls prog 89 #[Pt C 0,.slice na nn nc] w3 fun en w'=>en=.returned (.tuple #[])/\dX n w' k' b (.slice na nn nc)/\bU w' C (lS n (lS y ((e.does.look c).want (e.does.bY c.au) e.at' 2)))/\Lk w3 w' k' b C):=HC.out.2.2.1.look _ _ _ _ C _ hn3 (by omega) r2 (by rw[HC.out.2.1.au,dO.out.2.2];exact HC.out.2.2.2.1);have lC:Hid (Lk w w3 lo k' C/\e.here e.at' w3 lo m (.iface T1 (Pt b1 0))/\dX y w3 m k' (.slice ya yn yc)):=⟨q3,he3,r1⟩;clear r1 r2 r3 q3 hb3 hn3 he3 HY;go_wp2_with fail;refine HZ.out.mono ?_;rintro en w4 ⟨rfl,r1,r2,r3⟩
 have HE:Hid ((rP a e y n).here w4 lo hi (.iface 339 (Pt b 0))/\bU w4 C ((rP a e y n).does.look c)/\Lk w w4 lo hi C):=by
  have q4:Lk w w4 lo b C:=(lC.out.1.wide (Nat.le_refl _) OB).trans (r3.wide (by omega) (Nat.le_refl _));have hb4:=(q4.aN b (by omega) (Or.inr (Nat.le_refl _))).trans HB.out;have he4:=(HC.out.1.ok.law _).lk lC.out.2.1 r3 (by omega) (Or.inl hm2);have hy4:=HC.out.2.1.law.lk lC.out.2.2 r3 (by omega) (Or.inl (Nat.le_refl _));exact⟨⟨b,_,rfl,h1,h2,⟨m,k',_,_,_,rfl,hm1,hm2,OB,he4,hy4,r1⟩,hb4⟩,r2,q4.wide (Nat.le_refl _) (by omega)⟩
 clear r1 r2 r3;go_wp2_with fail;go_end0;exact⟨rfl,HE.out⟩
theorem aee(hx:nO 100000 (dQ k) x)(hk:k+1<=10000 * (d+1))(hl:rO d l)(a:Int)(t:Wd):uy (d+1) (vW a t x l):=by
 obtain⟨tt,ta⟩:=t;have hns:∀c,(kH x.of x.aH c).au=c.au:=fun c=>Ia _ _ _ fun b hb=>(hx.all b hb).au;refine⟨aef a _ hx.ok hl.ok,fun c=>Fz ?_,?_⟩
 .show((lS l ((kH x.of x.aH (c.eX tt ta)).add tt x.of false)).cut (kH x.of x.aH (c.eX tt ta)).au.length).au=c.au;unfold Ck.cut;rw[hl.au];unfold Ck.add;simp only[hns,FH];simp
 rintro w lo hi T b C c ⟨b',us,hv,h1,h2,⟨m,u,v,rfl,hm1,hm2,hu,hv2⟩,hb⟩ hC hc hn;cases hv;obtain⟨S,fv,rfl,s1,s2,s3⟩:=oG hu;obtain⟨ya,yn,yc,rfl⟩:=uK hv2;have c2:w.cell? (Ad b 2)=some (.string tt):=aA hb;have c3:w.cell? (Ad b 3)=some (Im ta):=aA hb;have HB:Hid (w.heap[b]? =some (.cells (Im a::Im (bD [x.aj,x.round (dK l)])::[.string tt,Im ta,Pt S 0,.slice ya yn yc]).toArray 351)):=hb;have HN:Hid (Calls prog 325 #[Pt C 0,.agg #[.string tt,Im ta]] w fun en w'=>en=.returned (.tuple #[])/\bU w' C (c.eX tt ta)/\Lk w w' 0 0 C):=NU hc tt ta (by omega);have HC:Hid (nO 100000 (dQ k) x/\rO d l/\(∀c,(kH x.of x.aH c).au=c.au)/\c.au.length+10000 * (d+1)<=805000/\dF x w lo m (Pt S 0)/\dX l w m b (.slice ya yn yc)):=⟨hx,hl,hns,hn,hu,hv2⟩;have Jo:Hid ((c.eX tt ta).au=c.au):=FH c tt ta;refine⟨346,fun w=>by kernel_rfl,fun args w=>by kernel_rfl,?_⟩;have hbC:b<C:=by omega
 clear hu hb hc hn hv2 hx hl hns s3;go_enter func346,ntmps346;go_wp2_with fail;refine HN.out.mono ?_;rintro en w0 ⟨rfl,p1,p2⟩;have hb0:=(p2.aN b hbC (Or.inr (Nat.zero_le _))).trans HB.out;have d4:w0.cell? (Ad b 4)=some (Pt S 0):=aA hb0;have hs0:=HC.out.1.law.lk HC.out.2.2.2.2.1 p2 (by omega) (Or.inr (Nat.zero_le _));have HS:Hid (Calls prog 349 #[Pt C 0,Pt S 0] w0 fun en w'=>en=.returned (.tuple #[])/\dF x w' lo m (Pt S 0)/\bU w' C (kH x.of x.aH (c.eX tt ta))/\Lk w0 w' lo m C):=NT HC.out.1 hs0 (by omega) p1 (by rw[Jo.out];have:=HC.out.2.2.2.1;omega);have Jh:Hid (Lk w w0 0 0 C):=p2;clear p1 p2 hb0 hs0 HN;go_wp2_with fail;refine HS.out.mono ?_;rintro en w1 ⟨rfl,r1,r2,r3⟩;have q1:Lk w w1 lo m C:=(Jh.out.all _ _).trans r3;have hb1:=(q1.aN b hbC (Or.inr hm2)).trans HB.out;have e2:w1.cell? (Ad b 2)=some (.string tt):=aA hb1;have e3:w1.cell? (Ad b 3)=some (Im ta):=aA hb1;have e4:w1.cell? (Ad b 4)=some (Pt S 0):=aA hb1;obtain⟨S',yF,hS',_,_,s3⟩:=oG r1;cases hS';have eS:w1.cell? (Ad S 3)=some (Im x.of):=aA s3;obtain⟨nl,hnl⟩:∃nl,(kH x.of x.aH (c.eX tt ta)).au.length=nl:=⟨_,rfl⟩;have UO:c.au.length=nl:=by rw[<-hnl,HC.out.2.2.1,Jo.out]
 obtain⟨v1,k1⟩:=r2;obtain⟨a1,cap1,rfl⟩:=fJ k1.row;have x0:w1.cell? (Ad C 0)=some (.slice a1 nl cap1):=by rw[<-hnl];exact aA k1.aW
 have hck1:bU w1 C (kH x.of x.aH (c.eX tt ta)):=⟨_,k1⟩;have BM:Hid (∀n,Calls prog 326 #[Pt C 0,.agg #[.string tt,Im ta],Im x.of,.bool false] (w1.drewN n) fun en w'=>en=.returned (.tuple #[])/\bU w' C ((kH x.of x.aH (c.eX tt ta)).add tt x.of false)/\Lk w1 w' 0 0 C):=fun n=>by
  refine(NR (hck1.grow (dh w1 n)) tt ta _ false (by rw[hnl];have:=HC.out.2.2.2.1;omega)).mono ?_;rintro en w' ⟨r1,r2,r3⟩;exact⟨r1,r2,(Lk.grown (dh w1 n) hck1.lt).trans r3⟩
 have eG:Hid (Lk w w1 lo m C/\dF x w1 lo m (Pt S 0)/\(kH x.of x.aH (c.eX tt ta)).au.length=nl/\c.au.length=nl):=⟨q1,r1,hnl,UO⟩;clear r1 r3 q1 hb1 s3 hnl UO k1 hck1 HS;go_wp2_with fail;refine fC 12 (by kernel_rfl) (by kernel_rfl) ?_;simp only[List.take_succ_cons,List.take_zero,List.drop_succ_cons,List.drop_zero];repeat (go_big_quiet_step (fail))
 refine wpQuiet_nil ?_;intro _ hw';obtain⟨n3,hw''⟩:=hw';subst hw'';go_wp2_with fail;refine(BM.out _).mono ?_;rintro en w2 ⟨rfl,p1,p2⟩;have q2:Lk w w2 lo m C:=eG.out.1.trans (p2.all _ _);have hb2:=(q2.aN b hbC (Or.inr hm2)).trans HB.out;have g5:w2.cell? (Ad b 5)=some (.slice ya yn yc):=aA hb2;have hl2:=HC.out.2.1.law.lk HC.out.2.2.2.2.2 q2 (by omega) (Or.inr (Nat.le_refl _));have hs2:=HC.out.1.law.lk eG.out.2.1 p2 (by omega) (Or.inr (Nat.zero_le _));have hna:((kH x.of x.aH (c.eX tt ta)).add tt x.of false).au.length=nl+1:=by
  unfold Ck.add;simp only[List.length_append,List.length_cons,List.length_nil,eG.out.2.2.1]
 have HY:Hid (Calls prog 89 #[Pt C 0,.slice ya yn yc] w2 fun en w'=>en=.returned (.tuple #[])/\dX l w' m b (.slice ya yn yc)/\bU w' C (lS l ((kH x.of x.aH (c.eX tt ta)).add tt x.of false))/\Lk w2 w' m b C):=HC.out.2.1.look _ _ _ _ C _ hl2 (by omega) p1 (by rw[hna];have:=HC.out.2.2.2.1;have:=eG.out.2.2.2;omega);have dO:Hid (Lk w w2 lo m C/\dF x w2 lo m (Pt S 0)/\((kH x.of x.aH (c.eX tt ta)).add tt x.of false).au.length=nl+1):=⟨q2,hs2,hna⟩;clear p1 p2 q2 hb2 hl2 hs2 hna BM;go_wp2_with fail;refine HY.out.mono ?_;rintro en w3 ⟨rfl,r1,r2,r3⟩;have hn3:(lS l ((kH x.of x.aH (c.eX tt ta)).add tt x.of false)).au.length=nl+1:=by rw[HC.out.2.1.au];exact dO.out.2.2
 obtain⟨a5,cap5,z1,z2,z3,z4,z5⟩:=r2.back (n:=nl) (by omega);rw[hn3]at z1;have HE:Hid ((vW a ⟨tt,ta⟩ x l).here (w3.setCell (Ad C 0) (.slice a5 nl cap5)) lo hi (.iface 349 (Pt b 0))/\bU (w3.setCell (Ad C 0) (.slice a5 nl cap5)) C ((vW a ⟨tt,ta⟩ x l).does.look c)/\Lk w (w3.setCell (Ad C 0) (.slice a5 nl cap5)) lo hi C):=by
  have q4:Lk w (w3.setCell (Ad C 0) (.slice a5 nl cap5)) lo b C:=((dO.out.1.wide (Nat.le_refl _) hm2).trans (r3.wide hm1 (Nat.le_refl _))).trans (z5.all _ _);have hb4:=(q4.aN b hbC (Or.inr (Nat.le_refl _))).trans HB.out;have hs4:=HC.out.1.law.lk (HC.out.1.law.lk dO.out.2.1 r3 (by omega) (Or.inl (Nat.le_refl _))) z5 (by omega) (Or.inr (Nat.zero_le _));have hl4:=HC.out.2.1.law.lk r1 z5 (by omega) (Or.inr (Nat.zero_le _));refine⟨⟨b,_,rfl,h1,h2,⟨m,_,_,rfl,hm1,hm2,hs4,hl4⟩,hb4⟩,?_,q4.wide (Nat.le_refl _) (by omega)⟩;show bU _ C ((lS l ((kH x.of x.aH (c.eX tt ta)).add tt x.of false)).cut (kH x.of x.aH (c.eX tt ta)).au.length);rw[eG.out.2.2.1];exact z4
 clear r1 r2 r3 z4 z5 hn3 HY;have j0:(0:Int)<=(nl:Int):=by omega
 have j1:(nl:Int)<=(cap5:Int):=by omega
 go_wp2_with fail;go_end0;exact⟨rfl,HE.out⟩
theorem ad9(N:Nat)(hN:N<=100000)(d:Nat):Jv N (dQ d) (dQ (d+1)) (rO d) (uy (d+1)) where
 aj:=fun _ h=>h.ok.aj
 Px:=fun a t _ h=>aep h (by omega) a t
 Qu:=fun t _ h=>ahT h (by omega) t
 Qx:=fun a i _ h=>aiy h (by omega) a i
 Qa:=fun a _ _ h k=>af7 h k (by omega) a
 returning:=fun a=>agW _ a
 choice:=fun a _ _ _ h hy hn=>aaO h (by omega) hy hn a
 loop:=fun a t _ _ hx hl=>aee ⟨hx.of,hx.all,Nat.le_trans hx.len hN,hx.aj,hx.sum⟩ (by omega) hl a t
end
end
end Go.Proofs.YthllhabjfchgiaaGreatDoor
