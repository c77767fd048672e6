import Derived.Test.YthllhabjfchgiaaGreatDoorHz32
import Derived.Test.YthllhabjfchgiaaGreatDoorSortShelf
import Derived.Shelf.SlSortCmp.NoneTotal
set_option maxRecDepth 100000
set_option maxHeartbeats 8000000
namespace Go.Proofs.YthllhabjfchgiaaGreatDoor
open _root_.Go.Proofs.Tryz
section
open Go.RowKit Hx
attribute [local go_sem ↓] Go.wp_at_zero Go.wp_at_succ
attribute [local go_sem] bT
section
variable {w w' w2 w1:World}{tag:Nat->Nat}{L R cap:Nat}{pk:Nat->Nat}{cv u:Value}{ρ:bW}{s:aO}
theorem ajm(h:bg w tag L R pk cv cap ρ s)(hs:Small s)(x:Int):Calls prog 119 #[Pt L 0,Im x] w fun e w'=>e=.returned (oD pk (s.waiting x))/\w'=w:=by
 have hof:=h.own (t:=2) (by omega) h.aU.aG h.ok.aG (by have:=hs.aG;omega);have hoa:=h.own (t:=4) (by omega) h.aU.aJ h.ok.aJ (by have:=hs.aJ;omega);obtain⟨fa,fc,hfv⟩:=fJ hof.row;obtain⟨ga,gc,hgv⟩:=fJ hoa.row;have c13:w.cell? (Ad L 13)=some (.slice fa s.aG.length fc):=by rw[<-hfv];exact h.dL rfl
 have c15:w.cell? (Ad L 15)=some (.slice ga s.aJ.length gc):=by rw[<-hgv];exact h.dL rfl
 have H1:=bC (J4 hof.read (by have:=hs.aG;omega) x);have H2:=bC (J4 hoa.read (by have:=hs.aJ;omega) x);rw[hfv]at H1;rw[hgv]at H2;clear h hof hoa hfv hgv;unfold aO.waiting;cases hf:lH s.aG x with
 |none=>
  rw[hf]at H1;simp only[oD]at H1;generalize lH s.aJ x=r at *;go_enter func119,ntmps119;go_wp2_with fail;refine H1.out.mono ?_;rintro e w1 ⟨rfl,rfl⟩;go_wp2_with fail;refine H2.out.mono ?_;rintro e w1 ⟨rfl,rfl⟩;go_wp2_with fail;go_ret;exact⟨rfl,rfl⟩
 |some q=>
  rw[hf]at H1;simp only[oD,ptr]at H1;go_enter func119,ntmps119;go_wp2_with fail;refine H1.out.mono ?_;rintro e w1 ⟨rfl,rfl⟩;go_wp2_with fail;go_ret;exact⟨rfl,rfl⟩
theorem ajn(h:zC s){x:Int}{q:Nat}(hw:s.waiting x=some q):q<s.all.length:=by
 unfold aO.waiting at hw;split at hw
 .rename_i q' hq';cases hw;exact h.aG q (GH hq').1
 .exact h.aJ q (GH hw).1
theorem ZA(h:bg w tag L R pk cv cap ρ s)(hs:Small s)(id seq:Int):Calls prog 75 #[Pt L 0,.agg #[Im id,Im seq]] w fun e w'=>e=.returned (.tuple #[])/\∃tag' ρ',bg w' tag' L R pk cv cap ρ' (s.act id seq)/\Lf w tag w' tag':=by
 have HR:Hid (∀o n,Calls prog 78 #[Pt L 0,Im id] ((w.alloc o).drewN n) fun e w'=>e=.returned (xJ R (sH s id))/\w'=(w.alloc o).drewN n):=fun o n=>La (h.grow ((World.grownBy_alloc w o none).trans (dh _ n))) id;have HW:Hid (∀o n,Calls prog 119 #[Pt L 0,Im seq] ((w.alloc o).drewN n) fun e w'=>e=.returned (oD pk (s.waiting seq))/\w'=(w.alloc o).drewN n):=fun o n=>ajm (h.grow ((World.grownBy_alloc w o none).trans (dh _ n))) hs seq;have AB:Hid (∀i q,sH s id=some i->s.waiting seq=some q->∀y,w.grownBy y none->Calls prog 120 #[Pt L 0,ptr pk q,Pt R (i * 8)] y fun e w'=>e=.returned (.tuple #[])/\∃tag' ρ',bg w' tag' L R pk cv cap ρ' (s.send q i)/\Lf w tag w' tag'):=fun i q hi hq y hy=>by
  refine(VJ (h.grow hy) hs (II hi).1 (ajn h.ok hq)).mono ?_;rintro e w' ⟨k1,tag',ρ',k2,k3⟩;exact⟨k1,tag',ρ',k2,(Lf.grown hy).trans k3⟩
 have Jm:Hid (∀y,w.grownBy y none->y.cell? (Ad L 12)=some (Im (s.dN:Int))/\(∀j,y.frozen? (Ad L j)=false)/\bg (y.setCell (Ad L 12) (Im ((s.dN:Int)+1))) tag L R pk cv cap ρ {s with dN:=s.dN+1}/\Lf w tag (y.setCell (Ad L 12) (Im ((s.dN:Int)+1))) tag):=fun y hy=>by
  have h2:=h.grow hy;obtain⟨z1,z2⟩:=h2.dF (j:=12) (u:=Im ((s.dN:Int)+1)) (by have:=rZ cv (.slice (some (Ad R 0)) s.ah.length cap) (ρ 2).2.1 (ρ 3).2.1 (ρ 4).2.1 s;omega) (s':={s with dN:=s.dN+1}) ⟨h.aU.aG,h.aU.aP,h.aU.aJ,h.aU.aT,h.aU.aX,h.aU.aQ⟩ ⟨h.ok.aG,h.ok.aP,h.ok.aJ,h.ok.aQ,h.ok.kept,h.ok.turn,h.ok.ah⟩ rfl rfl rfl;exact⟨h2.dL rfl,h2.fz L h2.fO,z1,(Lf.grown hy).trans z2⟩
 have oI:Hid (∀i,sH s id=some i->∃r,s.ah[i]? =some r/\∀y,w.grownBy y none->y.cell? (Ad R (i * 8+2))=some (Im (r.cO:Int))/\y.cell? (Ad R (i * 8+3))=some (Im (r.out:Int))):=fun i hi=>by
  have hil:=(II hi).1;refine⟨s.ah[i],by simp,fun y hy=>?_⟩;have h2:=h.grow hy;exact⟨h2.gu (i:=i) (r:=s.ah[i]) (by simp) rfl,h2.gu (i:=i) (r:=s.ah[i]) (by simp) rfl⟩
 have hwl:=hs.dN;have hbx:∀o,w.grownBy (w.alloc o) none:=fun o=>World.grownBy_alloc w o none;have YT:=bC hbx;clear h hbx hs;have HD:Hid (∀n (o:Obj),w.grownBy ((w.alloc o).drewN n) none):=fun n o=>(YT.out o).trans (dh _ n);have e1:∀o n,((w.alloc o).drewN n).cell? (Ad L 12)=some (Im (s.dN:Int)):=fun o n=>(Jm.out _ (HD.out n o)).1;have e2:∀o n j,((w.alloc o).drewN n).frozen? (Ad L j)=false:=fun o n=>(Jm.out _ (HD.out n o)).2.1;have HE:Hid (∀o n,bg (((w.alloc o).setCell (Ad L 12) (Im ((s.dN:Int)+1))).drewN n) tag L R pk cv cap ρ {s with dN:=s.dN+1}/\Lf w tag (((w.alloc o).setCell (Ad L 12) (Im ((s.dN:Int)+1))).drewN n) tag):=fun o n=>(Jm.out _ (HD.out n o)).2.2;clear Jm;unfold aO.act;cases hr:sH s id with
 |none=>
  rw[hr]at HR;simp only[xJ]at HR;generalize s.waiting seq=ws at *;have Za:∃p,oD pk ws=.pointer p:=by cases ws<;>exact⟨_,rfl⟩
  obtain⟨po,hpo⟩:=Za;rw[hpo]at HW;clear hr AB oI;go_enter func75,ntmps75;go_wp2_with fail;go_quiet ((first|(go_at_call 78;exact Calls.quiet_of_same (HR.out _ _))|(go_at_call 119;exact Calls.quiet_of_same (HW.out _ _))));go_wp2_with fail;go_quiet (fail);go_wp2_with fail;exact bodyPost_ret (v:=.tuple #[]) (by simp[results,Tryz.results75,go_sem]) rfl ⟨rfl,tag,ρ,HE.out _ _⟩
 |some i=>
  rw[hr]at HR;simp only[xJ]at HR;cases hw:s.waiting seq with
  |none=>
   rw[hw]at HW;simp only[oD]at HW;clear hr AB oI hw;go_enter func75,ntmps75;go_wp2_with fail;go_quiet ((first|(go_at_call 78;exact Calls.quiet_of_same (HR.out _ _))|(go_at_call 119;exact Calls.quiet_of_same (HW.out _ _))));go_wp2_with fail;go_quiet (fail);go_wp2_with fail;exact bodyPost_ret (v:=.tuple #[]) (by simp[results,Tryz.results75,go_sem]) rfl ⟨rfl,tag,ρ,HE.out _ _⟩
  |some q=>
   rw[hw]at HW;simp only[oD,ptr]at HW;obtain⟨r,fB,Nb⟩:=oI.out i hr;have f2:∀o n,((w.alloc o).drewN n).cell? (Ad R (i * 8+2))=some (Im (r.cO:Int)):=fun o n=>(Nb _ (HD.out n o)).1;have f3:∀o n,((w.alloc o).drewN n).cell? (Ad R (i * 8+3))=some (Im (r.out:Int)):=fun o n=>(Nb _ (HD.out n o)).2;have sS:=bC (AB.out i q hr hw);simp only;rw[fB];simp only;clear hr AB oI hw Nb fB;by_cases hc:r.cO<=r.out
   .rw[if_pos hc];have d1:decide ((r.cO:Int)<=(r.out:Int))=true:=decide_eq_true (by omega);clear sS;go_enter func75,ntmps75;go_wp2_with fail;go_quiet ((first|(go_at_call 78;exact Calls.quiet_of_same (HR.out _ _))|(go_at_call 119;exact Calls.quiet_of_same (HW.out _ _))));go_wp2_with fail;go_quiet (fail);go_wp2_with fail;exact bodyPost_ret (v:=.tuple #[]) (by simp[results,Tryz.results75,go_sem]) rfl ⟨rfl,tag,ρ,HE.out _ _⟩
   .rw[if_neg hc];have d1:decide ((r.cO:Int)<=(r.out:Int))=false:=decide_eq_false (by omega);clear HE;unfold ptr at sS;go_enter func75,ntmps75;go_wp2_with fail;go_quiet ((first|(go_at_call 78;exact Calls.quiet_of_same (HR.out _ _))|(go_at_call 119;exact Calls.quiet_of_same (HW.out _ _))));go_wp2_with fail;go_quiet (fail);go_wp2_with fail;refine(sS.out _ (HD.out _ _)).mono ?_;rintro e w4 ⟨rfl,k4⟩;have HK:=bC k4;clear k4 sS;go_wp2_with fail;go_end0;exact⟨rfl,HK.out⟩
theorem agS(h:bg w tag L R pk cv cap ρ s)(hs:Small s):Calls prog 77 #[Pt L 0] w fun e w'=>e=.returned (.tuple #[])/\∃tag' ρ',bg w' tag' L R pk cv cap ρ' s.mD/\Lf w tag w' tag':=by
 have hof:=h.own (t:=2) (by omega) h.aU.aG h.ok.aG (by have:=hs.aG;omega);have hou:=h.own (t:=3) (by omega) h.aU.aP h.ok.aP (by have:=hs.aP;omega);obtain⟨fa,fc,hfv⟩:=fJ hof.row;obtain⟨ua,uc,huv⟩:=fJ hou.row;have c13:w.cell? (Ad L 13)=some (.slice fa s.aG.length fc):=by rw[<-hfv];exact h.dL rfl
 have c14:w.cell? (Ad L 14)=some (.slice ua s.aP.length uc):=by rw[<-huv];exact h.dL rfl
 have c9:w.cell? (Ad L 9)=some (.slice (some (Ad R 0)) s.ah.length cap):=h.dL rfl;have c17:w.cell? (Ad L 17)=some (Im (s.turn:Int)):=h.dL rfl;have Au:Hid (∀n,Calls prog 121 #[.slice (some (Ad w.heap.size 0)) 2 2] ((w.drewN n).alloc (.cells #[.slice ua s.aP.length uc,.slice fa s.aG.length fc] 155)) fun e w'=>e=.returned (oD pk (KQ (s.aP++s.aG)))/\w.grownBy w' none):=fun n=>by
  have hg:w.grownBy ((w.drewN n).alloc (.cells #[.slice ua s.aP.length uc,.slice fa s.aG.length fc] 155)) none:=(dh w n).trans (World.grownBy_alloc _ _ none);have h2:=h.grow hg;have k1:=(h2.own (t:=2) (by omega) h2.aU.aG h2.ok.aG (by have:=hs.aG;omega)).read;have k2:=(h2.own (t:=3) (by omega) h2.aU.aP h2.ok.aP (by have:=hs.aP;omega)).read;rw[hfv]at k1;rw[huv]at k2;have hb:=heap_alloc_new (w.drewN n) (.cells #[.slice ua s.aP.length uc,.slice fa s.aG.length fc] 155);have hle:=adI (pk:=pk) (w:=(w.drewN n).alloc (.cells #[.slice ua s.aP.length uc,.slice fa s.aG.length fc] 155)) (b:=w.heap.size) [(.slice ua s.aP.length uc,s.aP),(.slice fa s.aG.length fc,s.aG)] (by simp) (fun k x hk=>by
   match k,hk with
   |0,hk=>cases hk;exact⟨aA hb,k2,by have:=hs.aP;show s.aP.length<=_;omega⟩
   |1,hk=>cases hk;exact⟨aA hb,k1,by have:=hs.aG;show s.aG.length<=_;omega⟩
   |k+2,hk=>simp at hk)
  refine hle.mono ?_
  .rintro e w' ⟨e1,m,e2⟩;refine⟨?_,by rw[e2];exact hg.trans (dh _ m)⟩;rw[e1];simp
   rfl
 have AB:Hid (∀q,KQ (s.aP++s.aG)=some q->∀y,w.grownBy y none->Calls prog 120 #[Pt L 0,Pt (pk q) 0,Pt R (s.turn * 8)] y fun e w'=>e=.returned (.tuple #[])/\∃tag' ρ',bg w' tag' L R pk cv cap ρ' (s.send q s.turn)/\Lf w tag w' tag'):=fun q hq y hy=>by
  have mM:q<s.all.length:=by
   rcases Hz (s.aP++s.aG) none q hq with k|k
   .cases k
   .rcases List.mem_append.1 k with k|k
    .exact h.ok.aP q k
    .exact h.ok.aG q k
  refine(VJ (h.grow hy) hs h.ok.turn mM).mono ?_;rintro e w' ⟨k1,tag',ρ',k2,k3⟩;exact⟨k1,tag',ρ',k2,(Lf.grown hy).trans k3⟩
 have Jf:Hid (∀y,w.grownBy y none->y.cell? (Ad L 9)=some (.slice (some (Ad R 0)) s.ah.length cap)/\y.cell? (Ad L 17)=some (Im (s.turn:Int))/\bg y tag L R pk cv cap ρ s):=fun y hy=>⟨(h.grow hy).dL rfl,(h.grow hy).dL rfl,h.grow hy⟩;have HT:Hid (∀q W t1 ρ1,bg W t1 L R pk cv cap ρ1 (s.send q s.turn)->W.cell? (Ad L 9)=some (.slice (some (Ad R 0)) s.ah.length cap)/\W.cell? (Ad L 17)=some (Im (s.turn:Int))/\(∀j,W.frozen? (Ad L j)=false)/\bg (W.setCell (Ad L 17) (Im (((s.turn+1)%s.ah.length:Nat):Int))) t1 L R pk cv cap ρ1 {s.send q s.turn with turn:=(s.turn+1)%s.ah.length}/\Lf W t1 (W.setCell (Ad L 17) (Im (((s.turn+1)%s.ah.length:Nat):Int))) t1):=fun q W t1 ρ1 h1=>by
  have hlen:(s.send q s.turn).ah.length=s.ah.length:=List.length_set;have htl:=h.ok.turn;obtain⟨z1,z2⟩:=h1.dF (j:=17) (u:=Im (((s.turn+1)%s.ah.length:Nat):Int)) (by have:=rZ cv (.slice (some (Ad R 0)) (s.send q s.turn).ah.length cap) (ρ1 2).2.1 (ρ1 3).2.1 (ρ1 4).2.1 (s.send q s.turn);omega) (s':={s.send q s.turn with turn:=(s.turn+1)%s.ah.length}) ⟨h1.aU.aG,h1.aU.aP,h1.aU.aJ,h1.aU.aT,h1.aU.aX,h1.aU.aQ⟩ ⟨h1.ok.aG,h1.ok.aP,h1.ok.aJ,h1.ok.aQ,h1.ok.kept,by show(s.turn+1)%s.ah.length<(s.send q s.turn).ah.length;rw[hlen];exact Nat.mod_lt _ (by omega),h1.ok.ah⟩ rfl rfl rfl;refine⟨?_,h1.dL rfl,h1.fz L h1.fO,z1,z2⟩;have:=h1.dL (j:=9) rfl;rw[hlen]at this;exact this
 have htl:=h.ok.turn;have hr4:=h.ok.ah;clear h hof hou hfv huv hs;unfold aO.mD;cases hq:KQ (s.aP++s.aG)with
 |none=>
  rw[hq]at Au;simp only[oD]at Au;clear hq AB HT;go_enter func77,ntmps77;go_wp2_with fail;refine fC 8 (by kernel_rfl) (by kernel_rfl) ?_;simp only[List.take_succ_cons,List.take_zero,List.drop_succ_cons,List.drop_zero];repeat (go_big_quiet_step (fail))
  refine wpQuiet_nil ?_;intro _ hw';obtain⟨n2,hw''⟩:=hw';subst hw'';go_wp2_with fail;refine(Au.out _).mono ?_;rintro e w1 ⟨rfl,g1⟩;obtain⟨_,_,k3⟩:=Jf.out w1 g1;have HK:=bC (And.intro k3 (Lf.grown (tag:=tag) g1));clear k3 g1 Au Jf;go_wp2_with fail;exact bodyPost_ret (v:=.tuple #[]) (by simp[results,Tryz.results77,go_sem]) rfl ⟨rfl,tag,ρ,HK.out⟩
 |some q=>
  rw[hq]at Au;simp only[oD,ptr]at Au;have sS:=bC (AB.out q hq);clear hq AB;have j0:(0:Int)<=(s.turn:Int):=by omega
  have j1:(s.turn:Int)<(s.ah.length:Int):=by omega
  go_enter func77,ntmps77;go_wp2_with fail;refine fC 8 (by kernel_rfl) (by kernel_rfl) ?_;simp only[List.take_succ_cons,List.take_zero,List.drop_succ_cons,List.drop_zero];repeat (go_big_quiet_step (fail))
  refine wpQuiet_nil ?_;intro _ hw';obtain⟨n2,hw''⟩:=hw';subst hw'';go_wp2_with fail;refine(Au.out _).mono ?_;rintro e w1 ⟨rfl,g1⟩;obtain⟨k1,k2,_⟩:=Jf.out w1 g1;have BP:=bC (fun n=>sS.out (w1.drewN n) (g1.trans (dh w1 n)));clear g1 Au Jf sS;go_wp2_with fail;refine fC 12 (by kernel_rfl) (by kernel_rfl) ?_;simp only[List.take_succ_cons,List.take_zero,List.drop_succ_cons,List.drop_zero];repeat (go_big_quiet_step (fail))
  refine wpQuiet_nil ?_;intro _ hw';obtain⟨n3,hw''⟩:=hw';subst hw'';go_wp2_with fail;refine(BP.out _).mono ?_;rintro e w4 ⟨rfl,t4,ρ4,h4,f4⟩;obtain⟨q1,q2,q3,q4,q5⟩:=HT.out q w4 t4 ρ4 h4;have e9:(((s.turn+1)%s.ah.length:Nat):Int)=((s.turn:Int)+1)%(s.ah.length:Int):=by rw[Int.natCast_emod];rfl
  rw[e9]at q4 q5;have HK:Hid (∀n,bg ((w4.setCell (Ad L 17) (Im (((s.turn:Int)+1)%(s.ah.length:Int)))).drewN n) t4 L R pk cv cap ρ4 {s.send q s.turn with turn:=(s.turn+1)%s.ah.length}/\Lf w tag ((w4.setCell (Ad L 17) (Im (((s.turn:Int)+1)%(s.ah.length:Int)))).drewN n) t4):=fun n=>⟨q4.grow (dh _ n),(f4.trans q5).trans (Lf.grown (dh _ n))⟩;clear h4 f4 q4 q5 BP HT e9;go_wp2_with fail;refine fC 16 (by kernel_rfl) (by kernel_rfl) ?_;simp only[List.take_succ_cons,List.take_zero,List.drop_succ_cons,List.drop_zero];repeat (go_big_quiet_step (fail))
  refine wpQuiet_nil ?_;intro _ hw';obtain⟨n5,hw''⟩:=hw';subst hw'';go_wp2_with fail;go_end0;exact⟨rfl,t4,ρ4,HK.out _⟩
def qM(l:List Lr)(n k:Nat):List Lr:=(l.take k).map (fun r=>r.fD n)++l.drop k
theorem Sm(l:List Lr)(n k:Nat):(qM l n k).length=l.length:=by
 unfold qM;rw[List.length_append,List.length_map,<-List.length_append,List.take_append_drop]
theorem Zu{l:List Lr}{n k:Nat}(hk:k<l.length):(qM l n k)[k]? =some l[k]:=by
 unfold qM;rw[List.getElem?_append_right (by simp;omega)];simp;have:k-min k l.length=0:=by omega
 rw[this];simp
theorem Zv{l:List Lr}{n k:Nat}(hk:k<l.length):(qM l n k).set k (l[k].fD n)=qM l n (k+1):=by
 refine List.ext_getElem? fun j=>?_;by_cases hj:j=k
 .subst hj;rw[List.getElem?_set_self (by rw[Sm];exact hk)];unfold qM;rw[List.getElem?_append_left (by simp;omega)];simp[hk]
 .rw[List.getElem?_set_ne (fun e=>hj e.symm)];unfold qM;rcases Nat.lt_or_ge j k with h|h
  .rw[List.getElem?_append_left (by simp;omega),List.getElem?_append_left (by simp;omega)];simp[h,Nat.lt_succ_of_lt h]
  .rw[List.getElem?_append_right (by simp;omega),List.getElem?_append_right (by simp;omega)];simp only[List.length_map,List.length_take,List.getElem?_drop]
   congr 1
   omega
theorem Zt(l:List Lr)(n:Nat):qM l n l.length=l.map fun r=>r.fD n:=by simp[qM]
theorem Zw(l:List Lr)(n:Nat):qM l n 0=l:=by simp[qM]
theorem Zx(h:bg w tag L R pk cv cap ρ s)(hs:Small s)(n:Nat):Calls prog 80 #[Pt L 0,Im (n:Int)] w fun e w'=>e=.returned (.tuple #[])/\∃tag' ρ',bg w' tag' L R pk cv cap ρ' (s.fD n)/\Lf w tag w' tag':=by
 have fz:=h.fz L h.fO;have c11:w.cell? (Ad L 11)=some (Im (s.dA:Int)):=h.dL rfl;obtain⟨h1,f1⟩:=h.dF (j:=11) (u:=Im (n:Int)) (by have:=rZ cv (.slice (some (Ad R 0)) s.ah.length cap) (ρ 2).2.1 (ρ 3).2.1 (ρ 4).2.1 s;omega) (s':={s with dA:=n}) ⟨h.aU.aG,h.aU.aP,h.aU.aJ,h.aU.aT,h.aU.aX,h.aU.aQ⟩ ⟨h.ok.aG,h.ok.aP,h.ok.aJ,h.ok.aQ,h.ok.kept,h.ok.turn,h.ok.ah⟩ rfl rfl rfl;have hou:=h1.own (t:=3) (by omega) h1.aU.aP h1.ok.aP (by have:=hs.aP;show s.aP.length<=_;omega);obtain⟨ua,uc,huv⟩:=fJ hou.row;have c14:w.cell? (Ad L 14)=some (.slice ua s.aP.length uc):=by rw[<-huv];exact h.dL rfl
 have HF:Hid (Calls prog 122 #[.slice ua s.aP.length uc,Im (n:Int)] (w.setCell (Ad L 11) (Im (n:Int))) fun e w1=>∃va vn vc,e=.returned (.slice va vn vc)/\(∃x,w1.cell? (Ad L 14)=some x)/\(∀j,w1.frozen? (Ad L j)=false)/\(∃xa xn xc,w1.cell? (Ad L 15)=some (.slice xa xn xc))/\∃t1 ρ1,bg (w1.setCell (Ad L 14) (.slice va vn vc)) t1 L R pk cv cap ρ1 {s with dA:=n,aP:=eY s.aP n}/\Lf w tag (w1.setCell (Ad L 14) (.slice va vn vc)) t1):=by
  rw[<-huv];refine(Ob hou n).mono ?_;rintro e w1 ⟨u,q1,q2,q3,q4⟩;obtain⟨va,vc,rfl⟩:=fJ q2;obtain⟨t1,ρ1,z1,z2,z3,z4⟩:=h1.Xg q3 q2 (fun g hg=>Or.inl (q4 g hg)) (fun x hx=>h1.ok.aP x (List.mem_filter.1 hx).1);have hoa:=h1.own (t:=4) (by omega) h1.aU.aJ h1.ok.aJ (by have:=hs.aJ;show s.aJ.length<=_;omega);obtain⟨xa,xc,hxv⟩:=fJ hoa.row;refine⟨va,_,vc,q1,z3,z4,⟨xa,s.aJ.length,xc,?_⟩,t1,ρ1,z1,f1.trans z2⟩;rw[World.cell?_of_block (h1.apart (t:=3) (by omega) q3 h1.fO),<-hxv];exact h1.dL rfl
 have HF2:Hid (∀W t1 ρ1 xa xn xc,bg W t1 L R pk cv cap ρ1 {s with dA:=n,aP:=eY s.aP n}->Lf w tag W t1->W.cell? (Ad L 15)=some (.slice xa xn xc)->Calls prog 122 #[.slice xa xn xc,Im (n:Int)] W fun e w1=>∃va vn vc,e=.returned (.slice va vn vc)/\(∃x,w1.cell? (Ad L 15)=some x)/\(∀j,w1.frozen? (Ad L j)=false)/\w1.cell? (Ad L 9)=some (.slice (some (Ad R 0)) s.ah.length cap)/\∃t1 ρ1,bg (w1.setCell (Ad L 15) (.slice va vn vc)) t1 L R pk cv cap ρ1 {s with dA:=n,aP:=eY s.aP n,aJ:=eY s.aJ n}/\Lf w tag (w1.setCell (Ad L 15) (.slice va vn vc)) t1):=fun W t1 ρ1 xa xn xc k1 k2 k3=>by
  have hoa:=k1.own (t:=4) (by omega) k1.aU.aJ k1.ok.aJ (by have:=hs.aJ;show s.aJ.length<=_;omega);have e0:w.cell? (Ad L 11)=w.cell? (Ad L 11):=rfl;have e1:=(k1.dL (j:=15) rfl).symm.trans k3;rw[<-Option.some.inj e1];refine(Ob hoa n).mono ?_;rintro e w1 ⟨u,q1,q2,q3,q4⟩;obtain⟨va,vc,rfl⟩:=fJ q2;obtain⟨t2,ρ2,z1,z2,z3,z4,_⟩:=k1.Qb q3 q2 (fun g hg=>Or.inl (q4 g hg)) (fun x hx=>k1.ok.aJ x (List.mem_filter.1 hx).1);refine⟨va,_,vc,q1,z3,z4,?_,t2,ρ2,z1,k2.trans z2⟩;rw[World.cell?_of_block (k1.apart (t:=4) (by omega) q3 k1.fO)];exact k1.dL rfl
 have hr4:=h.ok.ah;have HL:Hid (∀W t1 ρ1 k,k<s.ah.length->bg W t1 L R pk cv cap ρ1 {s with dA:=n,aP:=eY s.aP n,aJ:=eY s.aJ n,ah:=qM s.ah n k}->Lf w tag W t1->W.cell? (Ad L 9)=some (.slice (some (Ad R 0)) s.ah.length cap)/\Calls prog 123 #[Pt R (k * 8),Im (n:Int)] W fun e w'=>e=.returned (.tuple #[])/\∃tag' ρ',bg w' tag' L R pk cv cap ρ' {s with dA:=n,aP:=eY s.aP n,aJ:=eY s.aJ n,ah:=qM s.ah n (k+1)}/\Lf w tag w' tag'):=fun W t1 ρ1 k hk k1 k2=>by
  refine⟨?_,?_⟩
  .have:=k1.dL (j:=9) rfl;rw[show({s with dA:=n,aP:=eY s.aP n,aJ:=eY s.aJ n,ah:=qM s.ah n k}:aO).ah.length=s.ah.length from Sm _ _ _]at this;exact this
  .refine(adD k1 (i:=k) (r:=s.ah[k]) (Zu hk) (by have:=(hs.aK k s.ah[k] (by simp)).2.2.1;omega) n).mono ?_;rintro e w' ⟨e1,t2,ρ2,z1,z2⟩;refine⟨e1,t2,ρ2,?_,k2.trans z2⟩;rw[<-Zv hk];exact z1
 have HC:Hid (∀W t1 ρ1,bg W t1 L R pk cv cap ρ1 {s with dA:=n,aP:=eY s.aP n,aJ:=eY s.aJ n,ah:=qM s.ah n s.ah.length}->Lf w tag W t1->Calls prog 124 #[Pt L 16] W fun e w'=>e=.returned (.tuple #[])/\∃tag' ρ',bg w' tag' L R pk cv cap ρ' (s.fD n)/\Lf w tag w' tag'):=fun W t1 ρ1 k1 k2=>by
  refine(aaJ k1).mono ?_;rintro e w' ⟨e1,z1,z2⟩;refine⟨e1,t1,ρ1,?_,k2.trans z2⟩;rw[Zt]at z1;exact z1
 clear h h1 f1 hou huv hs;go_enter func80,ntmps80;go_wp2_with fail;refine HF.out.mono ?_;rintro e w1 ⟨va,vn,vc,rfl,⟨x1,p1⟩,p2,⟨xa,xn,xc,p3⟩,t1,ρ1,p4,p5⟩;have HF3:=bC (HF2.out _ t1 ρ1 xa xn xc p4 p5 (by rw[World.cell?_setCell_other _ _ _ _ (by intro e;have:=congrArg Addr.off e;simp at this)];exact p3));clear p4 p5 HF HF2;go_wp2_with fail;refine HF3.out.mono ?_;rintro e w3 ⟨ya,yn,yc,rfl,⟨x3,p6⟩,p7,p8,t3,ρ3,p9,p10⟩;have HS:Hid (∃t3 ρ3,bg (w3.setCell (Ad L 15) (.slice ya yn yc)) t3 L R pk cv cap ρ3 {s with dA:=n,aP:=eY s.aP n,aJ:=eY s.aJ n}/\Lf w tag (w3.setCell (Ad L 15) (.slice ya yn yc)) t3):=⟨t3,ρ3,p9,p10⟩;clear p9 p10 HF3 p1 p2 p3 c14 c11;go_wp2_with fail;go_loopg [32] (s.ah.length+1) (fun gg i wr=>Hid (∃(k:Nat)(t1:Nat->Nat)(ρ1:bW),k+gg=s.ah.length+1/\k<=s.ah.length/\i=Im k/\bg wr t1 L R pk cv cap ρ1 {s with dA:=n,aP:=eY s.aP n,aJ:=eY s.aJ n,ah:=qM s.ah n k}/\Lf w tag wr t1))
 case atStart=>
  obtain⟨t3,ρ3,z1,z2⟩:=HS.out;exact⟨0,t3,ρ3,by omega,Nat.zero_le _,rfl,by rw[Zw];exact z1,z2⟩
 case round=>
  obtain⟨k,t4,ρ4,hk1,hk2,rfl,z1,z2⟩:=hrel.out;clear hrel HS;by_cases hlt:k<s.ah.length
  .have d1:decide ((k:Int)<(s.ah.length:Int))=true:=decide_eq_true (by omega);have i0:(0:Int)<=(k:Int):=by omega
   have i1:(k:Int)<(s.ah.length:Int):=by omega
   obtain⟨y1,y2⟩:=HL.out _ t4 ρ4 k hlt z1 z2;have HY:=bC y2;obtain⟨g',hg'⟩:∃g',gk=g'+1:=⟨gk-1,by omega⟩;clear z1 z2 y2 HL HC;go_wp2_with fail;refine HY.out.mono ?_;rintro e w5 ⟨rfl,t5,ρ5,q1,q2⟩;have HQ:=bC (And.intro q1 q2);clear q1 q2 HY;go_wp2_with fail;go_roundg g'
   case measure=>omega
   case rel=>exact⟨k+1,t5,ρ5,by omega,by omega,by go_num,HQ.out.1,HQ.out.2⟩
  .have hkl:k=s.ah.length:=by omega
   subst hkl;have d1:decide ((s.ah.length:Int)<(s.ah.length:Int))=false:=decide_eq_false (by omega);have HY:=bC (HC.out _ t4 ρ4 z1 z2);clear z1 z2 HL HC;go_wp2_with fail;refine HY.out.mono ?_;rintro e w5 ⟨rfl,q1⟩;have HQ:=bC q1;clear q1 HY;go_wp2_with fail;go_end0;exact⟨rfl,HQ.out⟩
end
end
section
open Go.RowKit Go.Shelf Hx
attribute [local go_sem ↓] Go.wp_at_zero Go.wp_at_succ
section
variable {w w':World}{pk:Nat->Nat}{v:Value}{l:List Nat}
theorem adp(x:Int)(w:World):Calls prog 229 #[Im x] w fun e w'=>e=.returned (.bool false)/\w'=w:=by
 go_enter func229,ntmps229;go_wp2_with fail;go_ret;exact⟨rfl,rfl⟩
def Ep(x y:Int):Int:=if x<y then -1 else if y<x then 1 else 0
theorem aaZ(x y:Int)(w:World):Calls prog 204 #[Im x,Im y] w fun e w'=>e=.returned (Im (Ep x y))/\w'=w:=by
 have H:=fun x=>bC (adp x w);unfold Ep;by_cases h1:x<y
 .rw[if_pos h1];have d1:decide (x<y)=true:=decide_eq_true h1;go_enter func204,ntmps204;go_wp2_with fail;refine(H x).out.mono ?_;rintro e w1 ⟨rfl,rfl⟩;go_wp2_with fail;refine(H y).out.mono ?_;rintro e w1 ⟨rfl,rfl⟩;go_wp2_with fail;go_ret;exact⟨rfl,rfl⟩
 .rw[if_neg h1];have d1:decide (x<y)=false:=decide_eq_false h1;by_cases h2:y<x
  .rw[if_pos h2];have d2:decide (y<x)=true:=decide_eq_true h2;go_enter func204,ntmps204;go_wp2_with fail;refine(H x).out.mono ?_;rintro e w1 ⟨rfl,rfl⟩;go_wp2_with fail;refine(H y).out.mono ?_;rintro e w1 ⟨rfl,rfl⟩;go_wp2_with fail;go_ret;exact⟨rfl,rfl⟩
  .rw[if_neg h2];have d2:decide (y<x)=false:=decide_eq_false h2;go_enter func204,ntmps204;go_wp2_with fail;refine(H x).out.mono ?_;rintro e w1 ⟨rfl,rfl⟩;go_wp2_with fail;refine(H y).out.mono ?_;rintro e w1 ⟨rfl,rfl⟩;go_wp2_with fail;go_ret;exact⟨rfl,rfl⟩
theorem ah5{p q:Nat}{x y:Int}(hp:w.cell? (Ad p 0)=some (Im x))(hq:w.cell? (Ad q 0)=some (Im y)):Calls prog 203 #[Pt p 0,Pt q 0] w fun e w'=>e=.returned (Im (Ep x y))/\∃n,w'=w.drewN n:=by
 have H:=bC (fun w=>aaZ x y w);generalize Ep x y=r at *;go_enter func203,ntmps203;go_wp2_with fail;go_quiet ((go_at_call 204;exact Calls.quiet_of_same (H.out _)));go_wp2_with fail;go_ret;exact⟨rfl,_,rfl⟩
abbrev Eb(w:World)(pk:Nat->Nat)(g:Nat):Type:={q:Nat//w.cell? (Ad (pk q) 0)=some (Im (q:Int))/\pk q≠g}
def Eu(w:World)(pk:Nat->Nat)(g:Nat)(x:Eb w pk g):Value:=ptr pk x.1
def yE(w:World)(pk:Nat->Nat)(g:Nat)(x y:Eb w pk g):Int:=Ep x.1 y.1
def oZ(l:List Nat):List Nat:=l.mergeSort fun x y=>decide (x<=y)
theorem Ic{g:Nat}(x y:Eb w pk g):ltOf (yE w pk g) x y=decide (x.1<y.1):=by
 unfold ltOf yE Ep;by_cases h1:x.1<y.1
 .rw[if_pos (by omega),decide_eq_true h1];rfl
 .rw[if_neg (by omega),decide_eq_false h1];by_cases h2:y.1<x.1
  .rw[if_pos (by omega)];rfl
  .rw[if_neg (by omega)];rfl
theorem QB{g:Nat}:Go.Sort.SWO (ltOf (yE w pk g)) where
 irrefl x:=by rw[Ic];simp
 trans x y z h1 h2:=by rw[Ic]at *;simp at *;omega
 ntrans x y z h1 h2:=by rw[Ic]at *;simp at *;omega
theorem Us{α:Type}[Inhabited α](enc:α->Value)(w:World)(g n:Nat)(d:Array α)(os:Array Obj):w.grownBy (sortWorld enc w g 0 n d os) (some g):=by
 refine⟨rfl,rfl,rfl,?_,fun k hk hne=>?_⟩
 .show w.heap.size<=((w.heap.modify g _)++os).size;simp
 .show((w.heap.modify g _)++os)[k]? =w.heap[k]?;rw[Array.getElem?_append_left (by simpa using hk),Array.getElem?_modify,if_neg (fun e=>hne (by rw[e]))]
theorem abZ{α:Type}[Inhabited α](enc:α->Value)(w:World)(g n:Nat)(d:Array α)(os:Array Obj)(cur:Array Value)(T:TypeId)(fr:Nat×Nat)(h:w.heap[g]? =some (.cells cur T fr)):(sortWorld enc w g 0 n d os).heap[g]? =some (.cells (Go.Sort.putCells enc 0 d cur) T fr):=by
 show((w.heap.modify g _)++os)[g]? =_;have hg:=(Array.getElem?_eq_some_iff.1 h).1;rw[Array.getElem?_append_left (by simpa using hg),Array.getElem?_modify,if_pos rfl,h]
 rfl
theorem WV{g:Nat}:∀(l:List Nat),(∀q∈l,w.cell? (Ad (pk q) 0)=some (Im (q:Int))/\pk q≠g)->∃dl:List (Eb w pk g),dl.map (fun x=>x.1)=l
 |[],_=>⟨[],rfl⟩
 |q::l,h=>by
  obtain⟨dl,hd⟩:=WV l fun x hx=>h x (List.mem_cons_of_mem _ hx);exact⟨⟨q,h q List.mem_cons_self⟩::dl,by rw[List.map_cons,hd]⟩
theorem ah6(h:uz w pk v l):Calls prog 202 #[v,.func (.func 203) #[] #[]] w fun e w'=>e=.returned (.tuple #[])/\w'.ownsRow 0 163 1 v l.length (dD pk (oZ l))/\w.grownBy w' v.ownBlock:=by
 obtain⟨va,vc,hv⟩:=fJ h.row;have Ox:=h.len;have wr:IntKind.u64.wrap (l.length:Int)=l.length:=by simp[IntKind.wrap,IntKind.bits,IntKind.signed];omega
 have HL:Hid (Calls prog 228 #[.int .u64 (l.length:Int)] w fun e w'=>e=.returned (Im (Lib.bitLen l.length:Nat))/\w'=w):=by
  have h:=Any.bits_Len Tryz.lays125 (l.length:Int) w (by omega) (by omega);rw[Int.toNat_natCast]at h;exact h
 have HP:Hid (Calls prog 227 #[v,Im 0,Im (l.length:Int),Im (Lib.bitLen l.length:Nat),.func (.func 203) #[] #[]] w fun e w'=>e=.returned (.tuple #[])/\w'.ownsRow 0 163 1 v l.length (dD pk (oZ l))/\w.grownBy w' v.ownBlock):=by
  by_cases hl0:l=[]
  .subst hl0;have hp:=AnyF.pdqsortCmpFunc_none (P:=prog) (ρ:=Tryz.laysSlF14_ren) {Tryz.laysSlF14 with} va vc (Lib.bitLen 0:Nat) (.func (.func 203) #[] #[]) w;rw[hv];refine hp.mono ?_;rintro e w' ⟨e1,rfl⟩;refine⟨e1,?_,World.grownBy.refl _ _⟩;rw[<-hv];have:oZ []=[]:=by simp[oZ]
   rw[this];exact h.row
  .rcases h.row with⟨h1,⟨h2,h3⟩|⟨g,cap,cur,h2,h3,h4,h5,h6,h7,h8⟩⟩
   .exact absurd (List.length_eq_zero_iff.1 h3) hl0
   .have hE:∀q∈l,w.cell? (Ad (pk q) 0)=some (Im (q:Int))/\pk q≠g:=fun q hq=>⟨h.mg q hq,fun e=>h.ne q hq (by rw[h2,e];rfl)⟩;obtain⟨q0,l0,hq0⟩:∃q0 l0,l=q0::l0:=by cases l with|nil=>exact absurd rfl hl0|cons a b=>exact⟨a,b,rfl⟩
    letI:Inhabited (Eb w pk g):=⟨⟨q0,hE q0 (by rw[hq0];simp)⟩⟩
    have ach:=(Array.getElem?_eq_some_iff.1 h4).1;obtain⟨dl,hdl⟩:∃dl:List (Eb w pk g),dl.map (fun x=>x.1)=l:=WV l hE;have hlen:dl.length=l.length:=by rw[<-hdl,List.length_map]
    have hget:∀j,j<l.length->Eu w pk g dl.toArray[j]! =ptr pk (l.getD j 0):=fun j hj=>by
     have hj2:j<dl.length:=by omega
     rw[getElem!_pos dl.toArray j (by simpa using hj2)];have:l[j]? =some (dl[j].1):=by rw[<-hdl,List.getElem?_map,List.getElem?_eq_getElem hj2];rfl
     rw[List.getD_eq_getElem?_getD,this];simp[Eu]
    have hH:Go.Sort.Holds (Eu w pk g) w g 0 dl.toArray:=fun j hj=>by
     have hj2:j<l.length:=by rw[<-hlen];simpa using hj
     refine⟨?_,eu h4⟩;rw[Nat.zero_add,aA h4,hget j hj2];have e1:(dD pk l)[j]? =some (ptr pk (l.getD j 0)):=by rw[dD,List.getElem?_map,List.getD_eq_getElem?_getD,List.getElem?_eq_getElem hj2];rfl
     rw[<-h8,Nat.mul_one,List.getElem?_take_of_lt hj2]at e1;simpa using e1
    have hcmp:CmpLays1 prog 203 #[] (Eu w pk g) (yE w pk g) g 0 dl.toArray.size w:=CmpReads.lays fun m os dk hs x y=>by
     have hg:=Us (Eu w pk g) w g m dk os;exact ah5 (hg.cell x.2.1 (fun e=>x.2.2 (Option.some.inj e))) (hg.cell y.2.1 (fun e=>y.2.2 (Option.some.inj e)))
    have hds:dl.toArray.size=l.length:=by simpa using hlen
    have hlim:Lib.bitLen dl.toArray.size<4611686018427387904:=Nat.lt_of_le_of_lt (Lib.bitLen_le dl.toArray.size 62 (by omega) (by omega)) (by omega);have hp:=Any.pdqsortCmpFunc_all (P:=prog) (ρ:=Tryz.laysSlF14_ren) Tryz.laysSlF14 (Eu w pk g) (yE w pk g) 203 #[] QB g 0 cap dl.toArray w (enters_of func203 (by kernel_rfl) rfl) hcmp ⟨fun _=>rfl,hH,ach⟩ (dl.toArray.size+1) 0 dl.toArray.size (Lib.bitLen dl.toArray.size) dl.toArray w (by omega) rfl (SW.start hH) (Nat.zero_le _) (Nat.le_refl _) (by omega) hlim (Or.inl rfl);have hso:=Go.Sort.pdq_sorts (ltOf (yE w pk g)) QB dl.toArray 0 dl.toArray.size (Lib.bitLen dl.toArray.size) true true (Nat.zero_le _) (Nat.le_refl _) (Or.inl rfl);have UW:=Go.Sort.sorted_unique_holds QB (fun x y hx hy=>by rw[Ic]at hx hy;simp at hx hy;exact Subtype.ext (by omega)) dl.toArray _ hso.1 hso.2;have OH:=congrArg List.toArray UW;rw[Array.toArray_toList]at OH;rw[OH]at hp;clear UW OH;rw[hds]at hp;rw[h2];refine hp.mono ?_;rintro e w' ⟨e1,n,os,rfl⟩;have hms:(dl.mergeSort fun x y=>!ltOf (yE w pk g) y x).map (fun x=>x.1)=oZ l:=by
     unfold oZ;rw[<-hdl];refine List.map_mergeSort fun a _ b _=>?_;rw[Ic];by_cases hab:b.1<a.1
     .rw[decide_eq_true hab,decide_eq_false (by omega)];rfl
     .rw[decide_eq_false hab,decide_eq_true (by omega)];rfl
    refine⟨e1,?_,Us _ _ _ _ _ _⟩;have hsl:(oZ l).length=l.length:=List.length_mergeSort _;refine⟨by rw[dD,List.length_map,hsl,Nat.mul_one],Or.inr ⟨g,cap,_,rfl,Nat.zero_le _,abZ _ _ _ _ _ _ cur _ _ h4,h5,h6,by rw[<-h7];simp[Go.Sort.putCells],?_⟩⟩;have hml:(dl.mergeSort fun x y=>!ltOf (yE w pk g) y x).length=l.length:=by rw[List.length_mergeSort];exact hlen
    refine List.ext_getElem? fun j=>?_;rcases Nat.lt_or_ge j l.length with hj|hj
    .rw[Nat.mul_one,List.getElem?_take_of_lt hj,Array.getElem?_toList];have hjc:j<cur.size:=by omega
     have hjm:j<(dl.mergeSort fun x y=>!ltOf (yE w pk g) y x).length:=by omega
     have e2:(oZ l)[j]? =some ((dl.mergeSort fun x y=>!ltOf (yE w pk g) y x)[j].1):=by rw[<-hms,List.getElem?_map,List.getElem?_eq_getElem hjm];rfl
     rw[dD,List.getElem?_map,e2];unfold Go.Sort.putCells;rw[Array.getElem?_mapIdx,Array.getElem?_eq_getElem hjc];simp only[Option.map_some];rw[if_pos (by refine⟨Nat.zero_le _,?_⟩;simp only[List.size_toArray];omega),Nat.sub_zero,getElem!_pos _ j (by simpa using hjm)]
     rfl
    .rw[Nat.mul_one,List.getElem?_take_eq_none hj,List.getElem?_eq_none (by rw[dD,List.length_map,hsl];exact hj)]
 rw[hv]at HP⊢;clear h hv;go_enter func202,ntmps202;go_wp2_with fail;refine HL.out.mono ?_;rintro e w1 ⟨rfl,rfl⟩;go_wp2_with fail;refine HP.out.mono ?_;rintro e w1 ⟨rfl,k1⟩;have HK:=bC k1;clear k1 HP;go_wp2_with fail;go_end0;exact⟨rfl,HK.out⟩
theorem ah7(h:uz w pk v l):Calls prog 159 #[v] w fun e w'=>e=.returned (.tuple #[])/\w'.ownsRow 0 163 1 v l.length (dD pk (oZ l))/\w.grownBy w' v.ownBlock:=by
 have H:=bC (ah6 h);obtain⟨va,vc,hv⟩:=fJ h.row;rw[hv]at H⊢;clear h hv;go_enter func159,ntmps159;go_wp2_with fail;refine H.out.mono ?_;rintro e w1 ⟨rfl,k1⟩;have HK:=bC k1;clear k1 H;go_wp2_with fail;go_end0;exact⟨rfl,HK.out⟩
end
end
end Go.Proofs.YthllhabjfchgiaaGreatDoor
