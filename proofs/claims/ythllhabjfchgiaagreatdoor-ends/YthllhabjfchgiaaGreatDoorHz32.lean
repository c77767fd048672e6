import Derived.Test.YthllhabjfchgiaaGreatDoorHz31
set_option maxRecDepth 100000
set_option maxHeartbeats 8000000
namespace Go.Proofs.YthllhabjfchgiaaGreatDoor
open _root_.Go.Proofs.Tryz
section
open Go.RowKit Hx
attribute [local go_sem ↓] Go.wp_at_zero Go.wp_at_succ
attribute [local go_sem] bT
section
variable {w w' w2:World}{tag:Nat->Nat}{L R cap:Nat}{pk:Nat->Nat}{cv:Value}{ρ:bW}{s:aO}
theorem OW:(prog.info? 3).map (fun i=>(i.zero,i.size,i.bytes))=some (some (Im 0),1,8):=by kernel_rfl
theorem ag4(h:bg w tag L R pk cv cap ρ s){i q:Nat}{r:Lr}{p:Lp}(hi:s.ah[i]? =some r)(hq:s.all[q]? =some p)(hl:r.aQ.length<=10000000000000)(hl2:r.aT.length<=10000000000000)(hout:r.out<=100000000000000):Calls prog 174 #[Pt R (i * 8),ptr pk q] w fun e w'=>e=.returned (.tuple #[])/\∃tag' ρ',bg w' tag' L R pk cv cap ρ' {s with all:=s.all.set q {p with on:=Af p.on i},ah:=s.ah.set i (r.send q)}/\Lf w tag w' tag':=by
 have mM:=(List.getElem?_eq_some_iff.1 hq).1;have hil:=(List.getElem?_eq_some_iff.1 hi).1;have hr4:=h.ok.ah;have hi4:i<4:=by omega
 have c0:w.cell? (Ad R (i * 8))=some (Im (i:Int)):=by have:=h.gu hi (j:=0) rfl;simpa using this
 have p2:w.cell? (Ad (pk q) 2)=some (Im p.on):=(h.mg q p hq).l9 (j:=2) rfl;have fzP:=h.fz (pk q) (h.ni q mM).1;obtain⟨ov,hov⟩:∃ov,bits BinOp.or IntKind.i64 p.on (wrap64 (2^i))=ov:=⟨_,rfl⟩;have EI:Af p.on i=ov:=hov;rw[EI];clear EI;obtain⟨a1,a2⟩:=h.ahM hq ov;have HA:Hid (∀n,bg ((w.setCell (Ad (pk q) 2) (Im ov)).drewN n) tag L R pk cv cap ρ {s with all:=s.all.set q {p with on:=ov}}/\Lf w tag ((w.setCell (Ad (pk q) 2) (Im ov)).drewN n) tag):=fun n=>⟨a1.grow (dh _ n),a2.trans (Lf.grown (dh _ n))⟩;clear a1 a2 h;have i0:(0:Int)<=(i:Int):=by omega
 obtain⟨T0,hT0,hz0,hz1,hz2⟩:=info_parts OW;obtain⟨T1,hT1,hy0,hy1,hy2⟩:=info_parts KN;have HI:=bC (And.intro hi hq);unfold ptr;go_enter func174,ntmps174;go_wp2_with fail;refine fC 13 (by kernel_rfl) (by kernel_rfl) ?_;simp only[List.take_succ_cons,List.take_zero,List.drop_succ_cons,List.drop_zero];repeat (go_big_quiet_step (fail))
 refine wpQuiet_nil ?_;intro _ hw';obtain⟨n1,hw''⟩:=hw';subst hw'';go_wp2_with fail;obtain⟨h1,f1⟩:=HA.out n1;generalize (w.setCell (Ad (pk q) 2) (Im ov)).drewN n1=W at *;clear HA c0 p2 fzP hov;have hi1:s.ah[i]? =some r:=hi;have hq1:(s.all.set q {p with on:=ov})[q]? =some {p with on:=ov}:=List.getElem?_set_self mM;have c5:W.cell? (Ad R (i * 8+5))=some (ρ (5+3 * i)).2.1:=h1.gu hi1 rfl;have p0:W.cell? (Ad (pk q) 0)=some (Im (q:Int)):=(h1.mg q _ hq1).l9 (j:=0) rfl;obtain⟨r1,r2⟩:=h1.rows.each (5+3 * i) (by omega);have t1:=h1.aU.aT i r hi1;rw[t1.1,t1.2]at r1;have r1:W.ownsRow 0 3 1 (ρ (5+3 * i)).2.1 r.aT.length (ints r.aT):=by simpa [ints]using r1
 obtain⟨va,vc,hv⟩:=fJ r1;have HO:Hid (∀o n,((W.alloc o).drewN n).ownsRow 0 3 1 (ρ (5+3 * i)).2.1 r.aT.length (ints r.aT)):=fun o n=>(r1.alloc o).kept (dh _ n) (by cases (ρ (5+3 * i)).2.1.ownBlock<;>simp);have HP:Hid (∀(o:Obj)(n:Nat)(w1:World)(g c:Nat),((W.alloc o).drewN n).grownBy w1 (ρ (5+3 * i)).2.1.ownBlock->w1.ownsRow 0 3 1 (.slice (some (Ad g 0)) (r.aT.length+1) c) (r.aT.length+1) (ints r.aT++[Im (q:Int)])->((ρ (5+3 * i)).2.1.ownBlock=some g\/g=W.heap.size+1)->
  ∃tag' ρ',bg (w1.setCell (Ad R (i * 8+5)) (.slice (some (Ad g 0)) (r.aT.length+1) c)) tag' L R pk cv cap ρ' {s with all:=s.all.set q {p with on:=ov},ah:=s.ah.set i {r with aT:=r.aT++[q]}}/\Lf w tag (w1.setCell (Ad R (i * 8+5)) (.slice (some (Ad g 0)) (r.aT.length+1) c)) tag'/\(∃x,w1.cell? (Ad R (i * 8+5))=some x)/\w1.frozen? (Ad R (i * 8+5))=false):=fun o n w1 g c hg ho hat=>by
  have gw:W.grownBy ((W.alloc o).drewN n) none:=(World.grownBy_alloc W o none).trans (dh _ n);have h2:=h1.grow gw;have e1:ints r.aT++[Im (q:Int)]=ints (r.aT++[q]):=by simp[ints]
  rw[e1]at ho;have hp:=h2.IC (i:=i) (d:=0) (r:=r) (r':={r with aT:=r.aT++[q]}) (T:=3) (u:=.slice (some (Ad g 0)) (r.aT.length+1) c) (us:=ints (r.aT++[q])) (w':=w1) hi1 (by omega) hg (by simpa [ints]using ho) (fun k hk=>by
   simp only[Value.ownBlock,Option.some.injEq]at hk;subst hk;exact hat.imp id (fun e=>by show(W.alloc o).heap.size<=_;rw[kK];omega))
   (by rw[Nat.add_zero,bW.pY];exact⟨rfl,rfl⟩) (by rw[bW.eU _ _ (by omega)];exact h1.aU.aX i r hi1) (by rw[bW.eU _ _ (by omega)];exact h1.aU.aQ i r hi1)
   (fun x hx=>h1.ok.aQ i r hi1 x hx) (by rw[Nat.add_zero,bW.pY,bW.eU _ _ (by omega),bW.eU _ _ (by omega)];rfl)
  obtain⟨z1,z2,z3,z4⟩:=hp;exact⟨_,_,z1,f1.trans ((Lf.grown gw).trans z2),z3,z4⟩
 have nP:pk q<W.heap.size:=h1.nH (by rw[(h1.ni q (by simpa using mM)).1];decide);have nR:R<W.heap.size:=h1.nH (by rw[h1.lM];decide);have n5:¬pk q=W.heap.size:=by omega
 have n6:¬R=W.heap.size:=by omega
 rw[hv]at c5 HO HP;clear h1 f1 r1 r2 t1 hv hi1 hq1;go_region_law ((refine step_append_lies _ (by rfl) _ _ _ (by rfl) 0 3 T0 _ 1 8 Tryz.underlying91 hT0 hz0 hz1 hz2 (by rfl) (by omega) (.slice va r.aT.length vc) r.aT.length (ints r.aT) (by rfl) (HO.out _ 1) (Ad W.heap.size 0) 1 1 [Im (q:Int)] (by rfl) (by rfl) (World.news_of_block (cs:=#[Im (q:Int)]) (t:=3) (fr:=(0,0)) (heap_alloc_new W _)) (by simp[Value.oneCell']) (by omega) (by unfold maxLen;omega) (by omega) (by simp) (W.heap.size+1) (by simp) ?_;intro gg cap1 w3 hown1 hgrow hat hlt;obtain⟨u12,Hg⟩:=(HP.out _ 1 _ _ _ hgrow hown1 hat).choose_spec.choose_spec.2.2.1;have G6:=(HP.out _ 1 _ _ _ hgrow hown1 hat).choose_spec.choose_spec.2.2.2));all_goals
  obtain⟨y9,ρ1,h3,f3,_,_⟩:=HP.out _ 1 _ _ _ hgrow hown1 hat;clear HP HO hown1 hgrow hat Hg G6 c5 p0;generalize w3.setCell (Ad R (i * 8+5)) (.slice (some (Ad gg 0)) (r.aT.length+1) cap1)=W3 at *;have hi3:(s.ah.set i {r with aT:=r.aT++[q]})[i]? =some {r with aT:=r.aT++[q]}:=Fq HI.out.1;have c7:W3.cell? (Ad R (i * 8+7))=some (ρ1 (7+3 * i)).2.1:=h3.gu hi3 rfl;obtain⟨r1,r2⟩:=h3.rows.each (7+3 * i) (by omega);have t1:=h3.aU.aQ i _ hi3;rw[t1.1,t1.2]at r1;have r1:W3.ownsRow 0 163 1 (ρ1 (7+3 * i)).2.1 r.aQ.length (dD pk r.aQ):=by simpa [dD]using r1
  obtain⟨QU,QV,hv3⟩:=fJ r1;have D9:Hid (∀o,(W3.alloc o).ownsRow 0 163 1 (ρ1 (7+3 * i)).2.1 r.aQ.length (dD pk r.aQ)):=fun o=>r1.alloc o;have dG:Hid (∀(o:Obj)(w1:World)(g c:Nat),(W3.alloc o).grownBy w1 (ρ1 (7+3 * i)).2.1.ownBlock->w1.ownsRow 0 163 1 (.slice (some (Ad g 0)) (r.aQ.length+1) c) (r.aQ.length+1) (dD pk r.aQ++[ptr pk q])->((ρ1 (7+3 * i)).2.1.ownBlock=some g\/g=W3.heap.size+1)->
   ∃tag' ρ',bg (w1.setCell (Ad R (i * 8+7)) (.slice (some (Ad g 0)) (r.aQ.length+1) c)) tag' L R pk cv cap ρ' {s with all:=s.all.set q {p with on:=ov},ah:=s.ah.set i {r with aT:=r.aT++[q],aQ:=r.aQ++[q]}}/\Lf w tag (w1.setCell (Ad R (i * 8+7)) (.slice (some (Ad g 0)) (r.aQ.length+1) c)) tag'/\(∃x,w1.cell? (Ad R (i * 8+7))=some x)/\(∀j,w1.frozen? (Ad R j)=false)/\w1.cell? (Ad R (i * 8+3))=some (Im (r.out:Int))):=fun o w1 g c hg ho hat=>by
   have e7:5+3 * i+2=7+3 * i:=by omega
   have gw:=World.grownBy_alloc W3 o none;have h4:=h3.grow gw;have e1:dD pk r.aQ++[ptr pk q]=dD pk (r.aQ++[q]):=by simp[dD]
   rw[e1]at ho;have hp:=h4.IC (i:=i) (d:=2) (r:={r with aT:=r.aT++[q]}) (r':={r with aT:=r.aT++[q],aQ:=r.aQ++[q]}) (T:=163) (u:=.slice (some (Ad g 0)) (r.aQ.length+1) c) (us:=dD pk (r.aQ++[q])) (w':=w1) hi3 (by omega) (by rw[e7];exact hg) (by simpa [dD]using ho) (fun k hk=>by
    rw[e7];simp only[Value.ownBlock,Option.some.injEq]at hk;subst hk;exact hat.imp id (fun e=>by rw[kK];omega))
    (by rw[bW.eU _ _ (by omega)];exact h3.aU.aT i {r with aT:=r.aT++[q]} hi3) (by rw[bW.eU _ _ (by omega)];exact h3.aU.aX i {r with aT:=r.aT++[q]} hi3) (by rw[<-e7,bW.pY];exact⟨rfl,rfl⟩)
    (fun x hx=>by
      rcases List.mem_append.1 hx with hx|hx
      .exact h3.ok.aQ i _ hi3 x hx
      .rw[List.mem_singleton.1 hx];simpa using mM) (by rw[bW.eU _ _ (by omega),bW.eU _ _ (by omega),<-e7,bW.pY];rfl)
   obtain⟨z1,z2,z3,z4⟩:=hp;have s1:({s with all:=s.all.set q {p with on:=ov},ah:=(s.ah.set i {r with aT:=r.aT++[q]}).set i {r with aT:=r.aT++[q],aQ:=r.aQ++[q]}}:aO)={s with all:=s.all.set q {p with on:=ov},ah:=s.ah.set i {r with aT:=r.aT++[q],aQ:=r.aQ++[q]}}:=by rw[List.set_set]
   rw[s1]at z1;have hRR:=h4.apart (t:=7+3 * i) (by omega) hg h4.lM;exact⟨_,_,z1,f3.trans ((Lf.grown gw).trans z2),z3,fun j=>(World.frozen?_of_block hRR).trans (h4.fz R h4.lM j),(World.cell?_of_block hRR).trans (h4.gu hi3 rfl)⟩
  have nR3:R<W3.heap.size:=h3.nH (by rw[h3.lM];decide);have n7:¬R=W3.heap.size:=by omega
  rw[hv3]at c7 D9 dG;clear h3 f3 r1 r2 t1 hv3 hi3;unfold ptr at dG;go_wp2_with (at_builtin;refine wpList_append_lies _ rfl _ _ 155 rfl 0 163 T1 (.pointer none) 1 8 Tryz.underlying155 hT1 hy0 hy1 hy2 rfl (by decide) (.slice QU r.aQ.length QV) r.aQ.length (dD pk r.aQ) rfl (D9.out _) (Ad W3.heap.size 0) 1 1 [Pt (pk q) 0] rfl rfl (cell_one_new _ _ _) (by simp[Value.oneCell']) (by decide) (by unfold maxLen;omega) (by omega) (by simp) (W3.heap.size+1) (by simp) ?_;intro g4 cap4 w4 hown4 sZ sW hlt4;obtain⟨u14,akg⟩:=(dG.out _ _ _ _ sZ hown4 sW).choose_spec.choose_spec.2.2.1;have Ky:=(dG.out _ _ _ _ sZ hown4 sW).choose_spec.choose_spec.2.2.2.1;have ajU:=(dG.out _ _ _ _ sZ hown4 sW).choose_spec.choose_spec.2.2.2.2);go_end0;obtain⟨Yk,ρ4,h5,f5,_⟩:=dG.out _ _ _ _ sZ hown4 sW;have hi5:(s.ah.set i {r with aT:=r.aT++[q],aQ:=r.aQ++[q]})[i]? =some {r with aT:=r.aT++[q],aQ:=r.aQ++[q]}:=Fq HI.out.1;obtain⟨b1,b2⟩:=h5.DK (i:=i) (j:=3) (r:={r with aT:=r.aT++[q],aQ:=r.aQ++[q]}) (r':=r.send q) (u:=Im ((r.out+1:Nat):Int)) hi5 (by omega) rfl rfl rfl rfl;have s5:({s with all:=s.all.set q {p with on:=ov},ah:=(s.ah.set i {r with aT:=r.aT++[q],aQ:=r.aQ++[q]}).set i (r.send q)}:aO)={s with all:=s.all.set q {p with on:=ov},ah:=s.ah.set i (r.send q)}:=by rw[List.set_set]
  rw[s5]at b1;have e1:((r.out+1:Nat):Int)=(r.out:Int)+1:=by omega
  rw[e1]at b1 b2;first|exact⟨rfl,Yk,⟨ρ4,b1⟩,f5.trans b2⟩|exact⟨rfl,Yk,ρ4,b1,f5.trans b2⟩
end
section
variable {w w' w2:World}{pk:Nat->Nat}{v:Value}{l:List Nat}
def H9(f:Option Nat)(q:Nat):Option Nat:=match f with|none=>some q|some m=>if q<m then some q else some m
def mO(f:Option Nat)(l:List Nat):Option Nat:=l.foldl H9 f
theorem adH(f:Option Nat)(l:List Nat)(k q:Nat)(h:l[k]? =some q):mO f (l.take (k+1))=H9 (mO f (l.take k)) q:=by
 have h1:l.take (k+1)=l.take k++[q]:=by rw[List.take_add_one,h];rfl
 rw[h1];unfold mO;rw[List.foldl_append]
 rfl
theorem Hz:∀(l:List Nat)(f:Option Nat)(m:Nat),mO f l=some m->f=some m\/m∈l
 |[],f,m,h=>Or.inl h
 |q::l,f,m,h=>by
  rcases Hz l (H9 f q) m h with h1|h1
  .cases f with
   |none=>cases h1;exact Or.inr (List.mem_cons_self ..)
   |some x=>
    unfold H9 at h1;simp only at h1;split at h1
    .cases h1;exact Or.inr (List.mem_cons_self ..)
    .exact Or.inl h1
  .exact Or.inr (List.mem_cons_of_mem _ h1)
theorem adI{b:Nat}(ls:List (Value×List Nat))(hlen:ls.length<=1000)(hb:∀k x,ls[k]? =some x->w.cell? (Ad b k)=some x.1/\BZ w pk x.1 x.2/\x.2.length<=1000000000000000):
 Calls prog 121 #[.slice (some (Ad b 0)) ls.length ls.length] w fun e w'=>e=.returned (oD pk (mO none (ls.flatMap fun x=>x.2)))/\∃n,w'=w.drewN n:=by
 have HB:Hid (∀k x,ls[k]? =some x->w.cell? (Ad b k)=some x.1/\BZ w pk x.1 x.2/\x.2.length<=1000000000000000):=hb;have HA:Hid (∀q∈ls.flatMap (fun x=>x.2),w.cell? (Ad (pk q) 0)=some (Im (q:Int))):=fun q hq=>by
  obtain⟨x,hx,hq⟩:=List.mem_flatMap.1 hq;obtain⟨k,hk,he⟩:=List.mem_iff_getElem.1 hx;exact(hb k x (by rw[<-he];simp)).2.1.mg q hq
 clear hb;go_enter func121,ntmps121;go_wp2_with fail;go_loopg [3,10] (ls.length+1) (fun gg fv i wr=>Hid (∃k n:Nat,k+gg=ls.length+1/\k<=ls.length/\i=Im k/\fv=oD pk (mO none ((ls.take k).flatMap fun x=>x.2))/\wr=w.drewN n))
 case atStart=>exact⟨0,0,by omega,Nat.zero_le _,rfl,rfl,rfl⟩
 case round=>
  obtain⟨k,n,hk1,hk2,rfl,rfl,rfl⟩:=hrel.out;clear hrel;by_cases hlt:k<ls.length
  .have d1:decide ((k:Int)<(ls.length:Int))=true:=decide_eq_true (by omega);have i0:(0:Int)<=(k:Int):=by omega
   have i1:(k:Int)<(ls.length:Int):=by omega
   have hget:ls[k]? =some ls[k]:=by simp
   obtain⟨k0,hrow,hl⟩:=HB.out k _ hget;have HF:Hid (mO none ((ls.take (k+1)).flatMap fun x=>x.2)=mO (mO none ((ls.take k).flatMap fun x=>x.2)) ls[k].2):=by
    have h1:ls.take (k+1)=ls.take k++[ls[k]]:=by rw[List.take_add_one,hget];rfl
    rw[h1,List.flatMap_append];unfold mO;rw[List.foldl_append];exact bC (by simp)
   have hin:∀q∈ls[k].2,q∈ls.flatMap fun x=>x.2:=fun q hq=>List.mem_flatMap.2 ⟨_,List.getElem_mem hlt,hq⟩;have hin0:∀q∈(ls.take k).flatMap (fun x=>x.2),q∈ls.flatMap fun x=>x.2:=fun q hq=>by
    obtain⟨x,hx,hq⟩:=List.mem_flatMap.1 hq;exact List.mem_flatMap.2 ⟨x,List.mem_of_mem_take hx,hq⟩
   obtain⟨g',hg'⟩:∃g',gk=g'+1:=⟨gk-1,by omega⟩;obtain⟨⟨a,cap,hv,hcell⟩,hpk⟩:=hrow;have HP:Hid (∀j m,mO (mO none ((ls.take k).flatMap fun x=>x.2)) (ls[k].2.take j)=some m->w.cell? (Ad (pk m) 0)=some (Im (m:Int))):=fun j m hm=>by
    rcases Hz _ _ _ hm with h1|h1
    .rcases Hz _ _ _ h1 with h2|h2
     .cases h2
     .exact HA.out m (hin0 m h2)
    .exact hpk m (List.mem_of_mem_take h1)
   generalize mO none ((ls.take k).flatMap fun x=>x.2)=f0 at *;rw[hv]at k0;have HC:Hid ((∀i q,ls[k].2[i]? =some q->∃g,a=some (Ad g 0)/\w.cell? (Ad g i)=some (ptr pk q))/\∀q∈ls[k].2,w.cell? (Ad (pk q) 0)=some (Im (q:Int))):=⟨hcell,hpk⟩;clear hget hv hcell hpk hin hin0 HA;have k0':(w.drewN n).cell? (Ad b k)=some (.slice a ls[k].2.length cap):=k0;generalize ls[k].2=l at *;go_wp2_with fail;go_loopg [3,16] (l.length+1) (fun gg fv i wr=>Hid (∃j m:Nat,j+gg=l.length+1/\j<=l.length/\i=Im j/\fv=oD pk (mO f0 (l.take j))/\wr=w.drewN m))
   case atStart=>exact⟨0,n,by omega,Nat.zero_le _,rfl,rfl,rfl⟩
   case round=>
    obtain⟨j,m,hj1,hj2,rfl,rfl,rfl⟩:=hrel.out;clear hrel;by_cases hjl:j<l.length
    .have d2:decide ((j:Int)<(l.length:Int))=true:=decide_eq_true (by omega);have i2:(0:Int)<=(j:Int):=by omega
     have i3:(j:Int)<(l.length:Int):=by omega
     have hgj:l[j]? =some l[j]:=by simp
     obtain⟨gb,hag,c0⟩:=HC.out.1 j _ hgj;subst hag;have c0:(w.drewN m).cell? (Ad gb j)=some (ptr pk l[j]):=c0;have c1:(w.drewN m).cell? (Ad (pk l[j]) 0)=some (Im ((l[j]:Nat):Int)):=HC.out.2 l[j] (List.getElem_mem hjl);have HF2:Hid (mO f0 (l.take (j+1))=H9 (mO f0 (l.take j)) l[j]):=adH f0 l j _ hgj;have HP2:Hid (∀x,mO f0 (l.take j)=some x->(w.drewN m).cell? (Ad (pk x) 0)=some (Im (x:Int))):=fun x hx=>HP.out j x hx;obtain⟨g2,hg2⟩:∃g2,gk=g2+1:=⟨gk-1,by omega⟩;clear hgj;generalize l[j]=q at *;simp only[ptr]at c0;generalize zS:mO f0 (l.take j)=ff at *;clear zS;generalize hW:w.drewN m=W at *;have HW:Hid (w.drewN m=W):=hW;clear hW;cases ff with
     |none=>
      have HF3:Hid (mO f0 (l.take (j+1))=some q):=HF2.out;clear HP2 HF2;simp only[oD];go_wp2_with fail;go_quiet (fail);go_wp2_with fail;go_roundg g2
      case measure=>omega
      case rel=>exact⟨j+1,m+_,by omega,by omega,by go_num,by rw[HF3.out];rfl,by rw[<-HW.out,World.drewN_drewN]⟩
     |some x=>
      have c2:=HP2.out x rfl;by_cases UR:q<x
      .have HF3:Hid (mO f0 (l.take (j+1))=some q):=bC (HF2.out.trans (if_pos UR));have d3:decide ((q:Int)<(x:Int))=true:=decide_eq_true (by omega);clear HP2 HF2;simp only[oD,ptr];go_wp2_with fail;go_quiet (fail);go_wp2_with fail;go_roundg g2
       case measure=>omega
       case rel=>exact⟨j+1,m+_,by omega,by omega,by go_num,by rw[HF3.out];rfl,by rw[<-HW.out,World.drewN_drewN]⟩
      .have HF3:Hid (mO f0 (l.take (j+1))=some x):=bC (HF2.out.trans (if_neg UR));have d3:decide ((q:Int)<(x:Int))=false:=decide_eq_false (by omega);clear HP2 HF2;simp only[oD,ptr];go_wp2_with fail;go_quiet (fail);go_wp2_with fail;go_roundg g2
       case measure=>omega
       case rel=>exact⟨j+1,m+_,by omega,by omega,by go_num,by rw[HF3.out];rfl,by rw[<-HW.out,World.drewN_drewN]⟩
    .have d2:decide ((j:Int)<(l.length:Int))=false:=decide_eq_false (by omega);have hje:j=l.length:=by omega
     have HF3:Hid (mO none ((ls.take (k+1)).flatMap fun x=>x.2)=mO f0 (l.take j)):=by rw[HF.out,hje,List.take_of_length_le (Nat.le_refl _)];exact bC rfl
     clear hje;go_wp2_with fail;go_roundg g'
     case measure=>omega
     case rel=>exact⟨k+1,m,by omega,by omega,by go_num,by rw[HF3.out],rfl⟩
  .have d1:decide ((k:Int)<(ls.length:Int))=false:=decide_eq_false (by omega);have hke:k=ls.length:=by omega
   have HF3:Hid (mO none (ls.flatMap fun x=>x.2)=mO none ((ls.take k).flatMap fun x=>x.2)):=by rw[hke,List.take_of_length_le (Nat.le_refl _)];exact bC rfl
   clear hke;go_wp2_with fail;go_ret;exact⟨by rw[HF3.out];rfl,n,rfl⟩
end
section
variable {w w' w2 w1:World}{tag:Nat->Nat}{L R cap:Nat}{pk:Nat->Nat}{cv u:Value}{ρ:bW}{s:aO}{l':List Nat}
theorem bg.Xd(h:bg w tag L R pk cv cap ρ s)(hg:w.grownBy w1 (ρ 2).2.1.ownBlock)(hr:w1.ownsRow 0 163 1 u l'.length (dD pk l'))(hu:∀g,u.ownBlock=some g->(ρ 2).2.1.ownBlock=some g\/w.heap.size<=g)(hm:∀q∈l',q<s.all.length):
 ∃tag' ρ',bg (w1.setCell (Ad L 13) u) tag' L R pk cv cap ρ' {s with aG:=l'}/\Lf w tag (w1.setCell (Ad L 13) u) tag'/\(∃x,w1.cell? (Ad L 13)=some x)/\∀j,w1.frozen? (Ad L j)=false:=by
 obtain⟨z1,z2,z3,z4⟩:=h.Qc (t:=2) (j:=13) (T:=163) (us:=dD pk l') (s':={s with aG:=l'}) (Or.inl rfl) (by omega) hg (by simpa [dD]using hr) hu
  ⟨by rw[bW.pY];exact⟨rfl,rfl⟩,by rw[bW.eU _ _ (by omega)];exact h.aU.aP,by rw[bW.eU _ _ (by omega)];exact h.aU.aJ,fun i r hr=>by rw[bW.eU _ _ (by omega)];exact h.aU.aT i r hr,fun i r hr=>by rw[bW.eU _ _ (by omega)];exact h.aU.aX i r hr,fun i r hr=>by rw[bW.eU _ _ (by omega)];exact h.aU.aQ i r hr⟩
  ⟨hm,h.ok.aP,h.ok.aJ,h.ok.aQ,h.ok.kept,h.ok.turn,h.ok.ah⟩ rfl rfl (by rw[bW.pY,bW.eU _ _ (by omega),bW.eU _ _ (by omega)];rfl)
 exact⟨_,_,z1,z2,z3,fun j=>(World.frozen?_of_block (h.apart (t:=2) (by omega) hg h.fO)).trans (h.fz L h.fO j)⟩
theorem bg.Xg(h:bg w tag L R pk cv cap ρ s)(hg:w.grownBy w1 (ρ 3).2.1.ownBlock)(hr:w1.ownsRow 0 163 1 u l'.length (dD pk l'))(hu:∀g,u.ownBlock=some g->(ρ 3).2.1.ownBlock=some g\/w.heap.size<=g)(hm:∀q∈l',q<s.all.length):
 ∃tag' ρ',bg (w1.setCell (Ad L 14) u) tag' L R pk cv cap ρ' {s with aP:=l'}/\Lf w tag (w1.setCell (Ad L 14) u) tag'/\(∃x,w1.cell? (Ad L 14)=some x)/\∀j,w1.frozen? (Ad L j)=false:=by
 obtain⟨z1,z2,z3,z4⟩:=h.Qc (t:=3) (j:=14) (T:=163) (us:=dD pk l') (s':={s with aP:=l'}) (Or.inr (Or.inl rfl)) (by omega) hg (by simpa [dD]using hr) hu
  ⟨by rw[bW.eU _ _ (by omega)];exact h.aU.aG,by rw[bW.pY];exact⟨rfl,rfl⟩,by rw[bW.eU _ _ (by omega)];exact h.aU.aJ,fun i r hr=>by rw[bW.eU _ _ (by omega)];exact h.aU.aT i r hr,fun i r hr=>by rw[bW.eU _ _ (by omega)];exact h.aU.aX i r hr,fun i r hr=>by rw[bW.eU _ _ (by omega)];exact h.aU.aQ i r hr⟩
  ⟨h.ok.aG,hm,h.ok.aJ,h.ok.aQ,h.ok.kept,h.ok.turn,h.ok.ah⟩ rfl rfl (by rw[bW.pY,bW.eU _ _ (by omega),bW.eU _ _ (by omega)];rfl)
 exact⟨_,_,z1,z2,z3,fun j=>(World.frozen?_of_block (h.apart (t:=3) (by omega) hg h.fO)).trans (h.fz L h.fO j)⟩
theorem bg.Qb(h:bg w tag L R pk cv cap ρ s)(hg:w.grownBy w1 (ρ 4).2.1.ownBlock)(hr:w1.ownsRow 0 163 1 u l'.length (dD pk l'))(hu:∀g,u.ownBlock=some g->(ρ 4).2.1.ownBlock=some g\/w.heap.size<=g)(hm:∀q∈l',q<s.all.length):
 ∃tag' ρ',bg (w1.setCell (Ad L 15) u) tag' L R pk cv cap ρ' {s with aJ:=l'}/\Lf w tag (w1.setCell (Ad L 15) u) tag'/\(∃x,w1.cell? (Ad L 15)=some x)/\(∀j,w1.frozen? (Ad L j)=false)/\∀k,k≠L->tag k≠4->k<w.heap.size->(w1.setCell (Ad L 15) u).heap[k]? =w.heap[k]?/\tag' k=tag k:=by
 obtain⟨z1,z2,z3,z4⟩:=h.Qc (t:=4) (j:=15) (T:=163) (us:=dD pk l') (s':={s with aJ:=l'}) (Or.inr (Or.inr rfl)) (by omega) hg (by simpa [dD]using hr) hu
  ⟨by rw[bW.eU _ _ (by omega)];exact h.aU.aG,by rw[bW.eU _ _ (by omega)];exact h.aU.aP,by rw[bW.pY];exact⟨rfl,rfl⟩,fun i r hr=>by rw[bW.eU _ _ (by omega)];exact h.aU.aT i r hr,fun i r hr=>by rw[bW.eU _ _ (by omega)];exact h.aU.aX i r hr,fun i r hr=>by rw[bW.eU _ _ (by omega)];exact h.aU.aQ i r hr⟩
  ⟨h.ok.aG,h.ok.aP,hm,h.ok.aQ,h.ok.kept,h.ok.turn,h.ok.ah⟩ rfl rfl (by rw[bW.pY,bW.eU _ _ (by omega),bW.eU _ _ (by omega)];rfl)
 refine⟨_,_,z1,z2,z3,fun j=>(World.frozen?_of_block (h.apart (t:=4) (by omega) hg h.fO)).trans (h.fz L h.fO j),fun k k1 k2 k3=>⟨?_,z2.tags k k3⟩⟩;rw[Below.heap_setCell _ _ _ _ (by show k≠L;exact k1)];exact hg.block k k3 (fun e=>k2 ((h.rows.each 4 (by omega)).2 k e.symm))
theorem GH{l:List Nat}{x:Int}{q:Nat}(h:lH l x=some q):q∈l/\(q:Int)=x:=by
 unfold lH at h;have h1:=List.mem_of_find?_eq_some h;have h2:=List.find?_some h;exact⟨h1,by simpa using h2⟩
theorem fG{W y:World}(h:W.grownBy y none):W.grownBy y.drew none:=h.trans ⟨rfl,rfl,rfl,Nat.le_refl _,fun _ _ _=>rfl⟩
theorem fH{W y:World}{k:Nat}(h:W.grownBy y none):W.grownBy (y.drewN k) none:=h.trans (dh y k)
structure Small(s:aO):Prop where
 aG:s.aG.length<=1000000000000
 aP:s.aP.length<=1000000000000
 aJ:s.aJ.length<=1000000000000
 aK:∀(i:Nat)(r:Lr),s.ah[i]? =some r->r.aT.length<=10000000000000/\r.aX.length<=10000000000000/\r.aQ.length<=10000000000000/\r.out<=100000000000000/\r.cO<=1000
 all:s.all.length<=1000000000000
 acc:s.acc<=1000000000000
 dN:s.dN<=1000000000000000
 quiet: -1<=s.quiet/\s.quiet<=1000
 bQ:s.bQ<=1000000000000
 dA:s.dA<=1000000000000
theorem VJ(h:bg w tag L R pk cv cap ρ s)(hs:Small s){i q:Nat}(hi:i<s.ah.length)(hq:q<s.all.length):Calls prog 120 #[Pt L 0,ptr pk q,Pt R (i * 8)] w fun e w'=>e=.returned (.tuple #[])/\∃tag' ρ',bg w' tag' L R pk cv cap ρ' (s.send q i)/\Lf w tag w' tag':=by
 have hS:=bC hs;obtain⟨T1,hT1,hy0,hy1,hy2⟩:=info_parts KN;have Rf:Hid (∀(s1:aO)(W:World)(t1:Nat->Nat)(ρ1:bW),bg W t1 L R pk cv cap ρ1 s1->s1.all=s.all->s1.ah=s.ah->s1.aG.length<=1000000000000->s1.aJ.length<=1000000000000->Lf w tag W t1->
  ∃va vn vc,W.cell? (Ad L 13)=some (.slice va vn vc)/\W.cell? (Ad (pk q) 0)=some (Im (q:Int))/\∀y,W.grownBy y none->Calls prog 173 #[.slice va vn vc,Im (q:Int)] y fun e w1=>∃ua un uc,e=.returned (.slice ua un uc)/\(∃x,w1.cell? (Ad L 13)=some x)/\(∀j,w1.frozen? (Ad L j)=false)/\∃tag' ρ',bg (w1.setCell (Ad L 13) (.slice ua un uc)) tag' L R pk cv cap ρ' {s1 with aG:=mV s1.aG q}/\Lf w tag (w1.setCell (Ad L 13) (.slice ua un uc)) tag'):=by
  intro s1 W t1 ρ1 h1 e1 e2 e3 e4 f1;have ho:=h1.own (t:=2) (by omega) h1.aU.aG h1.ok.aG (by omega);obtain⟨va,vc,hv⟩:=fJ ho.row;have hq1:q<s1.all.length:=by rw[e1];exact hq
  refine⟨va,s1.aG.length,vc,by rw[<-hv];exact h1.dL rfl,(h1.mg q s1.all[q] (by simp)).l9 (j:=0) rfl,fun y hy=>?_⟩;have h2:=h1.grow hy;have ho2:=h2.own (t:=2) (by omega) h2.aU.aG h2.ok.aG (by omega);rw[<-hv];refine(YJ ho2 q).mono ?_;rintro e w1 ⟨u,q1,q2,q3,q4⟩;obtain⟨tag',ρ',z1,z2,z3,z4⟩:=h2.Xd q3 q2 (fun g hg=>Or.inl (q4 g hg)) (fun x hx=>h2.ok.aG x (List.mem_filter.1 hx).1);obtain⟨ua,uc,hu⟩:=fJ q2;subst hu;exact⟨ua,_,uc,q1,z3,z4,tag',ρ',z1,(f1.trans (Lf.grown hy)).trans z2⟩
 have Rh:Hid (∀(s1:aO)(W:World)(t1:Nat->Nat)(ρ1:bW),bg W t1 L R pk cv cap ρ1 s1->s1.all=s.all->s1.ah=s.ah->s1.aJ.length<=1000000000000->Lf w tag W t1->
  ∃va vn vc,W.cell? (Ad L 15)=some (.slice va vn vc)/\W.cell? (Ad (pk q) 0)=some (Im (q:Int))/\∀y,W.grownBy y none->Calls prog 173 #[.slice va vn vc,Im (q:Int)] y fun e w1=>∃ua un uc,e=.returned (.slice ua un uc)/\(∃x,w1.cell? (Ad L 15)=some x)/\(∀j,w1.frozen? (Ad L j)=false)/\∃tag' ρ',bg (w1.setCell (Ad L 15) (.slice ua un uc)) tag' L R pk cv cap ρ' {s1 with aJ:=mV s1.aJ q}/\Lf w tag (w1.setCell (Ad L 15) (.slice ua un uc)) tag'):=by
  intro s1 W t1 ρ1 h1 e1 e2 e4 f1;have ho:=h1.own (t:=4) (by omega) h1.aU.aJ h1.ok.aJ (by omega);obtain⟨va,vc,hv⟩:=fJ ho.row;have hq1:q<s1.all.length:=by rw[e1];exact hq
  refine⟨va,s1.aJ.length,vc,by rw[<-hv];exact h1.dL rfl,(h1.mg q s1.all[q] (by simp)).l9 (j:=0) rfl,fun y hy=>?_⟩;have h2:=h1.grow hy;have ho2:=h2.own (t:=4) (by omega) h2.aU.aJ h2.ok.aJ (by omega);rw[<-hv];refine(YJ ho2 q).mono ?_;rintro e w1 ⟨u,q1,q2,q3,q4⟩;obtain⟨tag',ρ',z1,z2,z3,z4,_⟩:=h2.Qb q3 q2 (fun g hg=>Or.inl (q4 g hg)) (fun x hx=>h2.ok.aJ x (List.mem_filter.1 hx).1);obtain⟨ua,uc,hu⟩:=fJ q2;subst hu;exact⟨ua,_,uc,q1,z3,z4,tag',ρ',z1,(f1.trans (Lf.grown hy)).trans z2⟩
 have fP:Hid (∀(s1:aO)(W:World)(t1:Nat->Nat)(ρ1:bW),bg W t1 L R pk cv cap ρ1 s1->s1.all=s.all->s1.ah=s.ah->{s1 with all:=s.all.set q {s.all.getD q ⟨0,0⟩with on:=Af (s.all.getD q ⟨0,0⟩).on i},ah:=s.ah.set i ((s.ah.getD i lT).send q)}=s.send q i->Lf w tag W t1->Calls prog 174 #[Pt R (i * 8),ptr pk q] W fun e w'=>e=.returned (.tuple #[])/\∃tag' ρ',bg w' tag' L R pk cv cap ρ' (s.send q i)/\Lf w tag w' tag'):=by
  intro s1 W t1 ρ1 h1 e1 e2 e3 f1;have hi1:s1.ah[i]? =some (s.ah.getD i lT):=by rw[e2,List.getD_eq_getElem?_getD,List.getElem?_eq_getElem hi];rfl
  have hq1:s1.all[q]? =some (s.all.getD q ⟨0,0⟩):=by rw[e1,List.getD_eq_getElem?_getD,List.getElem?_eq_getElem hq];rfl
  have hr:=hS.out.aK i (s.ah.getD i lT) (e2▸hi1);refine(ag4 h1 hi1 hq1 hr.2.2.1 hr.1 hr.2.2.2.1).mono ?_;rintro e w' ⟨k1,tag',ρ',k2,k3⟩;rw[e1,e2,e3]at k2;exact⟨k1,tag',ρ',k2,f1.trans k3⟩
 have hof:=h.own (t:=2) (by omega) h.aU.aG h.ok.aG (by have:=hs.aG;omega);obtain⟨fa,fc,hfv⟩:=fJ hof.row;have c13:w.cell? (Ad L 13)=some (.slice fa s.aG.length fc):=by rw[<-hfv];exact h.dL rfl
 have p0:w.cell? (Ad (pk q) 0)=some (Im (q:Int)):=(h.mg q s.all[q] (by simp)).l9 (j:=0) rfl;have D5:Hid (∀n,Calls prog 160 #[.slice fa s.aG.length fc,Im (q:Int)] (w.drewN n) fun e w'=>e=.returned (oD pk (lH s.aG q))/\w'=w.drewN n):=fun n=>by
  have h2:=h.grow (dh w n);have ho2:=h2.own (t:=2) (by omega) h2.aU.aG h2.ok.aG (by have:=hs.aG;omega);rw[hfv]at ho2;exact J4 ho2.read (by have:=hs.aG;omega) q
 have HH:=bC h;clear h hof hfv hs;unfold ptr at *;cases zS:lH s.aG (q:Int)with
 |none=>
  rw[zS]at D5;simp only[oD]at D5;have HEq:Hid (({{{s with aG:=mV s.aG q}with aJ:=mV s.aJ q}with all:=s.all.set q {s.all.getD q ⟨0,0⟩with on:=Af (s.all.getD q ⟨0,0⟩).on i},ah:=s.ah.set i ((s.ah.getD i lT).send q)}:aO)=s.send q i):=by unfold aO.send;rw[zS];exact bC rfl
  clear zS;go_enter func120,ntmps120;go_wp2_with fail;go_quiet ((go_at_call 160;exact Calls.quiet_of_same (D5.out _)));go_wp2_with fail;obtain⟨va,vn,vc,d1,d2,HW⟩:=Rf.out s w tag ρ HH.out rfl rfl hS.out.aG hS.out.aJ (Lf.refl _ _);have e0:=Option.some.inj (c13.symm.trans d1);cases e0;have HW:=bC HW;go_upto_region 2 with fail;go_cut [] (fun wx=>Hid (∃tag' ρ',bg wx tag' L R pk cv cap ρ' {s with aG:=mV s.aG q}/\Lf w tag wx tag'))
  case first=>
   go_region_with ((go_at_call 173;refine(HW.out _ (by repeat (first|exact World.grownBy.refl _ _|refine fG ?_|refine fH ?_))).mono ?_;rintro e w3 ⟨ua,un,uc,rfl,⟨x3,k1⟩,k2,k3⟩));all_goals (go_wp2_with fail;go_meet;exact k3)
  case rest=>
   obtain⟨QC,ρ3,h3,f3⟩:=hcut.out;clear hcut HW;obtain⟨QU,vn3,QV,d3,d4,HW3⟩:=Rh.out _ wc QC ρ3 h3 rfl rfl hS.out.aJ f3;have HW3:=bC HW3;clear h3 f3;go_upto_region 3 with fail;go_cut [] (fun wx=>Hid (∃tag' ρ',bg wx tag' L R pk cv cap ρ' {{s with aG:=mV s.aG q}with aJ:=mV s.aJ q}/\Lf w tag wx tag'))
   case first=>
    go_region_with ((go_at_call 173;refine(HW3.out _ (by repeat (first|exact World.grownBy.refl _ _|refine fG ?_|refine fH ?_))).mono ?_;rintro e w5 ⟨ua,un,uc,rfl,⟨x3,k1⟩,k2,k3⟩));all_goals (go_wp2_with fail;go_meet;exact k3)
   case rest=>
    obtain⟨QD,ρ5,h5,f5⟩:=hcut.out;have HR:=bC (fP.out _ _ QD ρ5 h5 rfl rfl HEq.out f5);clear hcut HW3 h5 f5;go_wp2_with fail;refine HR.out.mono ?_;rintro e w6 ⟨rfl,k6⟩;have HK:=bC k6;clear k6 HR;go_wp2_with fail;go_end0;exact⟨rfl,HK.out⟩
 |some q'=>
  obtain⟨_,hqq⟩:=GH zS;have hqq:q'=q:=by omega
  subst hqq;rw[zS]at D5;simp only[oD,ptr]at D5;have HEq:Hid (({{{{s with aP:=s.aP++[q']}with aG:=mV s.aG q'}with aJ:=mV s.aJ q'}with all:=s.all.set q' {s.all.getD q' ⟨0,0⟩with on:=Af (s.all.getD q' ⟨0,0⟩).on i},ah:=s.ah.set i ((s.ah.getD i lT).send q')}:aO)=s.send q' i):=by unfold aO.send;rw[zS];exact bC rfl
  clear zS;have HU:∃ua uc,w.cell? (Ad L 14)=some (.slice ua s.aP.length uc)/\Hid (∀n o,((w.drewN n).alloc o).ownsRow 0 163 1 (.slice ua s.aP.length uc) s.aP.length (dD pk s.aP))/\Hid (∀(n:Nat)(o:Obj)(w1:World)(g c:Nat),((w.drewN n).alloc o).grownBy w1 (Value.slice ua s.aP.length uc).ownBlock->w1.ownsRow 0 163 1 (.slice (some (Ad g 0)) (s.aP.length+1) c) (s.aP.length+1) (dD pk s.aP++[Pt (pk q') 0])->((Value.slice ua s.aP.length uc).ownBlock=some g\/g=w.heap.size+1)->
   (∃x,w1.cell? (Ad L 14)=some x)/\(∀j,w1.frozen? (Ad L j)=false)/\∃tag' ρ',bg (w1.setCell (Ad L 14) (.slice (some (Ad g 0)) (s.aP.length+1) c)) tag' L R pk cv cap ρ' {s with aP:=s.aP++[q']}/\Lf w tag (w1.setCell (Ad L 14) (.slice (some (Ad g 0)) (s.aP.length+1) c)) tag'):=by
   have ho1:=HH.out.own (t:=3) (by omega) HH.out.aU.aP HH.out.ok.aP (by have:=hS.out.aP;omega);obtain⟨ua,uc,hu⟩:=fJ ho1.row;refine⟨ua,uc,by rw[<-hu];exact HH.out.dL rfl,fun n o=>?_,fun n o w1 g c hg ho hat=>?_⟩
   .have h2:=HH.out.grow (dh w n);have ho2:=h2.own (t:=3) (by omega) h2.aU.aP h2.ok.aP (by have:=hS.out.aP;omega);rw[<-hu];exact ho2.row.alloc o
   have h2:=HH.out.grow (dh w n);have h3:=h2.grow (World.grownBy_alloc (w.drewN n) o none);have e1:dD pk s.aP++[Pt (pk q') 0]=dD pk (s.aP++[q']):=by simp[dD,ptr]
   rw[e1]at ho;obtain⟨tag',ρ',z1,z2,z3,z4⟩:=h3.Xg (l':=s.aP++[q']) (by rw[hu];exact hg) (by simpa using ho) (fun k hk=>by
    rw[hu];simp only[Value.ownBlock,Option.some.injEq]at hk;subst hk;exact hat.imp id (fun e=>by rw[kK];show w.heap.size+1<=_;omega)) (fun x hx=>by
    rcases List.mem_append.1 hx with hx|hx
    .exact HH.out.ok.aP x hx
    .rw[List.mem_singleton.1 hx];exact hq)
   exact⟨z3,z4,tag',ρ',z1,((Lf.grown (dh w n)).trans (Lf.grown (World.grownBy_alloc _ o none))).trans z2⟩
  obtain⟨ua0,uc0,c14,RP,Jk⟩:=HU;have hul:=hS.out.aP;have nL:L<w.heap.size:=HH.out.nH (by rw[HH.out.fO];decide);have VT:¬L=w.heap.size:=by omega
  go_enter func120,ntmps120;go_wp2_with fail;go_quiet ((go_at_call 160;exact Calls.quiet_of_same (D5.out _)));go_wp2_with (at_builtin;refine wpList_append_lies _ rfl _ _ 155 rfl 0 163 T1 (.pointer none) 1 8 Tryz.underlying155 hT1 hy0 hy1 hy2 rfl (by decide) (.slice ua0 s.aP.length uc0) s.aP.length (dD pk s.aP) rfl (RP.out _ _) (Ad w.heap.size 0) 1 1 [Pt (pk q') 0] rfl rfl (cell_one_new _ _ _) (by simp[Value.oneCell']) (by decide) (by unfold maxLen;omega) (by omega) (by simp) (w.heap.size+1) (by simp) ?_;intro g4 cap4 w4 hown4 sZ sW hlt4;obtain⟨x14,OJ⟩:=(Jk.out _ _ _ _ _ sZ hown4 sW).1;have Ky:=(Jk.out _ _ _ _ _ sZ hown4 sW).2.1);obtain⟨_,_,y9,ρ1,h1,f1⟩:=Jk.out _ _ _ _ _ sZ hown4 sW;clear Jk RP hown4 sZ sW OJ Ky c14 c13 p0;generalize w4.setCell (Ad L 14) (.slice (some (Ad g4 0)) (s.aP.length+1) cap4)=W1 at *;obtain⟨va,vn,vc,d1,d2,HW⟩:=Rf.out _ W1 y9 ρ1 h1 rfl rfl hS.out.aG hS.out.aJ f1;have HW:=bC HW;clear h1 f1;go_upto_region 2 with fail;go_cut [] (fun wx=>Hid (∃tag' ρ',bg wx tag' L R pk cv cap ρ' {{s with aP:=s.aP++[q']}with aG:=mV s.aG q'}/\Lf w tag wx tag'))
  case first=>
   go_region_with ((go_at_call 173;refine(HW.out _ (by repeat (first|exact World.grownBy.refl _ _|refine fG ?_|refine fH ?_))).mono ?_;rintro e w3 ⟨ua,un,uc,rfl,⟨x3,k1⟩,k2,k3⟩));all_goals (go_wp2_with fail;go_meet;exact k3)
  case rest=>
   obtain⟨QC,ρ3,h3,f3⟩:=hcut.out;clear hcut HW;obtain⟨QU,vn3,QV,d3,d4,HW3⟩:=Rh.out _ wc QC ρ3 h3 rfl rfl hS.out.aJ f3;have HW3:=bC HW3;clear h3 f3;go_upto_region 3 with fail;go_cut [] (fun wx=>Hid (∃tag' ρ',bg wx tag' L R pk cv cap ρ' {{{s with aP:=s.aP++[q']}with aG:=mV s.aG q'}with aJ:=mV s.aJ q'}/\Lf w tag wx tag'))
   case first=>
    go_region_with ((go_at_call 173;refine(HW3.out _ (by repeat (first|exact World.grownBy.refl _ _|refine fG ?_|refine fH ?_))).mono ?_;rintro e w5 ⟨ua,un,uc,rfl,⟨x3,k1⟩,k2,k3⟩));all_goals (go_wp2_with fail;go_meet;exact k3)
   case rest=>
    obtain⟨QD,ρ5,h5,f5⟩:=hcut.out;have HR:=bC (fP.out _ _ QD ρ5 h5 rfl rfl HEq.out f5);clear hcut HW3 h5 f5;go_wp2_with fail;refine HR.out.mono ?_;rintro e w6 ⟨rfl,k6⟩;have HK:=bC k6;clear k6 HR;go_wp2_with fail;go_end0;exact⟨rfl,HK.out⟩
end
end
end Go.Proofs.YthllhabjfchgiaaGreatDoor
