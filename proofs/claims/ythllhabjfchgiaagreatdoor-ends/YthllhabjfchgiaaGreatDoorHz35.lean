import Derived.Test.YthllhabjfchgiaaGreatDoorHz34
set_option maxRecDepth 100000
set_option maxHeartbeats 8000000
namespace Go.Proofs.YthllhabjfchgiaaGreatDoor
open _root_.Go.Proofs.Tryz
section
open Go.RowKit Hx
attribute [local go_sem ↓] Go.wp_at_zero Go.wp_at_succ
attribute [local go_sem] bT
section
variable {w w' w2 w1:World}{tag:Nat->Nat}{L R cap:Nat}{pk:Nat->Nat}{cv u v:Value}{ρ:bW}{s:aO}
theorem W9{pk WU:Nat->Nat}{l:List Nat}(h:∀q∈l,WU q=pk q):dD WU l=dD pk l:=List.map_congr_left fun q hq=>by unfold ptr;rw[h q hq]
def xH(pk:Nat->Nat)(n b:Nat):Nat->Nat:=fun q=>if q=n then b else pk q
def QE(tag:Nat->Nat)(b:Nat):Nat->Nat:=fun k=>if k=b then 1 else tag k
theorem bg.ZM(h:bg w tag L R pk cv cap ρ s){y:World}(hg:w.grownBy y none){b:Nat}(hb:w.heap.size<=b)(hb2:b<y.heap.size)(p:Lp)(hc:nK y b 0 (wE s.all.length p))(hfz:∀j,y.frozen? (Ad b j)=false):
 bg y (QE tag b) L R (xH pk s.all.length b) cv cap ρ {s with all:=s.all++[p]}/\Lf w tag y (QE tag b):=by
 have h2:=h.grow hg;have hs:=hg.size;have tt:∀k,k<w.heap.size->QE tag b k=tag k:=fun k hk=>if_neg (by omega);have pp:∀q,q<s.all.length->xH pk s.all.length b q=pk q:=fun q hq=>if_neg (by omega);have pl:∀q,q<s.all.length->pk q<w.heap.size:=fun q hq=>h.nH (by rw[(h.ni q hq).1];decide);have hL:=h.nH (b:=L) (by rw[h.fO];decide);have hR:=h.nH (b:=R) (by rw[h.lM];decide);have pr:∀l:List Nat,(∀q∈l,q<s.all.length)->dD (xH pk s.all.length b) l=dD pk l:=fun l hl=>W9 fun q hq=>pp q (hl q hq);have gr:∀q,q<s.all.length->q<(s.all++[p]).length:=fun q hq=>by rw[List.length_append];omega
 refine⟨⟨⟨fun t ht=>⟨(h2.rows.each t ht).1,fun g hgo=>?_⟩,fun k hk=>?_⟩,⟨?_,?_,?_,h.aU.aT,h.aU.aX,fun i r hr=>?_⟩,⟨fun q hq=>gr q (h.ok.aG q hq),fun q hq=>gr q (h.ok.aP q hq),fun q hq=>gr q (h.ok.aJ q hq),fun i r hr q hq=>gr q (h.ok.aQ i r hr q hq),h.ok.kept,h.ok.turn,h.ok.ah⟩,h2.lk,h2.rd,fun q x hq=>?_,fun k hk j=>?_,?_,?_,h.vX,fun q hq=>?_,fun q q' hq hq' he=>?_⟩,?_⟩
 .rw[tt g ((h.rows.each t ht).1.lt g hgo).2];exact(h.rows.each t ht).2 g hgo
 .show(if k=b then 1 else tag k)=0;rw[if_neg (by omega)];exact h.rows.new k (by omega)
 .rw[pr _ h.ok.aG];exact h.aU.aG
 .rw[pr _ h.ok.aP];exact h.aU.aP
 .rw[pr _ h.ok.aJ];exact h.aU.aJ
 .rw[pr _ (h.ok.aQ i r hr)];exact h.aU.aQ i r hr
 .rcases Nat.lt_or_ge q s.all.length with hl|hl
  .rw[List.getElem?_append_left hl]at hq;rw[pp q hl];exact h2.mg q x hq
  .have mM:=(List.getElem?_eq_some_iff.1 hq).1;rw[List.length_append,List.length_singleton]at mM;have:q=s.all.length:=by omega
   subst this;rw[List.getElem?_append_right (Nat.le_refl _),Nat.sub_self]at hq;cases hq;have:xH pk s.all.length b s.all.length=b:=if_pos rfl;rw[this];exact hc
 .by_cases e:k=b
  .rw[e];exact hfz j
  .have hk2:tag k=1:=by rw[<-hk];exact(if_neg e).symm
   exact h2.fz k hk2 j
 .rw[tt L hL];exact h.fO
 .rw[tt R hR];exact h.lM
 .have hq2:q<s.all.length+1:=by simpa using hq
  rcases Nat.lt_or_ge q s.all.length with hl|hl
  .rw[pp q hl,tt _ (pl q hl)];exact h.ni q hl
  .have:xH pk s.all.length b q=b:=if_pos (by omega);rw[this];exact⟨if_pos rfl,by omega,by omega⟩
 .have hq2:q<s.all.length+1:=by simpa using hq
  have hq3:q'<s.all.length+1:=by simpa using hq'
  rcases Nat.lt_or_ge q s.all.length with hl|hl
  .rcases Nat.lt_or_ge q' s.all.length with hl'|hl'
   .rw[pp q hl,pp q' hl']at he;exact h.inj q q' hl hl' he
   .have e2:xH pk s.all.length b q'=b:=if_pos (by omega);rw[pp q hl,e2]at he;have:=pl q hl;omega
  .rcases Nat.lt_or_ge q' s.all.length with hl'|hl'
   .have e2:xH pk s.all.length b q=b:=if_pos (by omega);rw[pp q' hl',e2]at he;have:=pl q' hl';omega
   .omega
 .exact⟨hg.os,hg.tape,hg.output,hg.size,tt,fun k hk _=>hg.block k hk (by simp)⟩
def RV(w:World)(tag:Nat->Nat)(L R:Nat)(cv:Value)(cap:Nat)(w':World)(s':aO):Prop:=∃tag' ρ' pk',bg w' tag' L R pk' cv cap ρ' s'/\Lf w tag w' tag'
theorem Ot(w:World)(o1 o2:Obj):((w.alloc o1).alloc o2).heap[w.heap.size]? =some o1:=
 ((World.grownBy_alloc (w.alloc o1) o2 none).block w.heap.size (by rw[kK];omega) (by simp)).trans (heap_alloc_new w o1)
theorem ajE(h:bg w tag L R pk cv cap ρ s)(hs:Small s)(hacc:s.acc=s.all.length)(size:Int):Calls prog 36 #[Pt L 0,Im size] w fun e w'=>e=.returned (Im (s.write size).2)/\RV w tag L R cv cap w' (s.write size).1:=by
 obtain⟨T1,hT1,hy0,hy1,hy2⟩:=info_parts KN;have HH:=bC h;have hof:=h.own (t:=2) (by omega) h.aU.aG h.ok.aG (by have:=hs.aG;omega);obtain⟨fa,fc,hfv⟩:=fJ hof.row;have c13:w.cell? (Ad L 13)=some (.slice fa s.aG.length fc):=by rw[<-hfv];exact h.dL rfl
 have c10:w.cell? (Ad L 10)=some (Im (s.acc:Int)):=h.dL rfl;have hfl:=hs.aG;have hal:=hs.acc;unfold aO.write;by_cases h1:size<1
 .rw[if_pos (Or.inl h1)];have d1:decide (size<1)=true:=decide_eq_true h1;clear h hs hof hfv;go_enter func36,ntmps36;go_wp2_with fail;go_ret;exact⟨rfl,tag,ρ,pk,HH.out,Lf.refl _ _⟩
 .have d1:decide (size<1)=false:=decide_eq_false h1;by_cases h2:1000<size
  .rw[if_pos (Or.inr h2)];have d2:decide (1000<size)=true:=decide_eq_true h2;clear h hs hof hfv;go_enter func36,ntmps36;go_wp2_with fail;go_ret;exact⟨rfl,tag,ρ,pk,HH.out,Lf.refl _ _⟩
  .rw[if_neg (by omega)];have d2:decide (1000<size)=false:=decide_eq_false h2;by_cases h3:s.aG.length=16
   .rw[if_pos h3];rw[h3]at c13;clear h hs hof hfv;go_enter func36,ntmps36;go_wp2_with fail;go_ret;exact⟨rfl,tag,ρ,pk,HH.out,Lf.refl _ _⟩
   .rw[if_neg h3];have d3:((s.aG.length:Int)==16)=false:=beq_eq_false_iff_ne.2 (by omega);have e13:∀o,(w.alloc o).cell? (Ad L 13)=some (.slice fa s.aG.length fc):=fun o=>by rw[<-hfv];exact(h.grow (World.grownBy_alloc w o none)).dL rfl
    have f13:∀o o2,((w.alloc o).alloc o2).cell? (Ad L 13)=some (.slice fa s.aG.length fc):=fun o o2=>by rw[<-hfv];exact(h.grow ((World.grownBy_alloc w o none).trans (World.grownBy_alloc _ o2 none))).dL rfl
    have HO:Hid (∀y,w.grownBy y none->y.ownsRow 0 163 1 (.slice fa s.aG.length fc) s.aG.length (dD pk s.aG)):=fun y hy=>by
     have h2:=h.grow hy;have:=(h2.own (t:=2) (by omega) h2.aU.aG h2.ok.aG (by omega)).row;rw[hfv]at this;exact this
    have HP:Hid (∀(n:Nat)(o2:Obj)(w3:World)(gg c:Nat),(((w.alloc (.cells #[Im (s.acc:Int),Im size,Im 0] 72)).alloc o2).drewN n).grownBy w3 (Value.slice fa s.aG.length fc).ownBlock->w3.ownsRow 0 163 1 (.slice (some (Ad gg 0)) (s.aG.length+1) c) (s.aG.length+1) (dD pk s.aG++[Pt w.heap.size 0])->((Value.slice fa s.aG.length fc).ownBlock=some gg\/gg=w.heap.size+2)->
     (∃x,w3.cell? (Ad L 13)=some x)/\(∀j,w3.frozen? (Ad L j)=false)/\w3.cell? (Ad L 10)=some (Im (s.acc:Int))/\RV w tag L R cv cap ((w3.setCell (Ad L 13) (.slice (some (Ad gg 0)) (s.aG.length+1) c)).setCell (Ad L 10) (Im ((s.acc:Int)+1))) {s with aG:=s.aG++[s.acc],all:=s.all++[⟨size,0⟩],acc:=s.acc+1}):=by
     intro n o2 w3 gg c hg how hat;have gy:w.grownBy (((w.alloc (.cells #[Im (s.acc:Int),Im size,Im 0] 72)).alloc o2).drewN n) none:=((World.grownBy_alloc w _ none).trans (World.grownBy_alloc _ o2 none)).trans (dh _ n);have hy:(((w.alloc (.cells #[Im (s.acc:Int),Im size,Im 0] 72)).alloc o2).drewN n).heap[w.heap.size]? =some (.cells #[Im (s.acc:Int),Im size,Im 0] 72):=Ot w _ o2;have hys:(((w.alloc (.cells #[Im (s.acc:Int),Im size,Im 0] 72)).alloc o2).drewN n).heap.size=w.heap.size+2:=by show((w.alloc _).alloc o2).heap.size=_;rw[kK,kK]
     obtain⟨a1,a2⟩:=h.ZM gy (b:=w.heap.size) (Nat.le_refl _) (by omega) ⟨size,0⟩ (by
      intro j u hj;rw[Nat.zero_add,aA hy,hacc];simpa [wE]using hj) (fun j=>eu hy)
     have e0:xH pk s.all.length w.heap.size s.all.length=w.heap.size:=if_pos rfl;have e1:dD pk s.aG++[Pt w.heap.size 0]=dD (xH pk s.all.length w.heap.size) (s.aG++[s.all.length]):=by
      have e2:dD (xH pk s.all.length w.heap.size) s.aG=dD pk s.aG:=W9 fun q hq=>if_neg (by have:=h.ok.aG q hq;omega);show _=List.map _ _;rw[List.map_append];show _=dD _ s.aG++[ptr _ s.all.length];rw[e2,ptr,e0]
     rw[e1]at how;obtain⟨t2,ρ2,b1,b2,b3,b4⟩:=a1.Xd (l':=s.aG++[s.all.length]) (u:=.slice (some (Ad gg 0)) (s.aG.length+1) c) (by rw[hfv];exact hg) (by simpa using how) (fun k hk=>by
      rw[hfv];simp only[Value.ownBlock,Option.some.injEq]at hk;subst hk;exact hat.imp id (fun e=>by omega)) (fun q hq=>by
      rw[List.length_append];rcases List.mem_append.1 hq with hq|hq
      .have:=h.ok.aG q hq;omega
      .rw[List.mem_singleton.1 hq,List.length_singleton];omega)
     have GN:=a1.apart (t:=2) (by omega) (by rw[hfv];exact hg) a1.fO;obtain⟨d1,d2⟩:=b1.dF (j:=10) (u:=Im ((s.acc+1:Nat):Int)) (by rw[Pn];omega) (s':={s with aG:=s.aG++[s.all.length],all:=s.all++[⟨size,0⟩],acc:=s.acc+1}) ⟨b1.aU.aG,b1.aU.aP,b1.aU.aJ,b1.aU.aT,b1.aU.aX,b1.aU.aQ⟩ ⟨b1.ok.aG,b1.ok.aP,b1.ok.aJ,b1.ok.aQ,b1.ok.kept,b1.ok.turn,b1.ok.ah⟩ rfl rfl rfl;refine⟨b3,b4,?_,t2,ρ2,xH pk s.all.length w.heap.size,?_,?_⟩
     .rw[World.cell?_of_block GN];exact a1.dL rfl
     .rw[show s.aG++[s.acc]=s.aG++[s.all.length] by rw[hacc]];exact d1
     .exact(a2.trans b2).trans d2
    clear h hs hof hfv hacc;go_enter func36,ntmps36;go_wp2_with fail;go_region_law ((refine step_append_lies _ (by rfl) _ _ _ (by rfl) 0 163 T1 _ 1 8 Tryz.underlying155 hT1 hy0 hy1 hy2 (by rfl) (by omega) (.slice fa s.aG.length fc) s.aG.length (dD pk s.aG) (by rfl) (HO.out _ (by repeat (first|exact World.grownBy.refl _ _|refine fG ?_|refine fH ?_|refine gB ?_))) (Ad (w.heap.size+1) 0) 1 1 [Pt w.heap.size 0] (by rfl) (by rfl) (World.news_of_block (cs:=#[Pt w.heap.size 0]) (t:=163) (fr:=(0,0)) (GZ w _ _)) (by simp[Value.oneCell']) (by omega) (by unfold maxLen;omega) (by omega) (by simp) (w.heap.size+2) (by simp) ?_;intro gg cap1 w3 hown1 hgrow hat hlt;obtain⟨⟨x13,s1⟩,s2,s3,s4⟩:=HP.out _ _ _ _ _ hgrow hown1 hat;have HK:=bC s4;clear s4));all_goals
     clear HO HP hown1 hgrow hat;go_wp2_with fail;go_ret;exact⟨rfl,HK.out⟩
end
section
variable {w w' w2:World}{pk:Nat->Nat}{v:Value}{l:List Nat}
theorem adP:(prog.info? 72).map (fun i=>(i.zero,i.size,i.bytes))=some (some (.agg #[Im 0,Im 0,Im 0]),3,24):=by kernel_rfl
def kX(all:List Lp)(l:List Nat):List Value:=l.flatMap fun q=>wE q (all.getD q ⟨0,0⟩)
theorem aiR(all:List Lp)(l:List Nat):(kX all l).length=l.length * 3:=by
 induction l with
 |nil=>rfl
 |cons k l ih=>simp only[kX,List.flatMap_cons,List.length_append,List.length_cons,wE,List.length_nil]at ih⊢;omega
theorem aiS(all:List Lp)(l:List Nat)(k q:Nat)(h:l[k]? =some q):kX all (l.take (k+1))=kX all (l.take k)++wE q (all.getD q ⟨0,0⟩):=by
 have h1:l.take (k+1)=l.take k++[q]:=by rw[List.take_add_one,h];rfl
 rw[h1];simp[kX]
theorem aiT{all:List Lp}(h:BZ w pk v l)(hl:l.length<=1000000000000)(hp:∀q∈l,nK w (pk q) 0 (wE q (all.getD q ⟨0,0⟩))):
 Calls prog 74 #[v] w fun e w'=>∃u,e=.returned u/\w'.ownsRow w.heap.size 72 3 u l.length (kX all l)/\w.grownBy w' none:=by
 obtain⟨⟨a,cap,rfl,hrow⟩,hpk⟩:=h;obtain⟨i0,hi,hz0,hz1,hz2⟩:=info_parts adP;have HR:Hid ((∀i q,l[i]? =some q->∃g,a=some (Ad g 0)/\w.cell? (Ad g i)=some (ptr pk q))/\∀q∈l,nK w (pk q) 0 (wE q (all.getD q ⟨0,0⟩))):=⟨hrow,hp⟩;clear hrow hpk hp;go_enter func74,ntmps74;go_wp2_with fail;go_loopg [3,8] (l.length+1) (fun gg u i wr=>Hid (∃k:Nat,k+gg=l.length+1/\k<=l.length/\i=Im k/\wr.ownsRow w.heap.size 72 3 u k (kX all (l.take k))/\w.grownBy wr none))
 case atStart=>exact⟨0,by omega,Nat.zero_le _,rfl,World.ownsRow_nil _ _ _ _,World.grownBy.refl _ _⟩
 case round=>
  obtain⟨k,hk1,hk2,rfl,hown,hgr⟩:=hrel.out;clear hrel;by_cases hlt:k<l.length
  .have d1:decide ((k:Int)<(l.length:Int))=true:=decide_eq_true (by omega);have j0:(0:Int)<=(k:Int):=by omega
   have j1:(k:Int)<(l.length:Int):=by omega
   have hget:l[k]? =some l[k]:=by simp
   obtain⟨gb,hag,c0⟩:=HR.out.1 k _ hget;subst hag;have k0:wr.cell? (Ad gb k)=some (ptr pk l[k]):=hgr.cell c0 (by simp);have hc:=HR.out.2 l[k] (List.getElem_mem hlt);have p0:wr.cell? (Ad (pk l[k]) 0)=some (Im ((l[k]:Nat):Int)):=hgr.cell (hc.l9 (j:=0) rfl) (by simp);have p1:wr.cell? (Ad (pk l[k]) 1)=some (Im (all.getD l[k] ⟨0,0⟩).size):=hgr.cell (hc.l9 (j:=1) rfl) (by simp);have p2:wr.cell? (Ad (pk l[k]) 2)=some (Im (all.getD l[k] ⟨0,0⟩).on):=hgr.cell (hc.l9 (j:=2) rfl) (by simp);have HT:Hid (kX all (l.take (k+1))=kX all (l.take k)++wE l[k] (all.getD l[k] ⟨0,0⟩)):=aiS all l k _ hget;have hlen:(kX all (l.take k)).length=k * 3:=by rw[aiR,List.length_take];omega
   obtain⟨ua,uc,rfl⟩:=fJ hown;have hs:=hgr.size;have qI:Hid (∀o,(wr.alloc o).ownsRow w.heap.size 72 3 (.slice ua k uc) k (kX all (l.take k))):=fun o=>hown.alloc o;have HG:Hid (w.grownBy wr none):=hgr;have HX:Hid (∀o w2,(wr.alloc o).grownBy w2 (Value.slice ua k uc).ownBlock->w.grownBy w2 none):=fun o w2 h2=>by
    refine((hgr.trans (World.grownBy_alloc wr o none))).andThen h2 (fun j ej=>?_);exact Or.inl (hown.lt j ej).1
   obtain⟨g',hg'⟩:∃g',gk=g'+1:=⟨gk-1,by omega⟩;clear hget hc hown hgr c0;generalize all.getD l[k] ⟨0,0⟩=pp at *;obtain⟨ps,po⟩:=pp;simp only at p1 p2;generalize l[k]=q at *;simp only[ptr]at k0;unfold wE at HT;simp only at HT;generalize kX all (l.take k)=cells at *;go_wp2_with (at_builtin;refine wpList_append_lies _ rfl _ _ 23 rfl w.heap.size 72 i0 _ 3 24 Tryz.underlying23 hi hz0 hz1 hz2 rfl (by decide) (.slice ua k uc) k cells rfl (qI.out _) (Ad wr.heap.size 0) 1 1 [Im (q:Int),Im ps,Im po] rfl rfl (World.news_of_block (cs:=#[Im (q:Int),Im ps,Im po]) (t:=72) (fr:=(0,0)) (heap_alloc_new _ _)) (by simp[Value.oneCell']) (by decide) (by unfold maxLen;omega) (by omega) (by simp;omega) (wr.heap.size+1) (by simp) ?_;intro g cap' w2 hown hgr hat hlt2);have HN:Hid (w2.ownsRow w.heap.size 72 3 (.slice (some (Ad g 0)) (k+1) cap') (k+1) (kX all (l.take (k+1)))/\w.grownBy w2 none):=by
    rw[HT.out];exact⟨hown,HX.out _ _ hgr⟩
   clear hown hgr hat qI HX HT;go_wp2_with fail;go_roundg g'
   case measure=>omega
   case rel=>exact⟨k+1,by omega,by omega,by go_num,HN.out⟩
  .have d1:decide ((k:Int)<(l.length:Int))=false:=decide_eq_false (by omega);have hke:k=l.length:=by omega
   subst hke;rw[List.take_of_length_le (Nat.le_refl _)]at hown;have HN:=bC (And.intro hown hgr);clear hown hgr;go_wp2_with fail;go_ret;exact⟨_,rfl,HN.out⟩
end
section
variable {w w' w2 w1:World}{tag:Nat->Nat}{L R cap:Nat}{pk:Nat->Nat}{cv u v:Value}{ρ:bW}{s:aO}
def LZ(i:Nat)(r:Lr):List Value:=[Im (i:Int),Im (10 * (i+1):Int),Im (r.cO:Int),Im (r.out:Int),.bool r.nX]
def seenCells(l:List Lr)(k:Nat):List Value:=(List.range k).flatMap fun i=>LZ i (l.getD i lT)
theorem XG(l:List Lr)(k:Nat):seenCells l (k+1)=seenCells l k++LZ k (l.getD k lT):=by
 unfold seenCells;rw[List.range_succ,List.flatMap_append];simp
theorem XF(l:List Lr):∀k,(seenCells l k).length=k * 5
 |0=>rfl
 |k+1=>by rw[XG,List.length_append,XF l k];simp[LZ];omega
theorem adQ:(prog.info? 74).map (fun i=>(i.zero,i.size,i.bytes))=some (some (.agg #[Im 0,Im 0,Im 0,Im 0,.bool false]),5,40):=by kernel_rfl
theorem wu{B B' n k:Nat}{T:TypeId}{u:Value}{us:List Value}(h:w.ownsRow B T k u n us)(hb:B'<=B):w.ownsRow B' T k u n us:=by
 rcases h with⟨h1,h|⟨g,cap,cur,h2,h3,h4⟩⟩
 .exact⟨h1,Or.inl h⟩
 .exact⟨h1,Or.inr ⟨g,cap,cur,h2,Nat.le_trans hb h3,h4⟩⟩
theorem bg.told(h:bg w tag L R pk cv cap ρ s){t:Nat}{l:List Nat}(ht:2<=t)(h1:(ρ t).1=163/\(ρ t).2.2=dD pk l)(hm:∀q∈l,q<s.all.length)(hl:l.length<=1000000000000):
 Calls prog 74 #[(ρ t).2.1] w fun e w'=>∃ua uc,e=.returned (.slice ua l.length uc)/\w'.ownsRow w.heap.size 72 3 (.slice ua l.length uc) l.length (kX s.all l)/\w.grownBy w' none:=by
 refine(aiT (all:=s.all) (h.own ht h1 hm (by omega)).read hl (fun q hq=>h.mg q _ (by have:=hm q hq;rw[List.getD_eq_getElem?_getD,List.getElem?_eq_getElem this];rfl))).mono ?_;rintro e w' ⟨u,e1,e2,e3⟩;obtain⟨ua,uc,hu⟩:=fJ e2;subst hu;exact⟨ua,uc,e1,e2,e3⟩
def wX(s:aO)(l:List Nat)(y:World)(u:Value)(w':World):Prop:=(∃ua uc,u=.slice ua l.length uc)/\w'.ownsRow y.heap.size 72 3 u l.length (kX s.all l)/\y.grownBy w' none
def I9(w:World)(s:aO)(b:Nat)(u1 u2:Value)(wx:World):Prop:=w.heap.size<b/\wx.heap[b]? =some (.cells #[Nl,u1,u2] 25)/\wx.heap[w.heap.size]? =some (.cells #[Nl,Nl,Nl] 25)/\wx.ownsRow w.heap.size 72 3 u1 s.aG.length (kX s.all s.aG)/\wx.ownsRow w.heap.size 72 3 u2 s.aJ.length (kX s.all s.aJ)/\u1.ownBlock≠some b/\u2.ownBlock≠some b/\w.grownBy wx none
theorem aat{y1 y2 w1 w2:World}{u1 u2:Value}(hg1:w.grownBy y1 none)(h0:y1.heap[w.heap.size]? =some (.cells #[Nl,Nl,Nl] 25))(k1:wX s s.aG y1 u1 w1)(hg2:w1.grownBy y2 none)(k2:wX s s.aJ y2 u2 w2):I9 w s w2.heap.size u1 u2 (w2.alloc (.cells #[Nl,u1,u2] 25)):=by
 obtain⟨_,r1,g1⟩:=k1;obtain⟨_,r2,g2⟩:=k2;have s0:=hg1.size;have s1:=g1.size;have s2:=hg2.size;have s3:=g2.size;have l0:=(Array.getElem?_eq_some_iff.1 h0).1;have g12:=g1.trans (hg2.trans g2);have r1':=r1.kept (hg2.trans g2) (by cases u1.ownBlock<;>simp);have ga:=World.grownBy_alloc w2 (.cells #[Nl,u1,u2] 25) none;refine⟨by omega,heap_alloc_new _ _,?_,wu (r1'.alloc _) s0,wu (r2.alloc _) (by omega),fun e=>?_,fun e=>?_,(hg1.trans g12).trans ga⟩
 .rw[(g12.trans ga).block _ l0 (by simp)];exact h0
 .have:=(r1'.lt _ e).2;omega
 .have:=(r2.lt _ e).2;omega
theorem SQ{y1 y2 w1 w2:World}{u1 u2:Value}{b:Nat}(hg1:w.grownBy y1 none)(h0:y1.heap[w.heap.size]? =some (.cells #[Nl,Nl,Nl] 25))(k1:wX s s.aG y1 u1 w1)(hg2:w1.grownBy y2 none)(k2:wX s s.aJ y2 u2 w2)(hb:w.heap.size<b)
 (hz:y1.heap[b]? =some (.cells #[Nl,Nl,Nl] 25)\/(w1.heap.size<=b/\y2.heap[b]? =some (.cells #[Nl,Nl,Nl] 25))):
 I9 w s b u1 u2 (((w2.setCell (Ad b 0) (Nl)).setCell (Ad b 1) u1).setCell (Ad b 2) u2):=by
 obtain⟨_,r1,g1⟩:=k1;obtain⟨_,r2,g2⟩:=k2;have s0:=hg1.size;have s1:=g1.size;have s2:=hg2.size;have s3:=g2.size;have l0:=(Array.getElem?_eq_some_iff.1 h0).1;have g12:=g1.trans (hg2.trans g2);have r1':=r1.kept (hg2.trans g2) (by cases u1.ownBlock<;>simp);have hw:w2.heap[b]? =some (.cells #[Nl,Nl,Nl] 25)/\u1.ownBlock≠some b/\u2.ownBlock≠some b:=by
  rcases hz with hz|⟨hz1,hz⟩
  .have lb:=(Array.getElem?_eq_some_iff.1 hz).1;refine⟨by rw[g12.block _ lb (by simp)];exact hz,fun e=>?_,fun e=>?_⟩
   .have:=(r1.lt _ e).1;omega
   .have:=(r2.lt _ e).1;omega
  .have lb:=(Array.getElem?_eq_some_iff.1 hz).1;refine⟨by rw[g2.block _ lb (by simp)];exact hz,fun e=>?_,fun e=>?_⟩
   .have:=(r1.lt _ e).2;omega
   .have:=(r2.lt _ e).1;omega
 obtain⟨hw,n1,n2⟩:=hw;have gs:w2.grownBy (((w2.setCell (Ad b 0) (Nl)).setCell (Ad b 1) u1).setCell (Ad b 2) u2) (some b):=((dV w2 b 0 _).trans (dV _ b 1 _)).trans (dV _ b 2 _);have hh1:(w2.setCell (Ad b 0) (Nl)).heap[b]? =some (.cells #[Nl,Nl,Nl] 25):=heap_setCell_same _ _ _ _ _ _ hw;have hh2:((w2.setCell (Ad b 0) (Nl)).setCell (Ad b 1) u1).heap[b]? =some (.cells #[Nl,u1,Nl] 25):=heap_setCell_same _ _ _ _ _ _ hh1;have hh3:(((w2.setCell (Ad b 0) (Nl)).setCell (Ad b 1) u1).setCell (Ad b 2) u2).heap[b]? =some (.cells #[Nl,u1,u2] 25):=heap_setCell_same _ _ _ _ _ _ hh2;refine⟨hb,hh3,?_,wu (r1'.kept gs ?_) s0,wu (r2.kept gs ?_) (by omega),n1,n2,(hg1.trans g12).andThen gs fun j hj=>Or.inl (by cases hj;omega)⟩
 .rw[gs.block _ (by omega) (by simp;omega),g12.block _ l0 (by simp)];exact h0
 .cases hc:u1.ownBlock with
  |none=>exact Or.inl rfl
  |some k=>exact Or.inr fun e=>n1 (by rw[hc,e])
 .cases hc:u2.ownBlock with
  |none=>exact Or.inl rfl
  |some k=>exact Or.inr fun e=>n2 (by rw[hc,e])
structure Seen(w wc:World)(s:aO)(b:Nat)(u1 u2:Value)(ra:Option Addr)(rc k:Nat)(wr:World):Prop where
 aW:wr.heap[b]? =some (.cells #[.slice ra k rc,u1,u2] 25)
 row:wr.ownsRow wc.heap.size 74 5 (.slice ra k rc) k (seenCells s.ah k)
 grown:wc.grownBy wr (some b)
theorem ajj(tmps:Array Value)(w:World)(g:Nat)(x0 x1 x2:Option Addr)(n0 n1 n2 c0 c1 c2:Nat)(h2:tmps[2]? =some (Pt g 0))(h:w.heap[g]? =some (.cells #[.slice x0 n0 c0,.slice x1 n1 c1,.slice x2 n2 c2] 25)):
 (results Tryz.f73 tmps).run prog w=.ok (.agg #[.slice x0 n0 c0,.slice x1 n1 c1,.slice x2 n2 c2]) w:=by
 have q0:w.cell? (Ad g 0)=some (.slice x0 n0 c0):=aA h;have q1:w.cell? (Ad g 1)=some (.slice x1 n1 c1):=aA h;have q2:w.cell? (Ad g 2)=some (.slice x2 n2 c2):=aA h;simp[results,Tryz.results73,go_sem,h2,q0,q1,q2]
theorem Seen.next{wc wr w2:World}{b k rc g c:Nat}{u1 u2:Value}{ra:Option Addr}(h:Seen w wc s b u1 u2 ra rc k wr)(hb:b<wc.heap.size)(o o2:Obj)(hg:((wr.alloc o).alloc o2).grownBy w2 (Value.slice ra k rc).ownBlock)(how:w2.ownsRow wc.heap.size 74 5 (.slice (some (Ad g 0)) (k+1) c) (k+1) (seenCells s.ah (k+1))):
 w2.cell? (Ad b 0)=some (.slice ra k rc)/\(∀j,w2.frozen? (Ad b j)=false)/\Seen w wc s b u1 u2 (some (Ad g 0)) c (k+1) (w2.setCell (Ad b 0) (.slice (some (Ad g 0)) (k+1) c)):=by
 have hs:=h.grown.size;have ga:wr.grownBy ((wr.alloc o).alloc o2) none:=(World.grownBy_alloc wr o none).trans (World.grownBy_alloc _ o2 none);have hs2:=ga.size;have hw2:w2.heap[b]? =some (.cells #[.slice ra k rc,u1,u2] 25):=by
  rw[hg.block b (by omega) (fun e=>by have:=(h.row.lt b e.symm).1;omega),ga.block b (by omega) (by simp)];exact h.aW
 have gs:=dV w2 b 0 (.slice (some (Ad g 0)) (k+1) c);refine⟨aA hw2,fun j=>eu hw2,heap_setCell_same _ _ _ _ _ _ hw2,how.kept gs ?_,((h.grown.andThen ga fun j hj=>by cases hj).andThen hg fun j hj=>Or.inl (h.row.lt j hj).1).trans gs⟩;right;intro e;have:=(how.lt g rfl).1;simp only[Value.ownBlock,Option.some.injEq]at e;omega
theorem aji{wc wr:World}{b k rc:Nat}{u1 u2:Value}{ra:Option Addr}(hB:I9 w s b u1 u2 wc)(h:Seen w wc s b u1 u2 ra rc k wr):
 wr.heap[w.heap.size]? =some (.cells #[Nl,Nl,Nl] 25)/\(((wr.setCell (Ad w.heap.size 0) (.slice ra k rc)).setCell (Ad w.heap.size 1) u1).setCell (Ad w.heap.size 2) u2).ownsRow w.heap.size 74 5 (.slice ra k rc) k (seenCells s.ah k)/\(((wr.setCell (Ad w.heap.size 0) (.slice ra k rc)).setCell (Ad w.heap.size 1) u1).setCell (Ad w.heap.size 2) u2).ownsRow w.heap.size 72 3 u1 s.aG.length (kX s.all s.aG)/\(((wr.setCell (Ad w.heap.size 0) (.slice ra k rc)).setCell (Ad w.heap.size 1) u1).setCell (Ad w.heap.size 2) u2).ownsRow w.heap.size 72 3 u2 s.aJ.length (kX s.all s.aJ)/\w.grownBy (((wr.setCell (Ad w.heap.size 0) (.slice ra k rc)).setCell (Ad w.heap.size 1) u1).setCell (Ad w.heap.size 2) u2) none:=by
 obtain⟨hb,hbk,hb0,hr1,hr2,hn1,hn2,hgw⟩:=hB;have l0:=(Array.getElem?_eq_some_iff.1 hb0).1;have s1:=h.grown.size;have s2:=hgw.size;have gs:wr.grownBy (((wr.setCell (Ad w.heap.size 0) (.slice ra k rc)).setCell (Ad w.heap.size 1) u1).setCell (Ad w.heap.size 2) u2) (some w.heap.size):=((dV wr w.heap.size 0 _).trans (dV _ w.heap.size 1 _)).trans (dV _ w.heap.size 2 _);have ne0:∀{u:Value}{n:Nat}{us:List Value},wc.ownsRow w.heap.size 72 3 u n us->u.ownBlock≠some w.heap.size:=fun hr e=>by
  rcases hr with⟨_,⟨hx,_⟩|⟨g,cap,cur,h2,h3,h4,_⟩⟩
  .rw[hx]at e;cases e
  .rw[h2]at e;have e2:g=w.heap.size:=Option.some.inj e;rw[e2,hb0]at h4;cases h4
 have kp:∀{u:Value}{n:Nat}{us:List Value},wc.ownsRow w.heap.size 72 3 u n us->u.ownBlock≠some b->(((wr.setCell (Ad w.heap.size 0) (.slice ra k rc)).setCell (Ad w.heap.size 1) u1).setCell (Ad w.heap.size 2) u2).ownsRow w.heap.size 72 3 u n us:=fun{u n us} hr hne=>by
  have n0:=ne0 hr;refine(hr.kept h.grown ?_).kept gs ?_
  .cases hc:u.ownBlock with
   |none=>exact Or.inl rfl
   |some k=>exact Or.inr fun e=>hne (by rw[hc,e])
  .cases hc:u.ownBlock with
   |none=>exact Or.inl rfl
   |some k=>exact Or.inr fun e=>n0 (by rw[hc,e])
 refine⟨?_,wu (h.row.kept gs ?_) s2,kp hr1 hn1,kp hr2 hn2,(hgw.andThen h.grown fun j hj=>Or.inl (by cases hj;omega)).andThen gs fun j hj=>Or.inl (by cases hj;omega)⟩
 .rw[h.grown.block _ l0 (by simp;omega)];exact hb0
 .cases hc:(Value.slice ra k rc).ownBlock with
  |none=>exact Or.inl rfl
  |some x=>
   right;intro e;have:=(h.row.lt x hc).1;cases e;omega
theorem YE(h:bg w tag L R pk cv cap ρ s)(hs:Small s):Calls prog 73 #[Pt L 0] w fun e w'=>∃ra rc fa fc aa ac,e=.returned (.agg #[.slice ra s.ah.length rc,.slice fa s.aG.length fc,.slice aa s.aJ.length ac])/\w'.ownsRow w.heap.size 74 5 (.slice ra s.ah.length rc) s.ah.length (seenCells s.ah s.ah.length)/\w'.ownsRow w.heap.size 72 3 (.slice fa s.aG.length fc) s.aG.length (kX s.all s.aG)/\w'.ownsRow w.heap.size 72 3 (.slice aa s.aJ.length ac) s.aJ.length (kX s.all s.aJ)/\w.grownBy w' none:=by
 have hof:=h.own (t:=2) (by omega) h.aU.aG h.ok.aG (by have:=hs.aG;omega);have hoa:=h.own (t:=4) (by omega) h.aU.aJ h.ok.aJ (by have:=hs.aJ;omega);obtain⟨vf,hvf⟩:∃vf,(ρ 2).2.1=vf:=⟨_,rfl⟩;obtain⟨vg,Hl⟩:∃vg,(ρ 4).2.1=vg:=⟨_,rfl⟩;have HS:Hid (∀y,w.grownBy y none->(y.cell? (Ad L 13)=some vf/\y.cell? (Ad L 15)=some vg)/\y.cell? (Ad L 9)=some (.slice (some (Ad R 0)) s.ah.length cap)):=fun y hy=>by
  have h2:=h.grow hy;exact⟨⟨by rw[<-hvf];exact h2.dL rfl,by rw[<-Hl];exact h2.dL rfl⟩,h2.dL rfl⟩
 have HB:Hid (∀y v l,((v=vf/\l=s.aG)\/(v=vg/\l=s.aJ))->w.grownBy y none->Calls prog 74 #[v] y fun e w'=>∃ua un uc,e=.returned (.slice ua un uc)/\(w'.cell? (Ad L 13)=some vf/\w'.cell? (Ad L 15)=some vg)/\w'.heap.size≠L/\w.grownBy w' none/\(∀b,b<y.heap.size->b<w'.heap.size)/\(∀b j,b<y.heap.size->w'.cell? (Ad b j)=y.cell? (Ad b j))/\(∀b j,b<y.heap.size->w'.frozen? (Ad b j)=y.frozen? (Ad b j))/\wX s l y (.slice ua un uc) w'):=fun y v l hv hy=>by
  have h2:=h.grow hy;have key:Calls prog 74 #[v] y fun e w'=>∃ua uc,e=.returned (.slice ua l.length uc)/\w'.ownsRow y.heap.size 72 3 (.slice ua l.length uc) l.length (kX s.all l)/\y.grownBy w' none:=by
   rcases hv with⟨e1,e2⟩|⟨e1,e2⟩
   .rw[e1,e2,<-hvf];exact h2.told (t:=2) (by omega) h2.aU.aG h2.ok.aG hs.aG
   .rw[e1,e2,<-Hl];exact h2.told (t:=4) (by omega) h2.aU.aJ h2.ok.aJ hs.aJ
  refine key.mono ?_;rintro e w' ⟨ua,uc,e1,e2,e3⟩;have:=(h2.grow e3).nH (b:=L) (by rw[h2.fO];decide);exact⟨ua,_,uc,e1,(HS.out _ (hy.trans e3)).1,by omega,hy.trans e3,fun b hb=>Nat.lt_of_lt_of_le hb e3.size,fun b j hb=>World.cell?_of_block (e3.block b hb (by simp)),fun b j hb=>World.frozen?_of_block (e3.block b hb (by simp)),⟨ua,uc,rfl⟩,e2,e3⟩
 have nL:¬L=w.heap.size:=by have:=h.nH (b:=L) (by rw[h.fO];decide);omega
 have nL1:w.heap.size≠L:=fun e=>nL e.symm;have VT:w.heap.size+1≠L:=by have:=h.nH (b:=L) (by rw[h.fO];decide);omega
 obtain⟨⟨c13,c15⟩,c9⟩:=HS.out w (World.grownBy.refl _ _);have oI:Hid (∀y i r,w.grownBy y none->s.ah[i]? =some r->∃sa sc aa ac oa oc,y.cell? (Ad R (i * 8))=some (Im (i:Int))/\y.cell? (Ad R (i * 8+1))=some (Im (10 * (i+1):Int))/\y.cell? (Ad R (i * 8+2))=some (Im (r.cO:Int))/\y.cell? (Ad R (i * 8+3))=some (Im (r.out:Int))/\y.cell? (Ad R (i * 8+4))=some (.bool r.nX)/\y.cell? (Ad R (i * 8+5))=some (.slice sa r.aT.length sc)/\y.cell? (Ad R (i * 8+6))=some (.slice aa r.aX.length ac)/\y.cell? (Ad R (i * 8+7))=some (.slice oa r.aQ.length oc)):=fun y i r hy hi=>by
  have h2:=h.grow hy;obtain⟨sa,sc,e1,_⟩:=h2.C9 (t:=5+3 * i) (by omega) (h2.aU.aT i r hi);obtain⟨aa,ac,e2,_⟩:=h2.C9 (t:=6+3 * i) (by omega) (h2.aU.aX i r hi);obtain⟨oa,oc,e3⟩:=fJ (h2.own (t:=7+3 * i) (by omega) (h2.aU.aQ i r hi) (h2.ok.aQ i r hi) (by have:=(hs.aK i r hi).2.2.1;omega)).row;exact⟨sa,sc,aa,ac,oa,oc,by have:=h2.gu hi (j:=0) rfl;simpa using this,h2.gu hi (j:=1) rfl,h2.gu hi (j:=2) rfl,h2.gu hi (j:=3) rfl,h2.gu hi (j:=4) rfl,by rw[<-e1];exact h2.gu hi rfl,by rw[<-e2];exact h2.gu hi rfl,by rw[<-e3];exact h2.gu hi rfl⟩
 have hr4:=h.ok.ah;obtain⟨T0,hi0,hz0,hz1,hz2⟩:=info_parts adQ;clear hof hoa hvf Hl h hs;go_enter func73,ntmps73;go_upto_region 1 with fail;go_cut [3] (fun v3 wx=>Hid (∃(b:Nat)(ua ub:Option Addr)(un uc um ud:Nat),v3=Pt b 0/\I9 w s b (.slice ua un uc) (.slice ub um ud) wx/\un=s.aG.length/\um=s.aJ.length))
 case first=>
  go_region_held3 (fun w'=>w'.cell? (Ad L 13)=some vf/\w'.cell? (Ad L 15)=some vg) (go_keep)
   ((go_at_call 74;refine(HB.out _ _ _ (by first|exact Or.inl ⟨rfl,rfl⟩|exact Or.inr ⟨rfl,rfl⟩) (by repeat (first|exact World.grownBy.refl _ _|assumption|refine fG ?_|refine fH ?_|refine gB ?_))).mono ?_;rintro e wf ⟨ua,un,uc,rfl,⟨f1,f2⟩,f3,f4,f8,f6,f7,f5⟩))
  all_goals
   have k1:=‹wX s s.aG _ _ _›;have k2:=‹wX s s.aJ _ _ _›;obtain⟨⟨_,_,e1⟩,_,_⟩:=id k1;obtain⟨⟨_,_,e2⟩,_,_⟩:=id k2;have e1:=bC (Value.slice.inj e1).2.1;have e2:=bC (Value.slice.inj e2).2.1
  .go_wp2_with fail;go_meet;exact⟨_,_,_,_,_,_,_,rfl,aat (by repeat (first|exact World.grownBy.refl _ _|refine fG ?_|refine fH ?_|refine gB ?_)) (by exact heap_alloc_new w _) k1 (by repeat (first|exact World.grownBy.refl _ _|refine fG ?_|refine fH ?_|refine gB ?_)) k2,by first|exact e1.out|rfl,by first|exact e2.out|rfl⟩
  .go_wp2_with fail;go_meet;exact⟨_,_,_,_,_,_,_,rfl,SQ (by repeat (first|exact World.grownBy.refl _ _|refine fG ?_|refine fH ?_|refine gB ?_)) (by exact heap_alloc_new w _) k1 (by repeat (first|exact World.grownBy.refl _ _|refine fG ?_|refine fH ?_|refine gB ?_)) k2 (by have:=f4.size;have:=k1.2.2.size;simp at this;omega) (Or.inr ⟨Nat.le_refl _,by exact heap_alloc_new _ _⟩),by first|exact e1.out|rfl,by first|exact e2.out|rfl⟩
  .go_wp2_with fail;go_meet;exact⟨_,_,_,_,_,_,_,rfl,SQ (by repeat (first|exact World.grownBy.refl _ _|refine fG ?_|refine fH ?_|refine gB ?_)) (by exact Ot w _ _) k1 (by repeat (first|exact World.grownBy.refl _ _|refine fG ?_|refine fH ?_|refine gB ?_)) k2 (by omega) (Or.inl (by exact GZ w _ _)),by first|exact e1.out|rfl,by first|exact e2.out|rfl⟩
 case rest=>
  obtain⟨b,ua,ub,un,uc,um,ud,rfl,hB,rfl,rfl⟩:=hcut.out;clear hcut HB;have DY:=bC hB;obtain⟨hb,hbk,hb0,hr1,hr2,hn1,hn2,hgw⟩:=hB;have c9:wc.cell? (Ad L 9)=some (.slice (some (Ad R 0)) s.ah.length cap):=(HS.out wc hgw).2;have hbl:b<wc.heap.size:=(Array.getElem?_eq_some_iff.1 hbk).1;have H0:Hid (Seen w wc s b (.slice ua s.aG.length uc) (.slice ub s.aJ.length ud) none 0 0 wc):=⟨hbk,World.ownsRow_nil _ _ _ _,World.grownBy.refl _ _⟩;have MR:=bC hgw;clear hbk hb0 hr1 hr2 hn1 hn2 hgw c13 c15;go_wp2_with fail;go_loopg [22] (s.ah.length+1) (fun gg i wr=>Hid (∃(k:Nat)(ra:Option Addr)(rc:Nat),k+gg=s.ah.length+1/\k<=s.ah.length/\i=Im k/\Seen w wc s b (.slice ua s.aG.length uc) (.slice ub s.aJ.length ud) ra rc k wr))
  case atStart=>exact⟨0,none,0,by omega,Nat.zero_le _,rfl,H0.out⟩
  case round=>
   obtain⟨k,ra,rc,hk1,hk2,rfl,hS⟩:=hrel.out;clear hrel H0;have sS:=bC hS;have hbc:=hS.aW;by_cases hlt:k<s.ah.length
   .have d1:decide ((k:Int)<(s.ah.length:Int))=true:=decide_eq_true (by omega);have i0:(0:Int)<=(k:Int):=by omega
    have i1:(k:Int)<(s.ah.length:Int):=by omega
    obtain⟨g',hg'⟩:∃g',gk=g'+1:=⟨gk-1,by omega⟩;have hget:s.ah[k]? =some s.ah[k]:=by simp
    obtain⟨sa,sc,aa,ac,oa,oc,c0,c1,c2,c3,c4,c5,c6,c7⟩:=oI.out wr k _ (MR.out.andThen hS.grown fun j hj=>Or.inl (by cases hj;omega)) hget;have f0:∀o,(wr.alloc o).cell? (Ad b 0)=some (.slice ra k rc):=fun o=>by
     have:=hS.grown.size;exact(World.grownBy_alloc wr o none).cell (aA hbc) (by simp)
    have hlen:=XF s.ah k;have hsw:=hS.grown.size;have qI:Hid (∀o o2,((wr.alloc o).alloc o2).ownsRow wc.heap.size 74 5 (.slice ra k rc) k (seenCells s.ah k)):=fun o o2=>(hS.row.alloc o).alloc o2;have HX:Hid (∀(o o2:Obj)(w2:World)(g c:Nat),((wr.alloc o).alloc o2).grownBy w2 (Value.slice ra k rc).ownBlock->w2.ownsRow wc.heap.size 74 5 (.slice (some (Ad g 0)) (k+1) c) (k+1) (seenCells s.ah k++[Im (k:Int),Im (10 * (k+1):Int),Im (s.ah[k].cO:Int),Im (s.ah[k].out:Int),.bool s.ah[k].nX])->w2.cell? (Ad b 0)=some (.slice ra k rc)/\(∀j,w2.frozen? (Ad b j)=false)/\Hid (Seen w wc s b (.slice ua s.aG.length uc) (.slice ub s.aJ.length ud) (some (Ad g 0)) c (k+1) (w2.setCell (Ad b 0) (.slice (some (Ad g 0)) (k+1) c)))):=fun o o2 w2 g c hg how=>by
     refine hS.next hbl o o2 hg ?_;rw[XG,List.getD_eq_getElem?_getD,hget];exact how
    clear hS sS hbc hget oI DY;generalize s.ah[k]=r at *;generalize seenCells s.ah k=cells at *;go_wp2_with (at_builtin;refine wpList_append_lies _ rfl _ _ 22 rfl wc.heap.size 74 T0 _ 5 40 Tryz.underlying22 hi0 hz0 hz1 hz2 rfl (by decide) (.slice ra k rc) k cells rfl (qI.out _ _) (Ad (wr.heap.size+1) 0) 1 1 [Im (k:Int),Im (10 * (k+1):Int),Im (r.cO:Int),Im (r.out:Int),.bool r.nX] rfl rfl (World.news_of_block (cs:=#[Im (k:Int),Im (10 * (k+1):Int),Im (r.cO:Int),Im (r.out:Int),.bool r.nX]) (t:=74) (fr:=(0,0)) (GZ wr _ _)) (by simp[Value.oneCell']) (by decide) (by unfold maxLen;omega) (by omega) (by simp;omega) (wr.heap.size+2) (by simp) ?_;intro g cap' w2 hown hgr hat hlt2;obtain⟨x1,x2,x3⟩:=HX.out _ _ _ _ _ hgr hown;have HN:=bC x3;clear x3);clear HX qI hown hgr hat;go_roundg g'
    case measure=>omega
    case rel=>exact⟨k+1,_,_,by omega,by omega,by go_num,HN.out⟩
   .have d1:decide ((k:Int)<(s.ah.length:Int))=false:=decide_eq_false (by omega);have hke:k=s.ah.length:=by omega
    subst hke;obtain⟨v1,v2⟩:=aji DY.out hS;have HE:=bC v2;have HV:Hid ((((wr.setCell (Ad w.heap.size 0) (.slice ra s.ah.length rc)).setCell (Ad w.heap.size 1) (.slice ua s.aG.length uc)).setCell (Ad w.heap.size 2) (.slice ub s.aJ.length ud)).heap[w.heap.size]? =some (.cells #[.slice ra s.ah.length rc,.slice ua s.aG.length uc,.slice ub s.aJ.length ud] 25)):=by
     have y1:(wr.setCell (Ad w.heap.size 0) (.slice ra s.ah.length rc)).heap[w.heap.size]? =some (.cells #[.slice ra s.ah.length rc,Nl,Nl] 25):=heap_setCell_same _ _ _ _ _ _ v1;have y2:((wr.setCell (Ad w.heap.size 0) (.slice ra s.ah.length rc)).setCell (Ad w.heap.size 1) (.slice ua s.aG.length uc)).heap[w.heap.size]? =some (.cells #[.slice ra s.ah.length rc,.slice ua s.aG.length uc,Nl] 25):=heap_setCell_same _ _ _ _ _ _ y1;exact heap_setCell_same _ _ _ _ _ _ y2
    have b0:wr.cell? (Ad b 0)=some (.slice ra s.ah.length rc):=aA hbc;have b1:wr.cell? (Ad b 1)=some (.slice ua s.aG.length uc):=aA hbc;have b2:wr.cell? (Ad b 2)=some (.slice ub s.aJ.length ud):=aA hbc;have n0:wr.cell? (Ad w.heap.size 0)=some (Nl):=aA v1;have n1:wr.cell? (Ad w.heap.size 1)=some (Nl):=aA v1;have n2:wr.cell? (Ad w.heap.size 2)=some (Nl):=aA v1;have n3:∀j,wr.frozen? (Ad w.heap.size j)=false:=fun j=>eu v1;clear v1 v2 hS sS hbc DY oI;go_wp2_with fail;exact bodyPost_ret (ajj _ _ w.heap.size _ _ _ _ _ _ _ _ _ rfl HV.out) rfl ⟨ra,rc,ua,uc,ub,ud,rfl,HE.out⟩
end
section
variable {w:World}
def VX(i:Nat):Value:=.agg #[Im (i:Int),Im (10 * (i+1):Int),Im 2,Im 0,.bool false,Nl,Nl,Nl]
theorem aeH(tmps:Array Value)(w:World)(g:Nat)(i t:Int)(h2:tmps[2]? =some (Pt g 0))(h:w.heap[g]? =some (.cells #[Im i,Im t,Im 2,Im 0,.bool false,Nl,Nl,Nl] 167)):
 (results Tryz.f101 tmps).run prog w=.ok (.agg #[Im i,Im t,Im 2,Im 0,.bool false,Nl,Nl,Nl]) w:=by
 have q0:w.cell? (Ad g 0)=some (Im i):=aA h;have q1:w.cell? (Ad g 1)=some (Im t):=aA h;have q2:w.cell? (Ad g 2)=some (Im 2):=aA h;have q3:w.cell? (Ad g 3)=some (Im 0):=aA h;have q4:w.cell? (Ad g 4)=some (.bool false):=aA h;have q5:w.cell? (Ad g 5)=some (Nl):=aA h;have q6:w.cell? (Ad g 6)=some (Nl):=aA h;have q7:w.cell? (Ad g 7)=some (Nl):=aA h;simp[results,Tryz.results101,go_sem,h2,q0,q1,q2,q3,q4,q5,q6,q7]
theorem aeG(i:Nat)(hi:i<=1000):Calls prog 101 #[Im (i:Int)] w fun e w'=>e=.returned (VX i)/\w.grownBy w' none:=by
 unfold VX;go_enter func101,ntmps101;go_wp2_with fail;exact bodyPost_ret (aeH _ _ w.heap.size _ _ rfl (heap_alloc_new w _)) rfl ⟨rfl,World.grownBy_alloc _ _ none⟩
end
end
end Go.Proofs.YthllhabjfchgiaaGreatDoor
