import Derived.Test.YthllhabjfchgiaaGreatDoorHz45
set_option maxRecDepth 100000
set_option maxHeartbeats 8000000
namespace Go.Proofs.YthllhabjfchgiaaGreatDoor
open _root_.Go.Proofs.Tryz
section
open Go.RowKit Hx
attribute [local go_sem ↓] Go.wp_at_zero Go.wp_at_succ
attribute [local go_sem] bT
section
variable {w w' w2 w1:World}{tag:Nat->Nat}{L R cap:Nat}{pk:Nat->Nat}{cv u v:Value}{ρ:bW}{s:aO}
theorem X4(h:bg w tag L R pk cv cap ρ s)(hs:Small s):Calls prog 37 #[Pt L 0] w fun e w'=>∃a1 c1 a2 c2 a3 c3 a4 c4 a5 c5 a6 c6,e=.returned (.agg (Am s (.slice a1 s.ah.length c1) (.slice a2 s.aG.length c2) (.slice a3 s.aJ.length c3) (.slice a4 s.aP.length c4) (.slice a5 s.ah.length c5) (.slice a6 s.ah.length c6)))/\Ju s w (.slice a1 s.ah.length c1) (.slice a2 s.aG.length c2) (.slice a3 s.aJ.length c3) (.slice a4 s.aP.length c4) (.slice a5 s.ah.length c5) (.slice a6 s.ah.length c6) w':=by
 obtain⟨vu,hvu⟩:∃vu,(ρ 3).2.1=vu:=⟨_,rfl⟩;have HS:Hid (∀y,w.grownBy y none->(y.cell? (Ad L 1)=some (Im s.r0)/\y.cell? (Ad L 2)=some (Im s.r1)/\y.cell? (Ad L 3)=some (Im s.r2)/\y.cell? (Ad L 4)=some (Im s.r3)/\y.cell? (Ad L 5)=some (Im s.r4)/\y.cell? (Ad L 6)=some (Im s.r5)/\y.cell? (Ad L 7)=some (Im s.r6)/\y.cell? (Ad L 8)=some (Im s.r7)/\y.cell? (Ad L 10)=some (Im (s.acc:Int))/\y.cell? (Ad L 11)=some (Im (s.dA:Int))/\y.cell? (Ad L 12)=some (Im (s.dN:Int))/\y.cell? (Ad L 14)=some vu/\y.cell? (Ad L 18)=some (Im (s.bQ:Int)))/\y.cell? (Ad L 9)=some (.slice (some (Ad R 0)) s.ah.length cap)):=fun y hy=>by
  have h2:=h.grow hy;exact⟨⟨h2.dL rfl,h2.dL rfl,h2.dL rfl,h2.dL rfl,h2.dL rfl,h2.dL rfl,h2.dL rfl,h2.dL rfl,h2.dL rfl,h2.dL rfl,h2.dL rfl,by rw[<-hvu];exact h2.dL rfl,h2.dL rfl⟩,h2.dL rfl⟩
 have HV:Hid (∀y,w.grownBy y none->Calls prog 73 #[Pt L 0] y fun e w'=>∃ra rn rc fa fn fc aa an ac,e=.returned (.agg #[.slice ra rn rc,.slice fa fn fc,.slice aa an ac])/\w.grownBy w' none/\Hid (rn=s.ah.length/\fn=s.aG.length/\an=s.aJ.length)/\Sl s y (.slice ra rn rc) (.slice fa fn fc) (.slice aa an ac) w'):=fun y hy=>by
  refine(YE (h.grow hy) hs).mono ?_;rintro e w' ⟨ra,rc,fa,fc,aa,ac,e1,e2,e3,e4,e5⟩;exact⟨ra,_,rc,fa,_,fc,aa,_,ac,e1,hy.trans e5,⟨rfl,rfl,rfl⟩,e2,e3,e4,e5⟩
 have hL:=h.nH (b:=L) (by rw[h.fO];decide);have HT:Hid (∀W y V,L<W.heap.size->V<W.heap.size->w.grownBy W none->W.grownBy y none->Calls prog 74 #[vu] y fun e w'=>∃ua un uc,e=.returned (.slice ua un uc)/\(w'.heap.size≠L/\w'.heap.size≠V/\L<w'.heap.size/\V<w'.heap.size)/\(∀j:Nat,w'.cell? (Ad L j)=W.cell? (Ad L j))/\(∀j:Nat,w'.cell? (Ad V j)=W.cell? (Ad V j))/\(∀b,b<y.heap.size->b<w'.heap.size)/\(∀b j,b<y.heap.size->w'.cell? (Ad b j)=y.cell? (Ad b j))/\(∀b j,b<y.heap.size->w'.frozen? (Ad b j)=y.frozen? (Ad b j))/\W.grownBy w' none/\wX s s.aP y (.slice ua un uc) w'):=fun W y V GR hVW hw hy=>by
  have h2:=h.grow (hw.trans hy);have key:=h2.told (t:=3) (by omega) h2.aU.aP h2.ok.aP hs.aP;rw[hvu]at key;refine key.mono ?_;rintro e w' ⟨ua,uc,e1,e2,e3⟩;have g:=hy.trans e3;have n3:=g.size;exact⟨ua,_,uc,e1,⟨by omega,by omega,by omega,by omega⟩,fun j=>World.cell?_of_block (g.block L GR (by simp)),fun j=>World.cell?_of_block (g.block V hVW (by simp)),fun b hb=>Nat.lt_of_lt_of_le hb e3.size,fun b j hb=>World.cell?_of_block (e3.block b hb (by simp)),fun b j hb=>World.frozen?_of_block (e3.block b hb (by simp)),g,⟨ua,uc,rfl⟩,e2,e3⟩
 have oI:Hid (∀y i r,w.grownBy y none->s.ah[i]? =some r->∃sa sc aa ac oa oc,y.cell? (Ad R (i * 8))=some (Im (i:Int))/\y.cell? (Ad R (i * 8+1))=some (Im (10 * (i+1):Int))/\y.cell? (Ad R (i * 8+2))=some (Im (r.cO:Int))/\y.cell? (Ad R (i * 8+3))=some (Im (r.out:Int))/\y.cell? (Ad R (i * 8+4))=some (.bool r.nX)/\y.cell? (Ad R (i * 8+5))=some (.slice sa r.aT.length sc)/\y.cell? (Ad R (i * 8+6))=some (.slice aa r.aX.length ac)/\y.cell? (Ad R (i * 8+7))=some (.slice oa r.aQ.length oc)):=fun y i r hy hi=>by
  have h2:=h.grow hy;obtain⟨sa,sc,e1,_⟩:=h2.C9 (t:=5+3 * i) (by omega) (h2.aU.aT i r hi);obtain⟨aa,ac,e2,_⟩:=h2.C9 (t:=6+3 * i) (by omega) (h2.aU.aX i r hi);obtain⟨oa,oc,e3⟩:=fJ (h2.own (t:=7+3 * i) (by omega) (h2.aU.aQ i r hi) (h2.ok.aQ i r hi) (by have:=(hs.aK i r hi).2.2.1;omega)).row;exact⟨sa,sc,aa,ac,oa,oc,by have:=h2.gu hi (j:=0) rfl;simpa using this,h2.gu hi (j:=1) rfl,h2.gu hi (j:=2) rfl,h2.gu hi (j:=3) rfl,h2.gu hi (j:=4) rfl,by rw[<-e1];exact h2.gu hi rfl,by rw[<-e2];exact h2.gu hi rfl,by rw[<-e3];exact h2.gu hi rfl⟩
 have hr4:=h.ok.ah;obtain⟨T0,hi0,hz0,hz1,hz2⟩:=info_parts OW;clear h hs hvu;go_enter func37,ntmps37;go_wp2_with fail;refine(HV.out _ (by repeat (first|exact World.grownBy.refl _ _|refine fG ?_|refine fH ?_|refine gB ?_))).mono ?_;rintro e wv ⟨ra,rn,rc,fa,fn,fc,aa,an,ac,rfl,gv,HLn,kv⟩;have KV:=bC kv;have GV:=bC gv;clear kv HV;have nv:L<wv.heap.size:=by have:=gv.size;omega
 go_upto_region 2 with fail;obtain⟨W,hW⟩:∃W,wv.alloc (.cells #[.slice ra rn rc,.slice fa fn fc,.slice aa an ac] 25)=W:=⟨_,rfl⟩;obtain⟨V,hV⟩:∃V,wv.heap.size=V:=⟨_,rfl⟩;have hV0:W.heap[V]? =some (.cells #[.slice ra rn rc,.slice fa fn fc,.slice aa an ac] 25):=by rw[<-hW,<-hV];exact heap_alloc_new wv _
 have GW:Hid (wv.grownBy W none):=by rw[<-hW];exact World.grownBy_alloc wv _ none
 have v0:W.cell? (Ad V 0)=some (.slice ra rn rc):=aA hV0;have v1:W.cell? (Ad V 1)=some (.slice fa fn fc):=aA hV0;have v2:W.cell? (Ad V 2)=some (.slice aa an ac):=aA hV0;have nV:V<W.heap.size:=(Array.getElem?_eq_some_iff.1 hV0).1;obtain⟨⟨x1,x2,x3,x4,x5,x6,x7,x8,x10,x11,x12,x14,x18⟩,x9⟩:=HS.out _ (gv.trans GW.out);have nW:L<W.heap.size:=by omega
 rw[hW,hV];have HVz:=bC hV;clear hW hV0 gv hV;have nW1:W.heap.size≠L:=by omega
 have nW2:W.heap.size≠V:=by omega
 go_cut [4] (fun v4 wx=>Hid (∃(b un uc:Nat)(ua:Option Addr),v4=Pt b 0/\un=s.aP.length/\Gl W s (.slice ra rn rc) (.slice fa fn fc) (.slice aa an ac) b (.slice ua un uc) wx))
 case first=>
  refine ajC (f:=4) (fun w'=>(∀j:Nat,w'.cell? (Ad L j)=W.cell? (Ad L j))/\(∀j:Nat,w'.cell? (Ad V j)=W.cell? (Ad V j))) [0,1,2,3,4,5,6,7,8,9,10,11,12,13,14,15,16,17,18,19,20,21,22,23,24,25,26,28,29,30,31] #[true,true,true,true,true,true,true,true,true,true,true,true,true,true,true,true,true,true,true,true,true,true,true,true,true,true,true,false,true,true,true,true,false,false,false] (fun l=>l.take 27++(l.drop 28).take 4) (by kernel_rfl) (by kernel_rfl) (by kernel_rfl) (by kernel_rfl) (by kernel_rfl) (by kernel_rfl) ⟨fun _=>rfl,fun _=>rfl⟩ (fun hHeld=>?_);simp only[List.take_succ_cons,List.take_zero,List.drop_succ_cons,List.drop_zero,List.cons_append,List.nil_append]
  iterate 31
   (refine yx.cons (v:=?_) (by rfl) (fun w hSw=>?_) ?_
    rotate_left
    ·((try dsimp only at hSw);go_simp;first|done|with_reducible rfl)
    simp only[Act.put,List.setIfInBounds_toArray,List.set_cons_zero,List.set_cons_succ])
  refine yx.nil ?_;refine wpAnyH_ready (rs:=[27,33]) (by kernel_rfl) (by simp) (Ej rfl (fun K hK=>?_) (Ej rfl (fun K hK=>?_) AllReadyH.nil))
  .go_simp;go_at_call 74;refine(HT.out W _ V nW nV (GV.out.trans GW.out) (by repeat (first|exact World.grownBy.refl _ _|assumption|refine fG ?_|refine fH ?_|refine gB ?_))).mono ?_;rintro e wf ⟨ua,un,uc,rfl,⟨f1,f2,f10,f11⟩,f3,f4,f5,f6,f7,f8,f9⟩;go_wp2_with fail;refine hK.out _ _ ?_ (fun hHeld=>?_)
   ·(go_split_ands;refine⟨?_,?_⟩<;>((repeat (first|(with_reducible assumption)|(with_reducible exact Dl _ _)|(with_reducible refine Hu ?_)|(with_reducible refine Hw ?_)|(with_reducible refine Dk ?_ ?_)|(with_reducible refine EL ?_ ?_)))<;>(first|assumption|omega)))
   clear hK K;try simp only[List.setIfInBounds_toArray,List.set_cons_zero,List.set_cons_succ]
   refine take_one (i:=32) (v:=?_) rfl (by kernel_rfl) (by kernel_rfl) (by kernel_rfl) (fun _ _ _ h=>h) (by rfl) (fun w hSw=>?_) (by assumption) ?_
   rotate_left
   ·((try dsimp only at hSw);go_simp;first|done|with_reducible rfl)
   simp only[Act.put,List.setIfInBounds_toArray,List.set_cons_zero,List.set_cons_succ];refine wpAnyH_ready (rs:=[33]) (by kernel_rfl) (by simp) (Ej rfl (fun K hK=>?_) AllReadyH.nil);go_simp;refine hK.out _ _ ?_ (fun hHeld=>?_)
   ·(go_split_ands;refine⟨?_,?_⟩<;>((repeat (first|(with_reducible assumption)|(with_reducible exact Dl _ _)|(with_reducible refine Hu ?_)|(with_reducible refine Hw ?_)|(with_reducible refine Dk ?_ ?_)|(with_reducible refine EL ?_ ?_)))<;>(first|assumption|omega)))
   clear hK K;try simp only[List.setIfInBounds_toArray,List.set_cons_zero,List.set_cons_succ]
   refine wpAnyH_ready (rs:=[34]) (by kernel_rfl) (by simp) (Ej rfl (fun K hK=>?_) AllReadyH.nil);rw[if_pos (by rfl)];refine wp_store_mid _ _ _ rfl wf.heap.size 0 (List.toArray _) rfl rfl (MI (heap_alloc_new wf _) (by simp)) (by kernel_rfl) (by simp[Value.oneCell']) ?_;refine hK.out _ _ ?_ (fun hHeld=>?_)
   ·(go_split_ands;refine⟨?_,?_⟩<;>((first|(with_reducible refine Pj ?_ _ _ ?_))<;>(repeat (first|(with_reducible assumption)|(with_reducible exact Dl _ _)|(with_reducible refine Dk ?_ ?_)))<;>(first|assumption|omega)))
   clear hK K;refine wpAnyH_done (by kernel_rfl) ?_ _;refine NoPanic.normal ?_;go_wp2_with fail;go_meet;exact⟨_,_,_,_,rfl,Yu f9,aie (by repeat (first|exact World.grownBy.refl _ _|assumption|refine fG ?_|refine fH ?_|refine gB ?_)) f9⟩
  .go_simp;refine hK.out _ _ ?_ (fun hHeld=>?_)
   ·(go_split_ands;refine⟨?_,?_⟩<;>((repeat (first|(with_reducible assumption)|(with_reducible exact Dl _ _)|(with_reducible refine Hu ?_)|(with_reducible refine Hw ?_)|(with_reducible refine Dk ?_ ?_)|(with_reducible refine EL ?_ ?_)))<;>(first|assumption|omega)))
   clear hK K;try simp only[List.setIfInBounds_toArray,List.set_cons_zero,List.set_cons_succ]
   refine wpAnyH_ready (rs:=[27]) (by kernel_rfl) (by simp) (Ej rfl (fun K hK=>?_) AllReadyH.nil);go_simp;go_at_call 74;refine(HT.out W _ V nW nV (GV.out.trans GW.out) (by repeat (first|exact World.grownBy.refl _ _|assumption|refine fG ?_|refine fH ?_|refine gB ?_))).mono ?_;rintro e wf ⟨ua,un,uc,rfl,⟨f1,f2,f10,f11⟩,f3,f4,f5,f6,f7,f8,f9⟩;go_wp2_with fail;refine hK.out _ _ ?_ (fun hHeld=>?_)
   ·(go_split_ands;refine⟨?_,?_⟩<;>((repeat (first|(with_reducible assumption)|(with_reducible exact Dl _ _)|(with_reducible refine Hu ?_)|(with_reducible refine Hw ?_)|(with_reducible refine Dk ?_ ?_)|(with_reducible refine EL ?_ ?_)))<;>(first|assumption|omega)))
   clear hK K;try simp only[List.setIfInBounds_toArray,List.set_cons_zero,List.set_cons_succ]
   refine take_one (i:=32) (v:=?_) rfl (by kernel_rfl) (by kernel_rfl) (by kernel_rfl) (fun _ _ _ h=>h) (by rfl) (fun w hSw=>?_) (by assumption) ?_
   rotate_left
   ·((try dsimp only at hSw);go_simp;first|done|with_reducible rfl)
   simp only[Act.put,List.setIfInBounds_toArray,List.set_cons_zero,List.set_cons_succ];refine wpAnyH_ready (rs:=[34]) (by kernel_rfl) (by simp) (Ej rfl (fun K hK=>?_) AllReadyH.nil);rw[if_pos (by rfl)];refine wp_store_mid _ _ _ rfl W.heap.size 0 (List.toArray _) rfl rfl (MI ((f9.2.2.block _ (by simp) (by simp)).trans (by exact heap_alloc_new W _)) (by simp)) (by kernel_rfl) (by simp[Value.oneCell']) ?_;refine hK.out _ _ ?_ (fun hHeld=>?_)
   ·(go_split_ands;refine⟨?_,?_⟩<;>((first|(with_reducible refine Pj ?_ _ _ ?_))<;>(repeat (first|(with_reducible assumption)|(with_reducible exact Dl _ _)|(with_reducible refine Dk ?_ ?_)))<;>(first|assumption|omega)))
   clear hK K;refine wpAnyH_done (by kernel_rfl) ?_ _;refine NoPanic.normal ?_;go_wp2_with fail;go_meet;exact⟨_,_,_,_,rfl,Yu f9,aic (by repeat (first|exact World.grownBy.refl _ _|assumption|refine fG ?_|refine fH ?_|refine gB ?_)) (Nat.le_refl _) (by exact heap_alloc_new W _) f9⟩
 case rest=>
  obtain⟨b,un,uc,ua,rfl,rfl,hB⟩:=hcut.out;clear hcut HT;have DY:=bC hB;obtain⟨hb,hbk,acJ,hn4,gc⟩:=hB;have Oi:w.grownBy wc none:=(GV.out.trans GW.out).trans gc;have c9:wc.cell? (Ad L 9)=some (.slice (some (Ad R 0)) s.ah.length cap):=(HS.out wc Oi).2;have hbl:b<wc.heap.size:=(Array.getElem?_eq_some_iff.1 hbk).1;have H0:Hid (zq wc s b (.slice ra rn rc) (.slice fa fn fc) (.slice aa an ac) (.slice ua s.aP.length uc) none none 0 0 0 wc):=⟨hbk,World.ownsRow_nil _ _ _ _,World.ownsRow_nil _ _ _ _,Or.inl rfl,World.grownBy.refl _ _⟩;have MR:=bC Oi;have hwb:w.heap.size<=b:=by have:=GV.out.size;have:=GW.out.size;omega
  clear hbk acJ hn4 gc Oi x1 x2 x3 x4 x5 x6 x7 x8 x9 x10 x11 x12 x14 x18 v0 v1 v2 HS;go_wp2_with fail;go_loopg [47] (s.ah.length+1) (fun gg i wr=>Hid (∃(k:Nat)(sa xa:Option Addr)(sc xc:Nat),k+gg=s.ah.length+1/\k<=s.ah.length/\i=Im k/\zq wc s b (.slice ra rn rc) (.slice fa fn fc) (.slice aa an ac) (.slice ua s.aP.length uc) sa xa sc xc k wr))
  case atStart=>exact⟨0,none,none,0,0,by omega,Nat.zero_le _,rfl,H0.out⟩
  case round=>
   obtain⟨k,sa,xa,sc,xc,hk1,hk2,rfl,hS⟩:=hrel.out;clear hrel H0;by_cases hlt:k<s.ah.length
   .have d1:decide ((k:Int)<(s.ah.length:Int))=true:=decide_eq_true (by omega);have i0:(0:Int)<=(k:Int):=by omega
    have i1:(k:Int)<(s.ah.length:Int):=by omega
    obtain⟨g',hg'⟩:∃g',gk=g'+1:=⟨gk-1,by omega⟩;have hget:s.ah[k]? =some s.ah[k]:=by simp
    obtain⟨ea,ec,ka,kc,oa,oc,r0,r1,r2,r3,r4,r5,r6,r7⟩:=oI.out wr k _ (MR.out.andThen hS.grown fun j hj=>Or.inl (by cases hj;omega)) hget;have hbw:b<wr.heap.size:=dS hS.aW;have b8:∀o,(wr.alloc o).cell? (Ad b 8)=some (.slice sa k sc):=fun o=>(World.grownBy_alloc wr o none).cell (aA hS.aW) (by simp);have l5:(ints ((s.ah.take k).map fun r=>r.aT.length)).length=k:=by simp[ints];omega
    have l6:(ints ((s.ah.take k).map fun r=>r.aX.length)).length=k:=by simp[ints];omega
    have Rx:Hid (∀o o2,((wr.alloc o).alloc o2).ownsRow wc.heap.size 3 1 (.slice sa k sc) k (ints ((s.ah.take k).map fun r=>r.aT.length))):=fun o o2=>(hS.aT.alloc o).alloc o2;have hsw:=hS.grown.size;have HX:Hid (∀(c0 c1 c2 c3 c4 c5 c6 c7:Value)(o2:Obj)(w3:World)(g c:Nat),((wr.alloc (.cells #[c0,c1,c2,c3,c4,c5,c6,c7] 167)).alloc o2).grownBy w3 (Value.slice sa k sc).ownBlock->((Value.slice sa k sc).ownBlock=some g\/g=wr.heap.size+2)->w3.ownsRow wc.heap.size 3 1 (.slice (some (Ad g 0)) (k+1) c) (k+1) (ints ((s.ah.take k).map fun r=>r.aT.length)++[Im (s.ah[k].aT.length:Int)])->
     (w3.cell? (Ad b 8)=some (.slice sa k sc)/\w3.cell? (Ad b 9)=some (.slice xa k xc))/\(∀j,w3.frozen? (Ad b j)=false)/\w3.cell? (Ad wr.heap.size 6)=some c6/\(b<w3.heap.size/\wr.heap.size<w3.heap.size/\b<wr.heap.size/\wc.heap.size<=w3.heap.size)/\Hid (∀v o,((w3.setCell (Ad b 8) v).alloc o).ownsRow wc.heap.size 3 1 (.slice xa k xc) k (ints ((s.ah.take k).map fun r=>r.aX.length)))/\
     Hid (∀(o:Obj)(w5:World)(g2 c2:Nat),((w3.setCell (Ad b 8) (.slice (some (Ad g 0)) (k+1) c)).alloc o).grownBy w5 (Value.slice xa k xc).ownBlock->((Value.slice xa k xc).ownBlock=some g2\/g2=w3.heap.size+1)->w5.ownsRow wc.heap.size 3 1 (.slice (some (Ad g2 0)) (k+1) c2) (k+1) (ints ((s.ah.take k).map fun r=>r.aX.length)++[Im (s.ah[k].aX.length:Int)])->w5.cell? (Ad b 9)=some (.slice xa k xc)/\(∀j,w5.frozen? (Ad b j)=false)/\Hid (zq wc s b (.slice ra rn rc) (.slice fa fn fc) (.slice aa an ac) (.slice ua s.aP.length uc) (some (Ad g 0)) (some (Ad g2 0)) c c2 (k+1) (w5.setCell (Ad b 9) (.slice (some (Ad g2 0)) (k+1) c2))))):=fun c0 c1 c2 c3 c4 c5 c6 c7 o2 w3 g c hg hat how=>by
     have ga:wr.grownBy ((wr.alloc (.cells #[c0,c1,c2,c3,c4,c5,c6,c7] 167)).alloc o2) none:=(World.grownBy_alloc wr _ none).trans (World.grownBy_alloc _ o2 none);obtain⟨q1,q2,q3,q4⟩:=hS.seg hbl ga hg (hat.imp id fun e=>by rw[e];simp);have hz:=ga.size;have hz2:=hg.size;have hz3:((wr.alloc (.cells #[c0,c1,c2,c3,c4,c5,c6,c7] 167)).alloc o2).heap.size=wr.heap.size+2:=by simp
     have hbx:w3.heap[wr.heap.size]? =some (.cells #[c0,c1,c2,c3,c4,c5,c6,c7] 167):=by
      rw[hg.block _ (by omega) (fun e=>by have:=(hS.aT.lt _ e.symm).2;omega)];exact Ot wr _ _
     refine⟨⟨aA q1,aA q1⟩,fun j=>eu q1,aA hbx,⟨by omega,by omega,hbw,by omega⟩,fun v o=>?_,fun o w5 g2 c2 hg5 Kt acF=>?_⟩
     .refine(q2.kept (dV w3 b 8 v) ?_).alloc o;cases hc:(Value.slice xa k xc).ownBlock with
      |none=>exact Or.inl rfl
      |some x=>
       right;intro e;cases e;have:=(q2.lt b hc).1;omega
     .exact zq.next hget hbl q1 how q2 q3 q4 (World.grownBy_alloc _ o none) hg5 (Kt.imp id fun e=>by rw[e];simp) acF
    clear hS oI hget;generalize ints ((s.ah.take k).map fun r=>r.aT.length)=us5 at *;generalize ints ((s.ah.take k).map fun r=>r.aX.length)=us6 at *;generalize s.ah[k]=r at *;have nb:¬wr.heap.size=b:=by omega
    go_wp2_with (first
     |(at_builtin;refine wpList_append_lies _ rfl _ _ 91 rfl wc.heap.size 3 T0 _ 1 8 Tryz.underlying91 hi0 hz0 hz1 hz2 rfl (by decide) (.slice sa k sc) k us5 rfl (Rx.out _ _) (Ad (wr.heap.size+1) 0) 1 1 [Im (r.aT.length:Int)] rfl rfl (World.news_of_block (cs:=#[Im (r.aT.length:Int)]) (t:=3) (fr:=(0,0)) (GZ wr _ _)) (by simp[Value.oneCell']) (by decide) (by unfold maxLen;omega) (by omega) (by simp;omega) (wr.heap.size+2) (by simp) ?_;intro g c w3 hown hgr hat hlt2;obtain⟨⟨m1,m2⟩,m3,m4,⟨m5,m6,m7,m8⟩,Ji,HY⟩:=HX.out _ _ _ _ _ _ _ _ _ _ _ _ hgr hat hown;clear HX Rx hown hgr hat)
     |(at_builtin;refine wpList_append_lies _ rfl _ _ 91 rfl wc.heap.size 3 T0 _ 1 8 Tryz.underlying91 hi0 hz0 hz1 hz2 rfl (by decide) (.slice xa k xc) k us6 rfl (Ji.out _ _) (Ad w3.heap.size 0) 1 1 [Im (r.aX.length:Int)] rfl rfl (World.news_of_block (cs:=#[Im (r.aX.length:Int)]) (t:=3) (fr:=(0,0)) (abY w3 _ _ _)) (by simp[Value.oneCell']) (by decide) (by unfold maxLen;omega) (by omega) (by simp;omega) (w3.heap.size+1) (by simp) ?_;intro g2 c2 w5 hown5 hgr5 Kt aj6;obtain⟨p1,p2,p3⟩:=HY.out _ _ _ _ hgr5 Kt hown5;have HN:=bC p3;clear p3 HY Ji hown5 hgr5 Kt))
    go_roundg g'
    case measure=>omega
    case rel=>exact⟨k+1,_,_,_,_,by omega,by omega,by go_num,HN.out.out⟩
   .have d1:decide ((k:Int)<(s.ah.length:Int))=false:=decide_eq_false (by omega);have hke:k=s.ah.length:=by omega
    subst hke;obtain⟨qm,HL2,pF⟩:=HLn.out;subst qm HL2 pF;obtain⟨z0,hSt⟩:=aij (by simp) (World.grownBy_alloc w _ none) (heap_alloc_new w _) KV.out GW.out DY.out hS;have hblk:=hS.aW;unfold Am at hblk;have HR:=bC (agG hblk);have Zi:=bC (MI (n:=18) z0 (by simp));have HE:=bC (And.intro (Qs (vs:=[Im (s.acc:Int),Im (s.bQ:Int),Im (s.dA:Int),Im (s.dN:Int),.slice ra s.ah.length rc,.slice fa s.aG.length fc,.slice aa s.aJ.length ac,.slice ua s.aP.length uc,.slice sa s.ah.length sc,.slice xa s.ah.length xc,Im s.r0,Im s.r1,Im s.r2,Im s.r3,Im s.r4,Im s.r5,Im s.r6,Im s.r7]) (by rfl) z0) (hSt _ (L9 w.heap.size [Im (s.acc:Int),Im (s.bQ:Int),Im (s.dA:Int),Im (s.dN:Int),.slice ra s.ah.length rc,.slice fa s.aG.length fc,.slice aa s.aJ.length ac,.slice ua s.aP.length uc,.slice sa s.ah.length sc,.slice xa s.ah.length xc,Im s.r0,Im s.r1,Im s.r2,Im s.r3,Im s.r4,Im s.r5,Im s.r6,Im s.r7] 0 wr)));clear hS hblk z0 hSt DY oI KV GV GW;go_upto_region 9 with fail;refine wp_region_lit ?_;refine wpList_load_mid rfl _ _ rfl b 0 rfl [Im (s.acc:Int),Im (s.bQ:Int),Im (s.dA:Int),Im (s.dN:Int),.slice ra s.ah.length rc,.slice fa s.aG.length fc,.slice aa s.aJ.length ac,.slice ua s.aP.length uc,.slice sa s.ah.length sc,.slice xa s.ah.length xc,Im s.r0,Im s.r1,Im s.r2,Im s.r3,Im s.r4,Im s.r5,Im s.r6,Im s.r7] _ HR.out Tryz.underlying93 rfl (by kernel_rfl) ?_
    refine wpList_store_mid rfl _ _ _ rfl w.heap.size 0 (List.toArray [Im (s.acc:Int),Im (s.bQ:Int),Im (s.dA:Int),Im (s.dN:Int),.slice ra s.ah.length rc,.slice fa s.aG.length fc,.slice aa s.aJ.length ac,.slice ua s.aP.length uc,.slice sa s.ah.length sc,.slice xa s.ah.length xc,Im s.r0,Im s.r1,Im s.r2,Im s.r3,Im s.r4,Im s.r5,Im s.r6,Im s.r7]) rfl rfl Zi.out (by kernel_rfl) (by simp[Value.oneCell']) ?_;go_wp2_with fail;obtain⟨e1,e2⟩:=HE.out;exact bodyPost_ret (aik _ _ w.heap.size _ _ _ _ _ _ _ _ _ _ _ _ _ _ _ _ _ _ _ _ _ _ _ _ _ _ _ _ _ _ rfl e1) rfl ⟨_,_,_,_,_,_,_,_,_,_,_,_,rfl,e2⟩
end
end
section
open Go.RowKit Hx
section
variable {w w' w2 w1 y:World}{tag tag':Nat->Nat}{L:Nat}{s s':aO}{bs:List UInt8}{g a wd c:Nat}
def fZ(w:World)(tag:Nat->Nat)(L:Nat)(bs:List UInt8)(s:aO):Prop:=∃R pk cap ρ C,bg w tag L R pk (Pt C 0) cap ρ s/\zB w tag C bs
def Stepped(w:World)(tag:Nat->Nat)(L:Nat)(bs:List UInt8)(s':aO)(w':World):Prop:=∃tag',fZ w' tag' L bs s'/\Lf w tag w' tag'
theorem fZ.grow(h:fZ w tag L bs s)(hg:w.grownBy w' none):fZ w' tag L bs s:=by
 obtain⟨R,pk,cap,ρ,C,h1,h2⟩:=h;exact⟨R,pk,cap,ρ,C,h1.grow hg,h2.aN (Lf.grown hg)⟩
theorem fZ.new(h:fZ w tag L bs s){k:Nat}(hk:w.heap.size<=k):tag k=0:=by
 obtain⟨R,pk,cap,ρ,C,h1,h2⟩:=h;exact h1.rows.new k hk
theorem fZ.ok(h:fZ w tag L bs s):zC s:=by
 obtain⟨R,pk,cap,ρ,C,h1,h2⟩:=h;exact h1.ok
theorem fZ.tk(h:fZ w tag L bs s):takes bs=true:=by
 obtain⟨R,pk,cap,ρ,C,h1,h2⟩:=h;exact h2.tk
theorem Stepped.refl(h:fZ w tag L bs s):Stepped w tag L bs s w:=⟨tag,h,Lf.refl _ _⟩
theorem Stepped.more(h:Stepped w tag L bs s w1)(hg:w1.grownBy w2 none):Stepped w tag L bs s w2:=by
 obtain⟨t,h1,f1⟩:=h;exact⟨t,h1.grow hg,f1.trans (Lf.grown hg)⟩
theorem Stepped.back(h:Stepped w1 tag L bs s w2)(hg:w.grownBy w1 none):Stepped w tag L bs s w2:=by
 obtain⟨t,h1,f1⟩:=h;exact⟨t,h1,(Lf.grown hg).trans f1⟩
theorem Stepped.block(h:Stepped w tag L bs s w1){k:Nat}(hk:k<w.heap.size)(ht:tag k=0):w1.heap[k]? =w.heap[k]? :=by
 obtain⟨t,h1,f1⟩:=h;exact f1.aN k hk ht
structure xX(g a wd c:Nat):Prop where
 g:g<=9000000000
 a:a<=10000000000000
 wd:wd<=900000000000000
 c:c<=1000000000000
theorem lF.small(h:lF s g a wd c)(hf:xX g a wd c):Small s:=by
 have h1:=hf.g;have h2:=hf.a;have h3:=hf.wd;have h4:=hf.c;exact Me h.sn h.bd (by omega) (by omega) (by omega) (by omega)
theorem fZ.write(h:fZ w tag L bs s)(hs:Small s)(hn:Sn s)(size:Int):Calls prog 36 #[Pt L 0,Im size] w fun e w'=>e=.returned (Im (s.write size).2)/\Stepped w tag L bs (s.write size).1 w':=by
 obtain⟨R,pk,cap,ρ,C,h1,h2⟩:=h;refine(ajE h1 hs hn.acc size).mono ?_;rintro e w' ⟨e1,t2,ρ2,pk2,h3,f⟩;exact⟨e1,t2,⟨R,pk2,cap,ρ2,C,h3,h2.aN f⟩,f⟩
theorem fZ.tick(h:fZ w tag L bs s)(hk:lF s g a wd c)(hf:xX g a wd c):Calls prog 38 #[Pt L 0] w fun e w'=>e=.returned (.tuple #[])/\Stepped w tag L bs (s.tick bs) w':=by
 obtain⟨R,pk,cap,ρ,C,h1,h2⟩:=h;refine(ael h1 hk hf.g hf.a hf.wd hf.c h2).mono ?_;rintro e w' ⟨e1,t2,ρ2,h3,f⟩;exact⟨e1,t2,⟨R,pk,cap,ρ2,C,h3,h2.aN f⟩,f⟩
theorem fZ.lu(h:fZ w tag L bs s)(hs:Small s)(hn:Sn s)(aK k:Int):Calls prog 39 #[Pt L 0,Im aK,Im k] w fun e w'=>e=.returned (Im (s.lu aK k).2)/\Stepped w tag L bs (s.lu aK k).1 w':=by
 obtain⟨R,pk,cap,ρ,C,h1,h2⟩:=h;refine(ZV h1 hs (fun i r hr q hq=>?_) aK k).mono ?_
 .have:=(hn.aK i r hr).aT q hq;have:=hs.acc;omega
 .rintro e w' ⟨e1,t2,ρ2,h3,f⟩;exact⟨e1,t2,⟨R,pk,cap,ρ2,C,h3,h2.aN f⟩,f⟩
theorem fZ.lZ(h:fZ w tag L bs s)(hs:Small s)(aK k:Int):Calls prog 40 #[Pt L 0,Im aK,Im k] w fun e w'=>e=.returned (Im (s.lZ aK k).2)/\Stepped w tag L bs (s.lZ aK k).1 w':=by
 obtain⟨R,pk,cap,ρ,C,h1,h2⟩:=h;refine(Zy h1 hs aK k).mono ?_;rintro e w' ⟨e1,t2,ρ2,h3,f⟩;exact⟨e1,t2,⟨R,pk,cap,ρ2,C,h3,h2.aN f⟩,f⟩
theorem fZ.fU(h:fZ w tag L bs s)(hs:Small s)(aK:Int):Calls prog 65 #[Pt L 0,Im aK] w fun e w'=>e=.returned (Im (s.fU aK).2)/\Stepped w tag L bs (s.fU aK).1 w':=by
 obtain⟨R,pk,cap,ρ,C,h1,h2⟩:=h;refine(ad4 h1 hs aK).mono ?_;rintro e w' ⟨e1,t2,ρ2,h3,f⟩;exact⟨e1,t2,⟨R,pk,cap,ρ2,C,h3,h2.aN f⟩,f⟩
end
section
variable {s s':aO}{bs:List UInt8}{g a wd c t:Nat}
theorem Zq(s:aO):s.watch.acc=s.acc:=by
 unfold Hx.aO.watch;have hd:s.fA.1.acc=s.acc:=by unfold Hx.aO.fA;split<;>rfl
 split
 .unfold aO.mD;split
  .exact hd
  .exact hd
 .exact hd
theorem Zp(s:aO)(bs:List UInt8):(s.tick bs).acc=s.acc:=by
 unfold Hx.aO.tick;rw[Zq];unfold Hx.aO.kW;split
 .exact(ahF _ _).acc
 .rfl
theorem Zr(s:aO)(size:Int):s.acc<=(s.write size).1.acc:=by
 unfold aO.write;repeat' split
 all_goals first|exact Nat.le_refl _|exact Nat.le_succ _
theorem Zo(s:aO)(aK:Int):(s.fU aK).1.acc=s.acc:=by
 unfold Hx.aO.fU;repeat' split
 all_goals rfl
structure Nx(s s':aO)(t g a wd c:Nat):Prop where
 okl:lF s' (g+8) (a+g+1) (wd+256) (c+1)
 acc:s.acc<=s'.acc
 one:t<=1
 afJ:∀p tt,over s.ah<=p->8 * p+s.quiet.toNat<=tt->∃p',over s'.ah<=p'/\8 * p'+s'.quiet.toNat<=tt+t
theorem lF.mono(h:lF s g a wd c){g' a' wd' c':Nat}(h1:g<=g')(h2:a<=a')(h3:wd<=wd')(h4:c<=c'):lF s g' a' wd' c':=⟨h.sn,h.bd.mono h1 h2 h3 h4,h.ir⟩
theorem Fb{t:Nat}(h1:over s'.ah<=over s.ah)(h2:s'.quiet.toNat<=s.quiet.toNat):∀p tt,over s.ah<=p->8 * p+s.quiet.toNat<=tt->∃p',over s'.ah<=p'/\8 * p'+s'.quiet.toNat<=tt+t:=fun p tt hp ht=>⟨p,by omega,by omega⟩
theorem Nx.same(h:lF s g a wd c):Nx s s 0 g a wd c:=⟨h.mono (by omega) (by omega) (by omega) (by omega),Nat.le_refl _,Nat.zero_le _,Fb (Nat.le_refl _) (Nat.le_refl _)⟩
theorem Nx.write(h:lF s g a wd c)(size:Int):Nx s (s.write size).1 0 g a wd c:=by
 obtain⟨h1,h2,h3⟩:=h.sn.write size;exact⟨⟨h1,(h.bd.write size).mono (by omega) (by omega) (by omega) (by omega),h.ir.write size⟩,Zr s size,Nat.zero_le _,Fb (by omega) (by rw[h3];omega)⟩
theorem Nx.tick(h:lF s g a wd c)(hk:zC s)(hs:Small s)(ht:takes bs=true):Nx s (s.tick bs) 1 g a wd c:=by
 have h0:=(h.tick hk hs ht (p:=over s.ah) (t:=8 * over s.ah+s.quiet.toNat) (Nat.le_refl _) (Nat.le_refl _)).1;exact⟨h0.mono (by omega) (by omega) (by omega) (by omega),Nat.le_of_eq (Zp s bs).symm,Nat.le_refl _,fun p tt hp ht2=>(h.tick hk hs ht hp ht2).2⟩
theorem Nx.lu(h:lF s g a wd c)(aK k:Int):Nx s (s.lu aK k).1 0 g a wd c:=by
 obtain⟨h1,h2,h3⟩:=h.sn.lu aK k;exact⟨⟨h1,(h.bd.lu aK k).mono (by omega) (by omega) (by omega) (by omega),h.ir.lu aK k⟩,Nat.le_of_eq (SA s aK k).acc.symm,Nat.zero_le _,Fb (by omega) (by rw[h3];omega)⟩
theorem Nx.lZ(h:lF s g a wd c)(aK k:Int):Nx s (s.lZ aK k).1 0 g a wd c:=by
 obtain⟨h1,h2,h3⟩:=h.sn.lZ aK k;exact⟨⟨h1,(h.bd.lZ aK k).mono (by omega) (by omega) (by omega) (by omega),h.ir.lZ aK k⟩,Nat.le_of_eq (ZR s aK k).acc.symm,Nat.zero_le _,Fb h2 h3⟩
theorem Nx.fU(h:lF s g a wd c)(aK:Int):Nx s (s.fU aK).1 0 g a wd c:=by
 obtain⟨h1,h2,h3⟩:=h.sn.fU aK;exact⟨⟨h1,(h.bd.fU aK).mono (by omega) (by omega) (by omega) (by omega),h.ir.fU aK⟩,Nat.le_of_eq (Zo s aK).symm,Nat.zero_le _,Fb h2 (by rw[h3];omega)⟩
def Hx.aO.yA(s:aO)(aK:Int):Nat->aO
 |0=>s
 |k+1=>((s.yA aK k).lu aK (k:Int)).1
theorem NC(h:lF s g a wd c)(aK:Int):∀k:Nat,lF (s.yA aK k) g (a+k) wd c/\(s.yA aK k).acc=s.acc/\over (s.yA aK k).ah=over s.ah/\(s.yA aK k).quiet=s.quiet
 |0=>⟨h,rfl,rfl,rfl⟩
 |k+1=>by
  obtain⟨i1,i2,i3,i4⟩:=NC h aK k;obtain⟨h1,h2,h3⟩:=i1.sn.lu aK (k:Int);exact⟨⟨h1,i1.bd.lu aK (k:Int),i1.ir.lu aK (k:Int)⟩,(SA _ aK (k:Int)).acc.trans i2,h2.trans i3,h3.trans i4⟩
theorem Nx.ZX(h:lF s g a wd c)(aK:Int)(k:Nat)(hk:k<=g):Nx s (s.yA aK k) 0 g a wd c:=by
 obtain⟨i1,i2,i3,i4⟩:=NC h aK k;exact⟨i1.mono (by omega) (by omega) (by omega) (by omega),Nat.le_of_eq i2.symm,Nat.zero_le _,Fb (by omega) (by rw[i4];omega)⟩
end
end
section
open Go.RowKit Hx
attribute [local go_sem ↓] Go.wp_at_zero Go.wp_at_succ
attribute [local go_sem] bT
section
variable {w w' w2 w1 y:World}{tag tag':Nat->Nat}{L:Nat}{s s':aO}{bs:List UInt8}{g a wd c t:Nat}
def uF(w:World)(tag:Nat->Nat)(L:Nat)(bs:List UInt8)(s:aO)(t g a wd c:Nat)(w':World):Prop:=∃s',Stepped w tag L bs s' w'/\Nx s s' t g a wd c
theorem fZ.wrote(h:fZ w tag L bs s)(hk:lF s g a wd c)(hf:xX g a wd c)(hg:w.grownBy y none)(size:Int):Calls prog 36 #[Pt L 0,Im size] y fun e w'=>∃x,e=.returned (Im x)/\uF w tag L bs s 0 g a wd c w':=by
 refine((h.grow hg).write (hk.small hf) hk.sn size).mono ?_;rintro e w' ⟨e1,e2⟩;exact⟨_,e1,_,e2.back hg,Nx.write hk size⟩
theorem fZ.aiQ(h:fZ w tag L bs s)(hk:lF s g a wd c)(hf:xX g a wd c)(hg:w.grownBy y none):Calls prog 38 #[Pt L 0] y fun e w'=>e=.returned (.tuple #[])/\uF w tag L bs s 1 g a wd c w':=by
 refine((h.grow hg).tick hk hf).mono ?_;rintro e w' ⟨e1,e2⟩;exact⟨e1,_,e2.back hg,Nx.tick hk h.ok (hk.small hf) h.tk⟩
theorem fZ.ZW(h:fZ w tag L bs s)(hk:lF s g a wd c)(hf:xX g a wd c)(hg:w.grownBy y none)(aK k:Int):Calls prog 39 #[Pt L 0,Im aK,Im k] y fun e w'=>∃x,e=.returned (Im x)/\uF w tag L bs s 0 g a wd c w':=by
 refine((h.grow hg).lu (hk.small hf) hk.sn aK k).mono ?_;rintro e w' ⟨e1,e2⟩;exact⟨_,e1,_,e2.back hg,Nx.lu hk aK k⟩
theorem fZ.aX(h:fZ w tag L bs s)(hk:lF s g a wd c)(hf:xX g a wd c)(hg:w.grownBy y none)(aK k:Int):Calls prog 40 #[Pt L 0,Im aK,Im k] y fun e w'=>∃x,e=.returned (Im x)/\uF w tag L bs s 0 g a wd c w':=by
 refine((h.grow hg).lZ (hk.small hf) aK k).mono ?_;rintro e w' ⟨e1,e2⟩;exact⟨_,e1,_,e2.back hg,Nx.lZ hk aK k⟩
theorem fZ.lost(h:fZ w tag L bs s)(hk:lF s g a wd c)(hf:xX g a wd c)(hg:w.grownBy y none)(aK:Int):Calls prog 65 #[Pt L 0,Im aK] y fun e w'=>∃x,e=.returned (Im x)/\uF w tag L bs s 0 g a wd c w':=by
 refine((h.grow hg).fU (hk.small hf) aK).mono ?_;rintro e w' ⟨e1,e2⟩;exact⟨_,e1,_,e2.back hg,Nx.fU hk aK⟩
theorem fZ.asked{i:Nat}{r:Lr}(h:fZ w tag L bs s)(hs:Small s)(hg:w.grownBy y none)(hi:s.ah[i]? =some r):Calls prog 37 #[Pt L 0] y fun e w'=>∃a1 a2 a3 a4 c1 c2 c3 c4 g5 c5 g6 c6,e=.returned (.agg (Am s (.slice a1 s.ah.length c1) (.slice a2 s.aG.length c2) (.slice a3 s.aJ.length c3) (.slice a4 s.aP.length c4) (.slice (some (Ad g5 0)) s.ah.length c5) (.slice (some (Ad g6 0)) s.ah.length c6)))/\(w'.cell? (Ad g5 i)=some (Im (r.aT.length:Int))/\w'.cell? (Ad g6 i)=some (Im (r.aX.length:Int)))/\g5<w'.heap.size/\g6<w'.heap.size/\(∀b j,b<y.heap.size->w'.cell? (Ad b j)=y.cell? (Ad b j))/\Hid (w.grownBy w' none)/\Hid (y.heap.size<=g5/\y.heap.size<=g6/\y.grownBy w' none):=by
 obtain⟨R,pk,cap,ρ,C,h1,h2⟩:=h.grow hg;refine(X4 h1 hs).mono ?_;rintro e w' ⟨a1,c1,a2,c2,a3,c3,a4,c4,a5,c5,a6,c6,e1,e2⟩;have hl:=(List.getElem?_eq_some_iff.1 hi).1;have k5:(ints (s.ah.map fun r=>r.aT.length))[i]? =some (Im (r.aT.length:Int)):=by
  unfold ints;rw[List.getElem?_map,List.getElem?_map,hi];rfl
 have k6:(ints (s.ah.map fun r=>r.aX.length))[i]? =some (Im (r.aX.length:Int)):=by
  unfold ints;rw[List.getElem?_map,List.getElem?_map,hi];rfl
 obtain⟨g5,rfl,b5,l5,q5⟩:=yT e2.aT k5;obtain⟨g6,rfl,b6,l6,q6⟩:=yT e2.aX k6;exact⟨a1,a2,a3,a4,c1,c2,c3,c4,g5,c5,g6,c6,e1,⟨q5 _ _ k5,q6 _ _ k6⟩,l5,l6,fun b j hb=>World.cell?_of_block (e2.grown.block b hb (by simp)),hg.trans e2.grown,⟨b5,b6,e2.grown⟩⟩
end
end
end Go.Proofs.YthllhabjfchgiaaGreatDoor
