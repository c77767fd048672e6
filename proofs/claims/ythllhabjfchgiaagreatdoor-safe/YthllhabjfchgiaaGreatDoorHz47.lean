import Derived.Test.YthllhabjfchgiaaGreatDoorHz46
set_option maxRecDepth 100000
set_option maxHeartbeats 8000000
namespace Go.Proofs.YthllhabjfchgiaaGreatDoor
open _root_.Go.Proofs.Tryz
section
open Go.RowKit Hx
attribute [local go_sem ↓] Go.wp_at_zero Go.wp_at_succ
attribute [local go_sem] bT
section
variable {w w' w2 w1 y:World}{tag tag':Nat->Nat}{L:Nat}{s s':aO}{bs:List UInt8}{g a wd c t:Nat}
theorem abV(h:fZ w tag L bs s)(hk:lF s g a wd c)(hf:xX g (a+g+1) wd c){kd A B:Int}(hkd:aZ kd)(hA:aZ A)(hB:aZ B):Calls prog 34 #[Pt L 0,.agg #[Im kd,Im A,Im B]] w fun e w'=>∃t:Nat,e=.returned (Im (t:Int))/\uF w tag L bs s t g a wd c w':=by
 have hfi:xX g a wd c:=⟨hf.g,by have:=hf.a;omega,hf.wd,hf.c⟩;have hs:=hk.small hfi;have hok:=h.ok;have hn1:0<s.ah.length:=Nat.lt_of_le_of_lt (Nat.zero_le _) hok.turn;have hn4:=hok.ah;obtain⟨p0,p1⟩:=Iy (c:=A) (n:=(s.ah.length:Int)) (by omega);obtain⟨ri,fB⟩:∃ri:Nat,mP A (s.ah.length:Int)=(ri:Int):=⟨(mP A (s.ah.length:Int)).toNat,by omega⟩;have hlt:ri<s.ah.length:=by omega
 obtain⟨r,hr⟩:∃r,s.ah[ri]? =some r:=⟨_,List.getElem?_eq_getElem hlt⟩;have i0:(0:Int)<=(ri:Int):=by omega
 have i1:(ri:Int)<(s.ah.length:Int):=by omega
 have zA:Hid (∀y,w.grownBy y none->y.heap[w.heap.size]? =some (.cells #[Im kd,Im A,Im B] 87)->Calls prog 37 #[Pt L 0] y fun e w'=>∃a1 a2 a3 a4 c1 c2 c3 c4 g5 c5 g6 c6,e=.returned (.agg #[Im (s.acc:Int),Im (s.bQ:Int),Im (s.dA:Int),Im (s.dN:Int),.slice a1 s.ah.length c1,.slice a2 s.aG.length c2,.slice a3 s.aJ.length c3,.slice a4 s.aP.length c4,.slice (some (Ad g5 0)) s.ah.length c5,.slice (some (Ad g6 0)) s.ah.length c6,Im s.r0,Im s.r1,Im s.r2,Im s.r3,Im s.r4,Im s.r5,Im s.r6,Im s.r7])/\(w'.cell? (Ad g5 ri)=some (Im (r.aT.length:Int))/\w'.cell? (Ad g6 ri)=some (Im (r.aX.length:Int)))/\(g5<w'.heap.size/\g6<w'.heap.size/\¬g5=w'.heap.size/\¬g6=w'.heap.size)/\((w'.cell? (Ad w.heap.size 0)=some (Im kd)/\w'.cell? (Ad w.heap.size 1)=some (Im A)/\w'.cell? (Ad w.heap.size 2)=some (Im B))/\w.heap.size<w'.heap.size/\¬w.heap.size=w'.heap.size)/\Hid (w.grownBy w' none)/\Hid (w.heap.size<g5/\w.heap.size<g6)):=fun y hy hyb=>by
  refine(h.asked hs hy hr).mono ?_;rintro e w' ⟨a1,a2,a3,a4,c1,c2,c3,c4,g5,c5,g6,c6,e1,e2,e3,e4,_,e5,e6,e7,e8⟩;have hb2:=(e8.block _ (dS hyb) (by simp)).trans hyb;have hl2:=dS hb2;have hl3:=dS hyb;exact⟨a1,a2,a3,a4,c1,c2,c3,c4,g5,c5,g6,c6,e1,e2,⟨e3,e4,by omega,by omega⟩,⟨⟨aA hb2,aA hb2,aA hb2⟩,hl2,by omega⟩,e5,by omega,by omega⟩
 have uo:Hid (∀y,Calls prog 28 #[Im A,Im (s.ah.length:Int)] y fun e w'=>e=.returned (Im (ri:Int))/\w'=y):=fun y=>by rw[<-fB];exact Fh y A _ hA (by omega) (by omega)
 obtain⟨kb0,kb1⟩:=Iy (c:=kd) (n:=8) (by omega);have F6:Hid (∀y,Calls prog 28 #[Im kd,Im 8] y fun e w'=>e=.returned (Im (mP kd 8))/\w'=y):=fun y=>Fh y kd 8 hkd (by omega) (by omega);have hsm:=hs.aK ri r hr;have HWs:Hid (∀y,w.grownBy y none->uF w tag L bs s 0 g a wd c y):=fun y hy=>⟨s,(Stepped.refl h).more hy,Nx.same hk⟩;have Zd:Hid (∀y,Calls prog 28 #[Im A,Im 1000] y fun e w'=>e=.returned (Im (mP A 1000))/\w'=y):=fun y=>Fh y A 1000 hA (by omega) (by omega);obtain⟨m0,m1⟩:=Iy (c:=A) (n:=1000) (by omega);have qI:Hid (∀y size,w.grownBy y none->Calls prog 36 #[Pt L 0,Im size] y fun e w'=>∃x,e=.returned (Im x)/\Hid (uF w tag L bs s 0 g a wd c w')):=fun y size hy=>h.wrote hk hfi hy size;have Rz:Hid (∀y,w.grownBy y none->Calls prog 38 #[Pt L 0] y fun e w'=>e=.returned (.tuple #[])/\Hid (uF w tag L bs s 1 g a wd c w')):=fun y hy=>h.aiQ hk hfi hy;have Y8:Hid (∀y aK,w.grownBy y none->Calls prog 65 #[Pt L 0,Im aK] y fun e w'=>∃x,e=.returned (Im x)/\Hid (uF w tag L bs s 0 g a wd c w')):=fun y aK hy=>h.lost hk hfi hy aK;have Y7:Hid (∀y aK k,w.grownBy y none->Calls prog 39 #[Pt L 0,Im aK,Im k] y fun e w'=>∃x,e=.returned (Im x)/\Hid (uF w tag L bs s 0 g a wd c w')):=fun y aK k hy=>h.ZW hk hfi hy aK k;have oh:Hid (∀y aK k,w.grownBy y none->Calls prog 40 #[Pt L 0,Im aK,Im k] y fun e w'=>∃x,e=.returned (Im x)/\Hid (uF w tag L bs s 0 g a wd c w')):=fun y aK k hy=>h.aX hk hfi hy aK k
 have Zc:Hid (0<r.aT.length->∀y,Calls prog 28 #[Im B,Im (r.aT.length:Int)] y fun e w'=>e=.returned (Im (mP B (r.aT.length:Int)))/\w'=y):=fun hz y=>Fh y B _ hB (by omega) (by omega);have Zb:Hid (0<r.aX.length->∀y,Calls prog 28 #[Im B,Im (r.aX.length:Int)] y fun e w'=>e=.returned (Im (mP B (r.aX.length:Int)))/\w'=y):=fun hz y=>Fh y B _ hB (by omega) (by omega);have hgs:r.aT.length<=g:=by have:=(hk.bd.aK ri r hr).aT;omega
 have Ji:Hid (∀(W3 wr:World)(k:Nat),w.grownBy W3 none->k<r.aT.length->Stepped W3 tag L bs (s.yA (ri:Int) k) wr->Calls prog 39 #[Pt L 0,Im (ri:Int),Im (k:Int)] wr fun e w'=>∃x,e=.returned (Im x)/\Hid (Stepped W3 tag L bs (s.yA (ri:Int) (k+1)) w')):=fun W3 wr k hg hkl ⟨t1,hl,hlf⟩=>by
  have ok1:=(NC hk (ri:Int) k).1;have f1:=hf.g;have f2:=hf.a;refine(hl.lu (ok1.small ⟨hf.g,by omega,hf.wd,hf.c⟩) ok1.sn (ri:Int) (k:Int)).mono ?_;rintro e w' ⟨e1,t2,hl2,acp⟩;exact⟨_,e1,t2,hl2,hlf.trans acp⟩
 have Rn:Hid (∀(W3 wr:World)(s1:aO)(b:Nat),w.grownBy W3 none->Stepped W3 tag L bs s1 wr->w.heap.size<=b->b<W3.heap.size->wr.heap[b]? =W3.heap[b]?):=fun W3 wr s1 b hg hst hb hb2=>hst.block hb2 (h.new hb);have HFin:Hid (∀(W3 wr:World),w.grownBy W3 none->Stepped W3 tag L bs (s.yA (ri:Int) r.aT.length) wr->uF w tag L bs s 0 g a wd c wr):=fun W3 wr hg hst=>⟨_,hst.back hg,Nx.ZX hk (ri:Int) _ hgs⟩;have xZ:Hid (∀W3,w.grownBy W3 none->fZ W3 tag L bs s):=fun W3 hg=>h.grow hg;generalize mP A 1000=z at *;generalize mP kd 8=kk at *;clear hs hok hf hk h hfi;go_enter func34,ntmps34;go_upto_region 2 with(go_at_call 37;refine(zA.out _ (by repeat (first|exact World.grownBy.refl _ _|refine fG ?_|refine fH ?_|refine gB ?_)) (by exact heap_alloc_new w _)).mono ?_;rintro e w2 ⟨a1,a2,a3,a4,c1,c2,c3,c4,g5,c5,g6,c6,rfl,⟨q5,q6⟩,⟨l5,l6,l7,l8⟩,⟨⟨k0,k1,k2⟩,k3,k4⟩,HG,Y0⟩);go_upto_region 3 with(go_at_call 28;refine(uo.out _).mono ?_;rintro e w' ⟨rfl,hw⟩;have hw':=hw.symm;subst hw';clear hw);go_upto_region 4 with(go_at_call 28;refine(F6.out _).mono ?_;rintro e w' ⟨rfl,hw⟩;have hw':=hw.symm;subst hw';clear hw);have hc:kk=0\/kk=1\/kk=2\/kk=3\/kk=4\/kk=5\/kk=6\/kk=7:=by omega
 rcases hc with rfl|rfl|rfl|rfl|rfl|rfl|rfl|rfl
 .go_wp2_with (first
   |(go_at_call 28;refine(Zd.out _).mono ?_;rintro e w' ⟨rfl,hw⟩;have hw':=hw.symm;subst hw';clear hw)
   |(go_at_call 36;refine(qI.out _ _ (HG.out.trans (by repeat (first|exact World.grownBy.refl _ _|refine fG ?_|refine fH ?_|refine gB ?_)))).mono ?_;rintro e w3 ⟨x,rfl,HW⟩))
  go_ret;exact⟨0,rfl,HW.out⟩
 .go_wp2_with (first
   |(go_at_call 38;refine(Rz.out _ (HG.out.trans (by repeat (first|exact World.grownBy.refl _ _|refine fG ?_|refine fH ?_|refine gB ?_)))).mono ?_;rintro e w3 ⟨rfl,HW⟩))
  go_ret;exact⟨1,rfl,HW.out⟩
 .go_wp2_with (first
   |(go_at_call 38;refine(Rz.out _ (HG.out.trans (by repeat (first|exact World.grownBy.refl _ _|refine fG ?_|refine fH ?_|refine gB ?_)))).mono ?_;rintro e w3 ⟨rfl,HW⟩))
  go_ret;exact⟨1,rfl,HW.out⟩
 .by_cases hz:0<r.aT.length
  .have dz:decide ((0:Int)<(r.aT.length:Int))=true:=decide_eq_true (by omega);have Na:Hid (∀y,Calls prog 28 #[Im B,Im (r.aT.length:Int)] y fun e w'=>e=.returned (Im (mP B (r.aT.length:Int)))/\w'=y):=Zc.out hz;generalize mP B (r.aT.length:Int)=z2 at *;go_upto_region 12 with fail;refine fC 10 (by kernel_rfl) (by kernel_rfl) ?_;simp only[List.take_succ_cons,List.take_zero,List.drop_succ_cons,List.drop_zero];repeat (go_big_quiet_step ((go_at_call 28;exact Calls.quiet_of_same (Na.out _))))
   refine wpQuiet_nil ?_;intro _ hw';obtain⟨k3,hw''⟩:=hw';subst hw'';go_wp2_with (go_at_call 39;refine(Y7.out _ _ _ (HG.out.trans (by repeat (first|exact World.grownBy.refl _ _|refine fG ?_|refine fH ?_|refine gB ?_)))).mono ?_;rintro e w3 ⟨x,rfl,HW⟩);go_ret;exact⟨0,rfl,HW.out⟩
  .have dz:decide ((0:Int)<(r.aT.length:Int))=false:=decide_eq_false (by omega);go_wp2_with fail;go_ret;exact⟨0,rfl,HWs.out _ (HG.out.trans (by repeat (first|exact World.grownBy.refl _ _|refine fG ?_|refine fH ?_|refine gB ?_)))⟩
 .by_cases hz:0<r.aX.length
  .have dz:decide ((0:Int)<(r.aX.length:Int))=true:=decide_eq_true (by omega);have Na:Hid (∀y,Calls prog 28 #[Im B,Im (r.aX.length:Int)] y fun e w'=>e=.returned (Im (mP B (r.aX.length:Int)))/\w'=y):=Zb.out hz;generalize mP B (r.aX.length:Int)=z2 at *;go_upto_region 15 with fail;refine fC 10 (by kernel_rfl) (by kernel_rfl) ?_;simp only[List.take_succ_cons,List.take_zero,List.drop_succ_cons,List.drop_zero];repeat (go_big_quiet_step ((go_at_call 28;exact Calls.quiet_of_same (Na.out _))))
   refine wpQuiet_nil ?_;intro _ hw';obtain⟨k3,hw''⟩:=hw';subst hw'';go_wp2_with (go_at_call 40;refine(oh.out _ _ _ (HG.out.trans (by repeat (first|exact World.grownBy.refl _ _|refine fG ?_|refine fH ?_|refine gB ?_)))).mono ?_;rintro e w3 ⟨x,rfl,HW⟩);go_ret;exact⟨0,rfl,HW.out⟩
  .have dz:decide ((0:Int)<(r.aX.length:Int))=false:=decide_eq_false (by omega);go_wp2_with fail;go_ret;exact⟨0,rfl,HWs.out _ (HG.out.trans (by repeat (first|exact World.grownBy.refl _ _|refine fG ?_|refine fH ?_|refine gB ?_)))⟩
 .go_wp2_with (first
   |(go_at_call 65;refine(Y8.out _ _ (HG.out.trans (by repeat (first|exact World.grownBy.refl _ _|refine fG ?_|refine fH ?_|refine gB ?_)))).mono ?_;rintro e w3 ⟨x,rfl,HW⟩))
  go_ret;exact⟨0,rfl,HW.out⟩
 .obtain⟨W3,hW3⟩:∃W3,w2.alloc (.cells #[Im (s.acc:Int),Im (s.bQ:Int),Im (s.dA:Int),Im (s.dN:Int),.slice a1 s.ah.length c1,.slice a2 s.aG.length c2,.slice a3 s.aJ.length c3,.slice a4 s.aP.length c4,.slice (some (Ad g5 0)) s.ah.length c5,.slice (some (Ad g6 0)) s.ah.length c6,Im s.r0,Im s.r1,Im s.r2,Im s.r3,Im s.r4,Im s.r5,Im s.r6,Im s.r7] 93)=W3:=⟨_,rfl⟩;have hg3:w.grownBy W3 none:=by rw[<-hW3];exact HG.out.trans (World.grownBy_alloc w2 _ none)
  have hb3:W3.heap[w2.heap.size]? =some (.cells #[Im (s.acc:Int),Im (s.bQ:Int),Im (s.dA:Int),Im (s.dN:Int),.slice a1 s.ah.length c1,.slice a2 s.aG.length c2,.slice a3 s.aJ.length c3,.slice a4 s.aP.length c4,.slice (some (Ad g5 0)) s.ah.length c5,.slice (some (Ad g6 0)) s.ah.length c6,Im s.r0,Im s.r1,Im s.r2,Im s.r3,Im s.r4,Im s.r5,Im s.r6,Im s.r7] 93):=by rw[<-hW3];exact heap_alloc_new w2 _
  have UZ:w2.grownBy W3 none:=by rw[<-hW3];exact World.grownBy_alloc w2 _ none
  have hl3:w2.heap.size<W3.heap.size:=dS hb3;have cz:W3.cell? (Ad g5 ri)=some (Im (r.aT.length:Int)):=UZ.cell q5 (by simp);have HW3:=bC (And.intro hg3 (And.intro hb3 cz));have hsz5:=Y0.out;have acM:w.heap.size<=w2.heap.size:=by omega
  have OE:g5<W3.heap.size:=by omega
  clear hg3 hb3 UZ;go_wp2_with fail;go_loopg [7] (r.aT.length+1) (fun gg i wr=>Hid (∃k:Nat,k+gg=r.aT.length+1/\k<=r.aT.length/\i=Im k/\Stepped W3 tag L bs (s.yA (ri:Int) k) wr))
  case atStart=>exact⟨0,by omega,Nat.zero_le _,rfl,Stepped.refl (xZ.out _ HW3.out.1)⟩
  case round=>
   obtain⟨k,hk1,hk2,rfl,hS⟩:=hrel.out;clear hrel;have m1:=(Rn.out _ _ _ w2.heap.size HW3.out.1 hS acM hl3).trans HW3.out.2.1;have m8:wr.cell? (Ad w2.heap.size 8)=some (.slice (some (Ad g5 0)) s.ah.length c5):=aA m1;have m5:wr.cell? (Ad g5 ri)=some (Im (r.aT.length:Int)):=(World.cell?_of_block (Rn.out _ _ _ g5 HW3.out.1 hS (by omega) OE)).trans HW3.out.2.2;clear m1;by_cases hlt:k<r.aT.length
   .have d1:decide ((k:Int)<(r.aT.length:Int))=true:=decide_eq_true (by omega);obtain⟨g',hg'⟩:∃g',gk=g'+1:=⟨gk-1,by omega⟩;have HO:=bC (Ji.out _ _ k HW3.out.1 hlt hS);clear hS;go_wp2_with (go_at_call 39;refine HO.out.mono ?_;rintro e w5 ⟨x,rfl,HN⟩);go_roundg g'
    case measure=>omega
    case rel=>exact⟨k+1,by omega,by omega,by go_num,HN.out⟩
   .have d1:decide ((k:Int)<(r.aT.length:Int))=false:=decide_eq_false (by omega);have hke:k=r.aT.length:=by omega
    subst hke;have HF:=bC (HFin.out _ _ HW3.out.1 hS);clear hS;go_wp2_with fail;go_ret;exact⟨0,rfl,HF.out⟩
 .by_cases hz:0<r.aX.length
  .have dz:decide ((0:Int)<(r.aX.length:Int))=true:=decide_eq_true (by omega);go_wp2_with (go_at_call 40;refine(oh.out _ _ _ (HG.out.trans (by repeat (first|exact World.grownBy.refl _ _|refine fG ?_|refine fH ?_|refine gB ?_)))).mono ?_;rintro e w3 ⟨x,rfl,HW⟩);go_ret;exact⟨0,rfl,HW.out⟩
  .have dz:decide ((0:Int)<(r.aX.length:Int))=false:=decide_eq_false (by omega);go_wp2_with fail;go_ret;exact⟨0,rfl,HWs.out _ (HG.out.trans (by repeat (first|exact World.grownBy.refl _ _|refine fG ?_|refine fH ?_|refine gB ?_)))⟩
theorem Yt(all:List Lp)(l:List Nat)(i q:Nat)(h:l[i]? =some q):(kX all l)[i * 3]? =some (Im (q:Int)):=by
 have h2:(tN all l)[i]? =some ⟨(q:Int),(all.getD q ⟨0,0⟩).size,(all.getD q ⟨0,0⟩).on⟩:=by unfold tN;rw[List.getElem?_map,h];rfl
 have:=(P7 _ i _ h2).1;rw[QJ]at this;exact this
theorem ahC(l:List Lr)(n i:Nat)(r:Lr)(hi:i<n)(h:l[i]? =some r):(seenCells l n)[i * 5]? =some (Im (i:Int))/\(seenCells l n)[i * 5+1]? =some (Im (10 * (i+1):Int))/\(seenCells l n)[i * 5+2]? =some (Im (r.cO:Int))/\(seenCells l n)[i * 5+3]? =some (Im (r.out:Int))/\(seenCells l n)[i * 5+4]? =some (.bool r.nX):=by
 have hg:l.getD i lT=r:=by rw[List.getD_eq_getElem?_getD,h];rfl
 have h2:(xI l n)[i]? =some ⟨(i:Int),(10 * (i+1):Int),(r.cO:Int),(r.out:Int),r.nX⟩:=by
  unfold xI;rw[List.getElem?_map,List.getElem?_range hi];show some _=some _
  dsimp only
  rw[hg]
 have:=Qm _ i _ h2;rw[seen_cells]at this;exact this
def marks(l:List Nat)(lo k:Nat)(j:Nat):Bool:=decide (lo+j∈l.take k)
theorem aew(l:List Nat)(lo j:Nat):marks l lo 0 j=false:=by simp[marks]
theorem aev(l:List Nat)(lo k q:Nat)(h:l[k]? =some q)(j:Nat):marks l lo (k+1) j=if lo+j=q then true else marks l lo k j:=by
 have h1:l.take (k+1)=l.take k++[q]:=by rw[List.take_add_one,h];rfl
 unfold marks;rw[h1];split
 .rename_i e;simp[e]
 .rename_i e;simp[e]
theorem aeu(l:List Nat)(lo k q:Nat)(hn:l.Nodup)(h:l[k]? =some q)(hq:lo<=q):marks l lo k (q-lo)=false:=by
 unfold marks;rw[show lo+(q-lo)=q by omega];apply decide_eq_false;intro hm;obtain⟨i,hi,he⟩:=List.mem_iff_getElem.1 hm;have hik:i<k:=by have:=hi;rw[List.length_take]at this;omega
 have hkl:=(List.getElem?_eq_some_iff.1 h).1;have e1:l[i]'(by omega)=q:=by rw[<-he];simp
 have e2:l[k]=q:=(List.getElem?_eq_some_iff.1 h).2;exact List.pairwise_iff_getElem.1 hn i k (by omega) hkl hik (by rw[e1,e2])
def qU(l:List Lr)(k:Nat):Nat:=over (l.take k)
theorem afC(l:List Lr)(k:Nat)(r:Lr)(h:l[k]? =some r):qU l (k+1)=qU l k+(r.out-r.cO):=by
 have h1:l.take (k+1)=l.take k++[r]:=by rw[List.take_add_one,h];rfl
 unfold qU over;rw[h1];simp
theorem WG(l:List Lr):∀k,qU l k<=over l:=fun k=>by
 unfold qU over;have h1:l.map (fun r=>r.out-r.cO)=(l.take k).map (fun r=>r.out-r.cO)++(l.drop k).map (fun r=>r.out-r.cO):=by rw[<-List.map_append,List.take_append_drop]
 rw[h1,List.sum_append];omega
theorem afB(l:List Lr):qU l l.length=over l:=by unfold qU;rw[List.take_length]
theorem fZ.seen(h:fZ w tag L bs s)(hs:Small s)(hg:w.grownBy y none):Calls prog 37 #[Pt L 0] y fun e w'=>∃a1 c1 a2 c2 a3 c3 a4 c4 a5 c5 a6 c6,e=.returned (.agg #[Im (s.acc:Int),Im (s.bQ:Int),Im (s.dA:Int),Im (s.dN:Int),.slice a1 s.ah.length c1,.slice a2 s.aG.length c2,.slice a3 s.aJ.length c3,.slice a4 s.aP.length c4,.slice a5 s.ah.length c5,.slice a6 s.ah.length c6,Im s.r0,Im s.r1,Im s.r2,Im s.r3,Im s.r4,Im s.r5,Im s.r6,Im s.r7])/\Hid (Ju s y (.slice a1 s.ah.length c1) (.slice a2 s.aG.length c2) (.slice a3 s.aJ.length c3) (.slice a4 s.aP.length c4) (.slice a5 s.ah.length c5) (.slice a6 s.ah.length c6) w')/\Hid (w.grownBy w' none):=by
 obtain⟨R,pk,cap,ρ,C,h1,h2⟩:=h.grow hg;refine(X4 h1 hs).mono ?_;rintro e w' ⟨a1,c1,a2,c2,a3,c3,a4,c4,a5,c5,a6,c6,e1,e2⟩;exact⟨a1,c1,a2,c2,a3,c3,a4,c4,a5,c5,a6,c6,e1,e2,hg.trans e2.grown⟩
theorem aaB(w2:World)(vs zs:List Value)(T:TypeId)(hl:zs.length=vs.length):∃W,(w2.alloc (.cells zs.toArray T)).setCells w2.heap.size 0 vs=W/\W.heap[w2.heap.size]? =some (.cells vs.toArray T)/\w2.grownBy W none:=
 ⟨_,rfl,Qs hl (heap_alloc_new w2 _),(World.grownBy_alloc w2 _ none).andThen (L9 _ _ _ _) fun j hj=>Or.inl (by cases hj;exact Nat.le_refl _)⟩
theorem adf:(prog.info? 4).map (fun i=>(i.zero,i.size,i.bytes))=some (some (.bool false),1,1):=by kernel_rfl
theorem ahc(n:Nat)(hn:n<=10000000)(w:World):
 (Instr.makeSlice 152 (Im (n:Int)) (Im (n:Int))).run prog w=.ok (.slice (some (Ad w.heap.size 0)) n n) (w.alloc (.cells (madeCells #[.bool false] n) 4)):=by
 obtain⟨i0,hi0,hz0,hz1,hz2⟩:=info_parts adf;have:=run_makeSlice (P:=prog) w 152 4 i0 (.bool false) Tryz.underlying152 hi0 hz0 .i64 .i64 n n (by omega) (by omega) (by rw[hz1];simp;omega) (by rw[hz2];omega) (by omega);rw[this,hz1];simp[Value.cells]
theorem aem(n k:Nat)(hk:k<n):(madeCells #[Value.bool false] n)[k]? =some (.bool false):=by
 have:=toList_madeCells_one (.bool false) n;rw[<-Array.getElem?_toList,this];simp[hk]
structure AQ(W4:World)(M m lo:Nat)(l:List Nat)(k:Nat)(wr:World):Prop where
 cells:∀j,j<m->wr.cell? (Ad M j)=some (.bool (marks l lo k j))
 fz:∀j,wr.frozen? (Ad M j)=false
 grown:W4.grownBy wr (some M)
theorem AQ.next{W4 wr:World}{M m lo k q:Nat}{l:List Nat}(h:AQ W4 M m lo l k wr)(hl:l[k]? =some q)(h1:lo<=q):AQ W4 M m lo l (k+1) (wr.setCell (Ad M (q-lo)) (.bool true)):=by
 refine⟨fun j hj=>?_,fun j=>by rw[World.frozen?_setCell];exact h.fz j,h.grown.trans (dV _ _ _ _)⟩;rw[aev l lo k q hl j];by_cases e:lo+j=q
 .rw[if_pos e];have:j=q-lo:=by omega
  subst this;exact World.cell?_setCell_same _ _ _ (h.cells _ hj)
 .rw[if_neg e,World.cell?_setCell_other _ _ _ _ (by intro x;have:=congrArg Addr.off x;simp only at this;omega)];exact h.cells j hj
theorem AQ.drewN{W4 wr:World}{M m lo k n:Nat}{l:List Nat}(h:AQ W4 M m lo l k wr):AQ W4 M m lo l k (wr.drewN n):=
 ⟨fun j hj=>by rw[World.cell?_drewN];exact h.cells j hj,fun j=>by rw[World.frozen?_drewN];exact h.fz j,h.grown.trans ((dh wr n).but _)⟩
theorem WH(b:Nat):∀l:List Lr,(∀r∈l,r.out<=b)->over l<=l.length * b
 |[],_=>Nat.zero_le _
 |r::l,h=>by
  have h1:=WH b l (fun x hx=>h x (List.mem_cons_of_mem _ hx));have h2:=h r List.mem_cons_self;have e:over (r::l)=(r.out-r.cO)+over l:=by unfold over;simp
  rw[e,List.length_cons,Nat.succ_mul];omega
theorem ah8(h:fZ w tag L bs s)(hn:Sn s)(hs:Small s)(hc:s.acc<=10000000)(p:Int)(hp:(over s.ah:Int)<=p):Calls prog 35 #[Pt L 0,Im p] w fun e w'=>e=.returned (.bool true)/\w.grownBy w' none:=by
 have zA:Hid (∀y,w.grownBy y none->Calls prog 37 #[Pt L 0] y fun e w'=>∃a1 c1 a2 c2 a3 c3 a4 c4 a5 c5 a6 c6,e=.returned (.agg #[Im (s.acc:Int),Im (s.bQ:Int),Im (s.dA:Int),Im (s.dN:Int),.slice a1 s.ah.length c1,.slice a2 s.aG.length c2,.slice a3 s.aJ.length c3,.slice a4 s.aP.length c4,.slice a5 s.ah.length c5,.slice a6 s.ah.length c6,Im s.r0,Im s.r1,Im s.r2,Im s.r3,Im s.r4,Im s.r5,Im s.r6,Im s.r7])/\Hid (Ju s y (.slice a1 s.ah.length c1) (.slice a2 s.aG.length c2) (.slice a3 s.aJ.length c3) (.slice a4 s.aP.length c4) (.slice a5 s.ah.length c5) (.slice a6 s.ah.length c6) w')/\Hid (w.grownBy w' none)):=fun y hy=>h.seen hs hy;obtain⟨o1,o2,o3,o4,o5,o6,o7,o8,o9⟩:=hn.sound (p:=over s.ah) (t:=8 * over s.ah+s.quiet.toNat) (Nat.le_refl _) (Nat.le_refl _);have d1:decide ((s.acc:Int)<(s.bQ:Int))=false:=decide_eq_false (by omega);have d2:decide ((s.bQ:Int)<(s.dA:Int))=false:=decide_eq_false (by omega);have d1':decide (s.acc<s.bQ)=false:=decide_eq_false (by omega);have d2':decide (s.bQ<s.dA)=false:=decide_eq_false (by omega);have d3:decide ((s.dA:Int)<0)=false:=decide_eq_false (by omega);have d4:decide ((16:Int)<(s.aG.length:Int))=false:=decide_eq_false (by omega);have d5:decide ((16:Int)<(s.aJ.length:Int))=false:=decide_eq_false (by omega);have hba:=hs.acc;have hbk:=hs.dA;have hbf:=hs.aG;have hbu:=hs.aP;obtain⟨m,hm⟩:∃m,s.acc-s.dA=m:=⟨_,rfl⟩;have hmI:(s.acc:Int)-(s.dA:Int)=(m:Int):=by omega
 have hfu:(s.aG.length:Int)+(s.aP.length:Int)=(m:Int):=by omega
 have d6:((m:Int)!=(m:Int))=false:=by simp
 have sS:=bC (And.intro hn hs);have Zh:=bC (And.intro o6 (And.intro o7 o8));have hok:=h.ok;have hn4:=hok.ah;clear h hn hs o6 o7 o8 o9 hok;go_enter func35,ntmps35;go_upto_region 1 with fail;refine wp_region_lit ?_;refine wpList_plain rfl fun K hK=>?_;go_simp;refine hK _ _ ?_;clear hK K;refine wpList_plain rfl fun K hK=>?_;go_simp;go_at_call 37;refine(zA.out _ (by repeat (first|exact World.grownBy.refl _ _|refine fG ?_|refine fH ?_|refine gB ?_))).mono ?_;rintro e w2 ⟨a1,c1,a2,c2,a3,c3,a4,c4,a5,c5,a6,c6,rfl,HA,HG⟩;refine hK _ _ ?_;clear hK K zA;refine wpList_plain rfl fun K hK=>?_;go_simp;refine hK _ _ ?_;clear hK K;refine wpList_store_mid rfl _ _ _ rfl w2.heap.size 0 (List.toArray [Im (s.acc:Int),Im (s.bQ:Int),Im (s.dA:Int),Im (s.dN:Int),.slice a1 s.ah.length c1,.slice a2 s.aG.length c2,.slice a3 s.aJ.length c3,.slice a4 s.aP.length c4,.slice a5 s.ah.length c5,.slice a6 s.ah.length c6,Im s.r0,Im s.r1,Im s.r2,Im s.r3,Im s.r4,Im s.r5,Im s.r6,Im s.r7]) rfl rfl (MI (heap_alloc_new w2 _) (by simp)) (by kernel_rfl) (by simp[Value.oneCell']) ?_;obtain⟨W,hW,hblk,hgW⟩:=aaB w2 [Im (s.acc:Int),Im (s.bQ:Int),Im (s.dA:Int),Im (s.dN:Int),.slice a1 s.ah.length c1,.slice a2 s.aG.length c2,.slice a3 s.aJ.length c3,.slice a4 s.aP.length c4,.slice a5 s.ah.length c5,.slice a6 s.ah.length c6,Im s.r0,Im s.r1,Im s.r2,Im s.r3,Im s.r4,Im s.r5,Im s.r6,Im s.r7] [Im 0,Im 0,Im 0,Im 0,Nl,Nl,Nl,Nl,Nl,Nl,Im 0,Im 0,Im 0,Im 0,Im 0,Im 0,Im 0,Im 0] 93 rfl;rw[List.toList_toArray,hW];clear hW
 have e0:W.cell? (Ad w2.heap.size 0)=some (Im (s.acc:Int)):=aA hblk;have e1:W.cell? (Ad w2.heap.size 1)=some (Im (s.bQ:Int)):=aA hblk;have e2:W.cell? (Ad w2.heap.size 2)=some (Im (s.dA:Int)):=aA hblk;have e4:W.cell? (Ad w2.heap.size 4)=some (.slice a1 s.ah.length c1):=aA hblk;have e5:W.cell? (Ad w2.heap.size 5)=some (.slice a2 s.aG.length c2):=aA hblk;have e6:W.cell? (Ad w2.heap.size 6)=some (.slice a3 s.aJ.length c3):=aA hblk;have e7:W.cell? (Ad w2.heap.size 7)=some (.slice a4 s.aP.length c4):=aA hblk;have hBW:w2.heap.size<W.heap.size:=dS hblk;have MP:=bC (And.intro hblk hgW);clear hblk hgW;obtain⟨B,hB⟩:∃B,w2.heap.size=B:=⟨_,rfl⟩;rw[hB]at e0 e1 e2 e4 e5 e6 e7 hBW⊢;have HB:=bC hB;clear hB;have km:=fun(w:World)=>ahc m (by omega) w;go_upto_region 5 with fail;obtain⟨W4,Kq⟩:∃W4,W.alloc (.cells (madeCells #[.bool false] m) 4)=W4:=⟨_,rfl⟩;have hb4:W4.heap[W.heap.size]? =some (.cells (madeCells #[.bool false] m) 4):=by rw[<-Kq];exact heap_alloc_new W _
 have hg4:W.grownBy W4 none:=by rw[<-Kq];exact World.grownBy_alloc W _ none
 have H0:Hid (AQ W4 W.heap.size m s.dA (s.aG++s.aP) 0 W4):=⟨fun j hj=>by rw[aA hb4,aem m j hj,aew],fun j=>eu hb4,World.grownBy.refl _ _⟩;rw[Kq];clear Kq hb4;obtain⟨M,hM⟩:∃M,W.heap.size=M:=⟨_,rfl⟩;rw[hM]at H0 hBW⊢;have hsW:=hg4.size;have hBM:¬B=M:=by omega
 have G7:w2.grownBy W4 none:=MP.out.2.trans hg4;have aj8:w2.heap.size<M:=by rw[HB.out];exact hBW
 have Om:W4.heap[B]? =some (.cells #[Im (s.acc:Int),Im (s.bQ:Int),Im (s.dA:Int),Im (s.dN:Int),.slice a1 s.ah.length c1,.slice a2 s.aG.length c2,.slice a3 s.aJ.length c3,.slice a4 s.aP.length c4,.slice a5 s.ah.length c5,.slice a6 s.ah.length c6,Im s.r0,Im s.r1,Im s.r2,Im s.r3,Im s.r4,Im s.r5,Im s.r6,Im s.r7] 93):=by rw[<-HB.out,hg4.block _ (by rw[hM];omega) (by simp)];exact MP.out.1
 have Jd:Hid (∀wr,W4.grownBy wr (some M)->wr.heap[B]? =some (.cells #[Im (s.acc:Int),Im (s.bQ:Int),Im (s.dA:Int),Im (s.dN:Int),.slice a1 s.ah.length c1,.slice a2 s.aG.length c2,.slice a3 s.aJ.length c3,.slice a4 s.aP.length c4,.slice a5 s.ah.length c5,.slice a6 s.ah.length c6,Im s.r0,Im s.r1,Im s.r2,Im s.r3,Im s.r4,Im s.r5,Im s.r6,Im s.r7] 93)):=fun wr hg=>by
  rw[hg.block B (dS Om) (by simpa using hBM)];exact Om
 have Je:Hid (∀(k q:Nat),s.aG[k]? =some q->∃g2,a2=some (Ad g2 0)/\∀wr,W4.grownBy wr (some M)->wr.cell? (Ad g2 (k * 3))=some (Im (q:Int))):=fun k q hq=>by
  have k1:=Yt s.all s.aG k q hq;obtain⟨g2,r1,r2,r3,r4⟩:=yT HA.out.aG k1;exact⟨g2,r1,fun wr hg=>hg.cell (G7.cell (r4 _ _ k1) (by simp)) (by simp;omega)⟩
 have Jl:Hid (∀(k q:Nat),s.aP[k]? =some q->∃g2,a4=some (Ad g2 0)/\∀wr,W4.grownBy wr (some M)->wr.cell? (Ad g2 (k * 3))=some (Im (q:Int))):=fun k q hq=>by
  have k1:=Yt s.all s.aP k q hq;obtain⟨g2,r1,r2,r3,r4⟩:=yT HA.out.aP k1;exact⟨g2,r1,fun wr hg=>hg.cell (G7.cell (r4 _ _ k1) (by simp)) (by simp;omega)⟩
 have sQ:Hid (∀(k:Nat)(r:Lr),s.ah[k]? =some r->∃g2,a1=some (Ad g2 0)/\∀wr,W4.grownBy wr (some M)->(wr.cell? (Ad g2 (k * 5))=some (Im (k:Int))/\wr.cell? (Ad g2 (k * 5+1))=some (Im (10 * (k+1):Int))/\wr.cell? (Ad g2 (k * 5+2))=some (Im (r.cO:Int))/\wr.cell? (Ad g2 (k * 5+3))=some (Im (r.out:Int))/\wr.cell? (Ad g2 (k * 5+4))=some (.bool r.nX))/\g2<M):=fun k r hq=>by
  obtain⟨k1,k2,k3,k4,k5⟩:=ahC s.ah s.ah.length k r (List.getElem?_eq_some_iff.1 hq).1 hq;obtain⟨g2,r1,r2,r3,r4⟩:=yT HA.out.ah k1;have kk:∀wr,W4.grownBy wr (some M)->∀j u,(seenCells s.ah s.ah.length)[j]? =some u->wr.cell? (Ad g2 j)=some u:=fun wr hg j u hj=>hg.cell (G7.cell (r4 _ _ hj) (by simp)) (by simp;omega);exact⟨g2,r1,fun wr hg=>⟨⟨kk wr hg _ _ k1,kk wr hg _ _ k2,kk wr hg _ _ k3,kk wr hg _ _ k4,kk wr hg _ _ k5⟩,by omega⟩⟩
 have YX:Hid (∀wr,W4.grownBy wr (some M)->w.grownBy wr none):=fun wr hg=>((HG.out.trans G7).andThen hg fun j hj=>Or.inl (by cases hj;have:=HG.out.size;omega));clear G7 Om hg4 hM MP HB HA HG e0 e1 e2 e4 e5 e6 e7;have km':=km;clear km km';go_wp2_with fail;go_loopg [7,8] (m+1) (fun gg i _q wr=>Hid (∃k:Nat,k+gg=m+1/\k<=m/\i=Im k/\AQ W4 M m s.dA (s.aG++s.aP) k wr))
 case atStart=>exact⟨0,by omega,Nat.zero_le _,rfl,H0.out⟩
 case round=>
  obtain⟨k,hk1,hk2,rfl,hS⟩:=hrel.out;clear hrel H0;have hbk:=Jd.out wr hS.grown;have e0:wr.cell? (Ad B 0)=some (Im (s.acc:Int)):=aA hbk;have e2:wr.cell? (Ad B 2)=some (Im (s.dA:Int)):=aA hbk;have e4:wr.cell? (Ad B 4)=some (.slice a1 s.ah.length c1):=aA hbk;have e5:wr.cell? (Ad B 5)=some (.slice a2 s.aG.length c2):=aA hbk;have e7:wr.cell? (Ad B 7)=some (.slice a4 s.aP.length c4):=aA hbk;clear hbk;by_cases hlt:k<m
  .have d7:decide ((k:Int)<(m:Int))=true:=decide_eq_true (by omega);obtain⟨g',hg'⟩:∃g',gk=g'+1:=⟨gk-1,by omega⟩;obtain⟨Qk,Ql,Xu⟩:=Zh.out;have hlen:k<(s.aG++s.aP).length:=by rw[List.length_append];omega
   obtain⟨q,hq⟩:∃q,(s.aG++s.aP)[k]? =some q:=⟨_,List.getElem?_eq_getElem hlen⟩;have hqm:=Qk q (List.mem_of_getElem? hq);obtain⟨j,hj⟩:∃j,q-s.dA=j:=⟨_,rfl⟩;have hqj:(q:Int)-(s.dA:Int)=(j:Int):=by omega
   have hjm:j<m:=by omega
   have j0:(0:Int)<=(j:Int):=by omega
   have j1:(j:Int)<(m:Int):=by omega
   have d8:decide ((j:Int)<0)=false:=decide_eq_false (by omega);have d9:decide ((m:Int)<=(j:Int))=false:=decide_eq_false (by omega);have mj:wr.cell? (Ad M j)=some (.bool false):=by
    rw[hS.cells j hjm,<-hj,aeu _ _ k q Ql hq hqm.1]
   have mf:=hS.fz;have HN:=bC (hS.next hq hqm.1);rw[hj]at HN;by_cases hf:k<s.aG.length
   .have d10:decide ((k:Int)<(s.aG.length:Int))=true:=decide_eq_true (by omega);have k0:(0:Int)<=(k:Int):=by omega
    have k1:(k:Int)<(s.aG.length:Int):=by omega
    rw[List.getElem?_append_left hf]at hq;obtain⟨g2,rfl,hc2⟩:=Je.out k q hq;have cq:=hc2 wr hS.grown;clear hS hc2 Je Jl sQ Qk Ql Xu hqm hq hj;go_wp2_with fail;refine fC 9 (by kernel_rfl) (by kernel_rfl) ?_;simp only[List.take_succ_cons,List.take_zero,List.drop_succ_cons,List.drop_zero];repeat (go_big_quiet_step (fail))
    refine wpQuiet_nil ?_;intro _ hw';obtain⟨k3,hw''⟩:=hw';subst hw'';go_wp2_with fail;go_roundg g'
    case measure=>omega
    case rel=>first|exact⟨k+1,by omega,by omega,by go_num,HN.out.drewN⟩|exact⟨k+1,by omega,by omega,by go_num,HN.out⟩
   .have d10:decide ((k:Int)<(s.aG.length:Int))=false:=decide_eq_false (by omega);obtain⟨i2,hi2⟩:∃i2,k-s.aG.length=i2:=⟨_,rfl⟩;have hki:(k:Int)-(s.aG.length:Int)=(i2:Int):=by omega
    have k0:(0:Int)<=(i2:Int):=by omega
    have k1:(i2:Int)<(s.aP.length:Int):=by omega
    rw[List.getElem?_append_right (by omega),hi2]at hq;obtain⟨g2,rfl,hc2⟩:=Jl.out i2 q hq;have cq:=hc2 wr hS.grown;clear hS hc2 Je Jl sQ Qk Ql Xu hqm hq hj hi2;go_wp2_with fail;refine fC 13 (by kernel_rfl) (by kernel_rfl) ?_;simp only[List.take_succ_cons,List.take_zero,List.drop_succ_cons,List.drop_zero];repeat (go_big_quiet_step (fail))
    refine wpQuiet_nil ?_;intro _ hw';obtain⟨k3,hw''⟩:=hw';subst hw'';go_wp2_with fail;go_roundg g'
    case measure=>omega
    case rel=>first|exact⟨k+1,by omega,by omega,by go_num,HN.out.drewN⟩|exact⟨k+1,by omega,by omega,by go_num,HN.out⟩
  .have d7:decide ((k:Int)<(m:Int))=false:=decide_eq_false (by omega);have UJ:=hS.grown;have HS2:=bC UJ;clear hS Je Jl UJ;have hov:over s.ah<=400000000000000:=by
    have:=WH 100000000000000 s.ah (fun r hr=>by
     obtain⟨i,hi,he⟩:=List.mem_iff_getElem.1 hr;exact(sS.out.2.aK i r (by rw[<-he];simp)).2.2.2.1)
    omega
   rename World=>W5;go_wp2_with fail;go_loopg [9,10] (s.ah.length+1) (fun gg o i wx=>Hid (∃k:Nat,k+gg=s.ah.length+1/\k<=s.ah.length/\o=Im (qU s.ah k:Int)/\i=Im k/\W5.grownBy wx none))
   case atStart=>exact⟨0,by omega,Nat.zero_le _,rfl,rfl,World.grownBy.refl _ _⟩
   case round=>
    obtain⟨k,hk3,hk4,rfl,rfl,hgx⟩:=hrel.out;clear hrel;have hgm:W4.grownBy wr (some M):=HS2.out.andThen hgx fun j hj=>by cases hj
    have hbk:=Jd.out wr hgm;have e4:wr.cell? (Ad B 4)=some (.slice a1 s.ah.length c1):=aA hbk;clear hbk;have ho1:=WG s.ah k;by_cases hlt2:k<s.ah.length
    .have d8:decide ((k:Int)<(s.ah.length:Int))=true:=decide_eq_true (by omega);have k0:(0:Int)<=(k:Int):=by omega
     have k1:(k:Int)<(s.ah.length:Int):=by omega
     obtain⟨g',hg'⟩:∃g',gk=g'+1:=⟨gk-1,by omega⟩;obtain⟨r,hr⟩:∃r,s.ah[k]? =some r:=⟨_,List.getElem?_eq_getElem hlt2⟩;obtain⟨g2,rfl,hc2⟩:=sQ.out k r hr;obtain⟨⟨x0,x1,x2,x3,x4⟩,ajX⟩:=hc2 wr hgm;have hrd:=sS.out.1.aK k r hr;have c8:=hrd.c8;have c1':=hrd.c1;have hout:=(sS.out.2.aK k r hr).2.2.2.1;have d9:decide ((r.cO:Int)<1)=false:=decide_eq_false (by omega);have d10:decide ((8:Int)<(r.cO:Int))=false:=decide_eq_false (by omega);have d11:decide ((r.out:Int)<0)=false:=decide_eq_false (by omega);have d12:((k:Int)!=(k:Int))=false:=by simp
     have D6:Hid (∀y,wr.grownBy y none->W5.grownBy y none):=fun y hy=>hgx.trans hy;have hsu:=afC s.ah k r hr;have ho2:=WG s.ah (k+1);clear hgm hgx hc2 sQ hrd hr;by_cases hoc:r.cO<r.out
     .have d13:decide ((r.cO:Int)<(r.out:Int))=true:=decide_eq_true (by omega);have EI:(qU s.ah k:Int)+(r.out:Int)-(r.cO:Int)=(qU s.ah (k+1):Int):=by omega
      have MX:=bC (rfl:qU s.ah (k+1)=qU s.ah (k+1));generalize UQ:qU s.ah (k+1)=ov' at *;have Y9:=bC UQ;clear UQ MX hsu;generalize qU s.ah k=ov at *;go_wp2_with fail;go_roundg g'
      case measure=>omega
      case rel=>exact⟨k+1,by omega,by omega,by rw[Y9.out],by go_num,D6.out _ (by repeat (first|exact World.grownBy.refl _ _|refine fG ?_|refine fH ?_|refine gB ?_))⟩
     .have d13:decide ((r.cO:Int)<(r.out:Int))=false:=decide_eq_false (by omega);have EI:qU s.ah k=qU s.ah (k+1):=by omega
      have MX:=bC EI;clear EI hsu ho2;generalize qU s.ah k=ov at *;go_wp2_with fail;go_roundg g'
      case measure=>omega
      case rel=>exact⟨k+1,by omega,by omega,by rw[MX.out],by go_num,D6.out _ (by repeat (first|exact World.grownBy.refl _ _|refine fG ?_|refine fH ?_|refine gB ?_))⟩
    .have d8:decide ((k:Int)<(s.ah.length:Int))=false:=decide_eq_false (by omega);have hke:k=s.ah.length:=by omega
     subst hke;rw[afB];have d9:decide ((over s.ah:Int)<=p)=true:=decide_eq_true hp;have Y1:=bC (YX.out _ hgm);clear hgm hgx;go_wp2_with fail;go_ret;exact⟨rfl,Y1.out⟩
end
section
variable {w w' w2 w1:World}{tag tag':Nat->Nat}{L n:Nat}{s s':aO}{bs:List UInt8}
theorem ab1:qA ⟨#[]⟩ ⟨#[]⟩=true:=by decide+kernel
structure Gg where
 kind:Int
 a:Int
 b:Int
def Gi(B:Nat)(w:World)(ad:Option Addr)(l:List Gg):Prop:=∀i (o:Gg),l[i]? =some o->∃b f,ad=some (Ad b f)/\b<B/\w.cell? (Ad b (f+i * 3))=some (Im o.kind)/\w.cell? (Ad b (f+i * 3+1))=some (Im o.a)/\w.cell? (Ad b (f+i * 3+2))=some (Im o.b)
def vM(k:Nat):Nat:=8+8 * k
def Cj(k:Nat):Nat:=k * (vM k+1)
theorem aaj(k:Nat):vM k+8=vM (k+1)/\Cj k+vM k+1<=Cj (k+1):=by
 unfold Cj vM;constructor
 .omega
 .rw[Nat.mul_comm k,Nat.mul_comm (k+1),Nat.mul_succ];have:(8+8 * k+1) * k<=(8+8 * (k+1)+1) * k:=Nat.mul_le_mul_right k (by omega);omega
structure oK(w0:World)(aiF:Nat->Nat)(L:Nat)(bs:List UInt8)(k:Nat)(t:Nat)(wr:World):Prop where
 ex:∃s p,Stepped w0 aiF L bs s wr/\lF s (vM k) (Cj k) (256 * k) k/\over s.ah<=p/\8 * p+s.quiet.toNat<=t
 tk:t<=k
theorem oK.zero{w0:World}(h:fZ w0 tag L bs (uN n))(hn:1<=n):oK w0 tag L bs 0 0 w0:=by
 obtain⟨h1,h2,h3⟩:=aeN n hn;refine⟨⟨uN n,0,Stepped.refl h,⟨h1,h3.mono (by decide) (Nat.zero_le _) (Nat.zero_le _) (Nat.zero_le _),⟨fun p hp=>absurd hp List.not_mem_nil,fun x hx=>?_⟩⟩,by omega,Nat.le_refl _⟩,Nat.le_refl _⟩;have hx':x∈[(0:Int),0,0,0,0,0,0,0]:=hx;simp only[List.mem_cons,List.not_mem_nil,or_false,or_self]at hx';rw[hx'];exact tq
theorem abw{k:Nat}(hk:k<=1048576):xX (vM k) (Cj k+vM k+1) (256 * k) k:=by
 have h1:vM k<=8388616:=by unfold vM;omega
 have h2:Cj k<=1048576 * 8388617:=Nat.mul_le_mul hk (by omega);exact⟨by omega,by omega,by omega,by omega⟩
theorem oK.UA{w0 wr:World}{k t:Nat}(h:oK w0 tag L bs k t wr)(hk:k<=1048576){kd A B:Int}(h1:aZ kd)(h2:aZ A)(h3:aZ B):Calls prog 34 #[Pt L 0,.agg #[Im kd,Im A,Im B]] wr fun e w'=>∃d:Nat,e=.returned (Im (d:Int))/\d<=1/\oK w0 tag L bs (k+1) (t+d) w':=by
 obtain⟨⟨s,p,⟨t1,hl,hf⟩,ho,hp1,hp2⟩,ht⟩:=h;have hfi:=abw hk;refine(abV hl ho hfi h1 h2 h3).mono ?_;rintro e w' ⟨d,e1,s',⟨t2,hl2,hf2⟩,hx⟩;obtain⟨p',q1,q2⟩:=hx.afJ p t hp1 hp2;obtain⟨b1,b2⟩:=aaj k;have hd:=hx.one;exact⟨d,e1,hd,⟨⟨s',p',⟨t2,hl2,hf.trans hf2⟩,hx.okl.mono (by omega) (by omega) (by omega) (Nat.le_refl _),q1,q2⟩,by omega⟩⟩
theorem oK.XV{w0 wr:World}{k t:Nat}(h:oK w0 tag L bs k t wr)(hk:k<=1048577)(p:Int)(hp:p=((t/8:Nat):Int)):Calls prog 35 #[Pt L 0,Im p] wr fun e w'=>e=.returned (.bool true)/\oK w0 tag L bs k t w':=by
 obtain⟨⟨s,q,⟨t1,hl,hf⟩,ho,hp1,hp2⟩,ht⟩:=h;have hb:=ho.bd.acc;have g1:vM k<=8388624:=by unfold vM;omega
 have g2:Cj k<=1048577 * 8388625:=Nat.mul_le_mul hk (by omega);have hs:Small s:=ho.small ⟨by omega,by omega,by omega,by omega⟩;refine(ah8 hl ho.sn hs (by omega) p (by omega)).mono ?_;rintro e w' ⟨e1,e2⟩;exact⟨e1,⟨⟨s,q,⟨t1,hl.grow e2,hf.trans (Lf.grown e2)⟩,ho,hp1,hp2⟩,ht⟩⟩
end
end
end Go.Proofs.YthllhabjfchgiaaGreatDoor
