import Derived.Test.YthllhabjfchgiaaGreatDoorHz03
set_option maxRecDepth 100000
set_option maxHeartbeats 8000000
namespace Go.Proofs.YthllhabjfchgiaaGreatDoor
open _root_.Go.Proofs.Tryz
section
open Go.RowKit
open Hx (St Bk Ls aZ)
section
variable {B:Nat}{w:World}{L:Nat}{s:ByteArray}{l:Ls}{vs vb vl:Value}
theorem MC(l:List St):(l.flatMap qh).length=7 * l.length:=by
 induction l with
 |nil=>rfl
 |cons b bs ih=>simp only[List.flatMap_cons,List.length_append,ih,List.length_cons,qh,List.length_nil];omega
theorem X6(l:List St)(i:Nat)(st:St)(h:l[i]? =some st):∃a b,l=a++st::b/\a.length=i:=by
 have hi:i<l.length:=by
  rcases Nat.lt_or_ge i l.length with h'|h'
  .exact h'
  .rw[List.getElem?_eq_none h']at h;cases h
 refine⟨l.take i,l.drop (i+1),?_,by simp;omega⟩;have e:l[i]=st:=by rw[List.getElem?_eq_getElem hi]at h;exact Option.some.inj h
 rw[<-e,List.getElem_cons_drop,List.take_append_drop]
theorem aio(l:List St)(i:Nat)(st:St)(h:l[i]? =some st)(j:Nat)(hj:j<7):(l.flatMap qh)[i * 7+j]? =(qh st)[j]? :=by
 obtain⟨a,b,rfl,rfl⟩:=X6 l i st h;simp only[List.flatMap_append,List.flatMap_cons];rw[List.getElem?_append_right (by rw[MC];omega),MC,List.getElem?_append_left (by simp[qh];omega)]
 congr 1
 omega
theorem aiq(l:List St)(i:Nat)(st:St)(h:l[i]? =some st)(x:Int):(l.flatMap qh).set (i * 7+6) (Im x)=(l.set i {st with to:=x}).flatMap qh:=by
 obtain⟨a,b,rfl,rfl⟩:=X6 l i st h;simp only[List.flatMap_append,List.flatMap_cons];rw[List.set_append_right _ _ (by rw[MC];omega),MC,show a.length * 7+6-7 * a.length=6 by omega,List.set_append_left _ _ (by simp[qh]),List.set_append_right _ _ (Nat.le_refl _)];simp[qh]
theorem bn.xM(h:bn B w L s l vs vb vl){i:Nat}{st:St}(hst:l.ay[i]? =some st):
 ∃g cap,vs=.slice (some (Ad g 0)) l.ay.length cap/\g<w.heap.size/\¬g=L/\some g≠vb.ownBlock/\some g≠vl.ownBlock/\i<l.ay.length/\uD w g (i * 7) st/\(∀j,w.frozen? (Ad g j)=false):=by
 have hi:i<l.ay.length:=by
  rcases Nat.lt_or_ge i l.ay.length with h'|h'
  .exact h'
  .rw[List.getElem?_eq_none h']at hst;cases hst
 have hrow:=h.ay;have hns:=h.ns;have hsb:=h.sb;have hsl:=h.sl;rcases hrow.2 with⟨h1,h2⟩|⟨g,cap,cur,h1,h2,h3⟩
 .omega
 .have hlt:=(hrow.lt g (by rw[h1];rfl)).2;rw[h1]at hrow hns hsb hsl;have hc:∀j,j<7->w.cell? (Ad g (i * 7+j))=(qh st)[j]? :=fun j hj=>by
   rw[hrow.cellAt _ (by omega)];exact aio _ _ _ hst j hj
  refine⟨g,cap,h1,hlt,fun e=>hns (by rw[<-e];rfl),?_,?_,hi,⟨hc 0 (by omega),hc 1 (by omega),hc 2 (by omega),hc 3 (by omega),hc 4 (by omega),hc 5 (by omega),hc 6 (by omega)⟩,fun j=>hrow.frozenAt j⟩
  .rcases hsb with e|e
   .cases e
   .exact e
  .rcases hsl with e|e
   .cases e
   .exact e
theorem bn.LQ{g cap:Nat}(h:bn B w L s l (.slice (some (Ad g 0)) l.ay.length cap) vb vl){i:Nat}{st:St}(hst:l.ay[i]? =some st)(x:Int):
 bn B (w.setCell (Ad g (i * 7+6)) (Im x)) L s {l with ay:=l.ay.set i {st with to:=x}} (.slice (some (Ad g 0)) l.ay.length cap) vb vl/\
 bF L w (.slice (some (Ad g 0)) l.ay.length cap) vb vl (w.setCell (Ad g (i * 7+6)) (Im x)) (.slice (some (Ad g 0)) l.ay.length cap) vb vl:=by
 have nG:¬g=L:=fun e=>h.ns (by rw[<-e];rfl);have hc:∀k,(w.setCell (Ad g (i * 7+6)) (Im x)).cell? (Ad L k)=w.cell? (Ad L k):=fun k=>World.cell?_setCell_other _ _ _ _ (by intro e;cases e;exact nG rfl);have hrow:=h.ay;have hst2:=hrow.stored (i * 7+6) (Im x);rw[aiq l.ay i st hst x]at hst2;refine⟨⟨h.bL,by rw[hc];exact h.c0,by rw[hc];exact h.c1,by rw[hc];exact h.c2,by rw[hc];exact h.c3,by rw[hc];exact h.c4,by rw[hc];exact h.c5,by rw[hc];exact h.c6,by rw[hc];exact h.c7,fun j=>by rw[World.frozen?_setCell];exact h.fr j,
  ?_,h.aI.kept hst2.2 (zG h.sb),h.bH.kept hst2.2 (zG h.sl),h.ns,h.nb,h.nl,h.sb,h.sl,h.bl⟩,
  ⟨rfl,rfl,rfl,by simp,fun k _ _ h2 _ _=>Below.heap_setCell _ _ _ _ (fun e=>h2 (by rw[e];rfl)),fun _ h=>Or.inl h,fun _ h=>Or.inl h,fun _ h=>Or.inl h⟩⟩
 have:=hst2.1;simpa using this
theorem WO{e:TypeId}{size g n cap:Nat}{xs:List Value}(h:w.ownsRow B e size (.slice (some (Ad g 0)) (n+1) cap) (n+1) xs):w.ownsRow B e size (.slice (some (Ad g 0)) n cap) n (xs.take (n * size)):=by
 obtain⟨h1,h2⟩:=h;rcases h2 with⟨h3,_⟩|⟨g',cap',cur,h3,h4,h5,h6,h7,h8,h9⟩
 .cases h3
 .obtain⟨rfl,rfl⟩:g=g'/\cap=cap':=by simpa using h3
  have hle:n * size<=(n+1) * size:=Nat.mul_le_mul_right _ (by omega);refine⟨by rw[List.length_take,h1];omega,Or.inr ⟨g,cap,cur,rfl,h4,h5,by omega,h7,h8,?_⟩⟩;rw[<-h9,List.take_take,Nat.min_eq_left hle]
end
end
section
open Go.RowKit
open Hx (St Bk Ls aZ)
attribute [local go_sem ↓] Go.wp_at_zero Go.wp_at_succ
attribute [local go_sem] bT
section
variable {B:Nat}{w:World}{L:Nat}{s:ByteArray}{l:Ls}{vs vb vl:Value}
theorem bn.P9{g cap:Nat}{init:List Bk}{b:Bk}(h:bn B w L s l vs (.slice (some (Ad g 0)) (init.length+1) cap) vl)(hb:l.aI=init++[b]):
 bn B (w.setCell (Ad L 3) (.slice (some (Ad g 0)) init.length cap)) L s {l with aI:=init} vs (.slice (some (Ad g 0)) init.length cap) vl/\
 bF L w vs (.slice (some (Ad g 0)) (init.length+1) cap) vl (w.setCell (Ad L 3) (.slice (some (Ad g 0)) init.length cap)) vs (.slice (some (Ad g 0)) init.length cap) vl:=by
 have hlen:l.aI.length=init.length+1:=by rw[hb];simp
 have ho:=h.aI;rw[hlen]at ho;have ho2:=WO ho;have e:(l.aI.flatMap lV).take (init.length * 4)=init.flatMap lV:=by
  rw[hb,List.flatMap_append,List.take_left' (by rw[Cm];omega)]
 rw[e]at ho2;obtain⟨g1,g2,_,_⟩:=h.NI (w1:=w) ⟨rfl,rfl,rfl,Nat.le_refl _,fun _ _ _=>rfl⟩ ho2 (fun g' hg'=>Or.inl hg');exact⟨g1,g2⟩
theorem bn.afT{g cap:Nat}{init:List Int}{x:Int}(h:bn B w L s l vs vb (.slice (some (Ad g 0)) (init.length+1) cap))(hx:l.bH=init++[x]):
 bn B (w.setCell (Ad L 4) (.slice (some (Ad g 0)) init.length cap)) L s {l with bH:=init} vs vb (.slice (some (Ad g 0)) init.length cap)/\
 bF L w vs vb (.slice (some (Ad g 0)) (init.length+1) cap) (w.setCell (Ad L 4) (.slice (some (Ad g 0)) init.length cap)) vs vb (.slice (some (Ad g 0)) init.length cap):=by
 have hlen:l.bH.length=init.length+1:=by rw[hx];simp
 have ho:=h.bH;rw[hlen]at ho;have ho2:=WO ho;have e:(l.bH.map (Value.int .i64)).take (init.length * 1)=init.map (Value.int .i64):=by
  rw[hx,List.map_append,List.take_left' (by simp)]
 rw[e]at ho2;obtain⟨g1,g2,_,_⟩:=h.VI (w1:=w) ⟨rfl,rfl,rfl,Nat.le_refl _,fun _ _ _=>rfl⟩ ho2 (fun g' hg'=>Or.inl hg');exact⟨g1,g2⟩
theorem dh(w:World)(k:Nat):w.grownBy (w.drewN k) none:=⟨rfl,rfl,rfl,Nat.le_refl _,fun _ _ _=>rfl⟩
theorem LD{e:TypeId}{size n cap:Nat}{a:Option Addr}{xs:List Value}(h:w.ownsRow B e size (.slice a n cap) n xs):n<=cap/\cap<=maxLen:=by
 rcases h.2 with⟨h3,h4⟩|⟨g',cap',cur,h3,h4,h5,h6,h7,h8⟩
 .cases h3;exact⟨Nat.le_refl _,Nat.zero_le _⟩
 .cases h3;exact⟨h6,h7⟩
theorem abe(h:bn B w L s l vs vb vl)(init:List Bk)(b:Bk)(hb:l.aI=init++[b])(hne:init≠[])(hlb:l.aI.length<=900000)
 (p:Nat)(st:St)(hst:l.ay[p]? =some st)(hp:0<p)(ho:b.other=p):
 Calls prog 171 #[Pt L 0,.agg #[Im b.kQ,Im b.other,Im b.need,Im b.before]] w fun e w'=>e=.returned (.tuple #[])/\
  ∃bV,bn B w' L s (oP l p st init b) vs bV vl/\bF L w vs vb vl w' vs bV vl:=by
 obtain⟨gs,cs,rfl,hgs,uI,hgb,hgl,hps,hat,hfr⟩:=h.xM hst;obtain⟨gb,cb,hvb⟩:∃gb cb,vb=.slice (some (Ad gb 0)) (init.length+1) cb:=by
  obtain⟨g,cap,init',b',e1,_⟩:=h.inner (by rw[hb];simp);exact⟨g,cap,by rw[e1,hb];simp⟩
 subst hvb;have HP:Hid (∀o k z,z=max b.need b.before->Calls prog 172 #[Pt L 0,Im z] ((((w.setCell (Ad gs (p * 7+6)) (Im l.ay.length)).setCell (Ad L 3) (.slice (some (Ad gb 0)) init.length cb)).alloc o).drewN k) fun e w'=>e=.returned (.tuple #[])/\
  bn B w' L s (oP l p st init b) (.slice (some (Ad gs 0)) l.ay.length cs) (.slice (some (Ad gb 0)) init.length cb) vl/\
  bF L w (.slice (some (Ad gs 0)) l.ay.length cs) (.slice (some (Ad gb 0)) (init.length+1) cb) vl w' (.slice (some (Ad gs 0)) l.ay.length cs) (.slice (some (Ad gb 0)) init.length cb) vl):=fun o k z hz=>by
  subst hz;obtain⟨h2,m2⟩:=h.LQ hst (l.ay.length:Int);obtain⟨h4,m4⟩:=h2.P9 (init:=init) (b:=b) hb;have h5:=(h4.alloc o).drewN k
  refine(JL h5 hne (by have:l.aI.length=init.length+1:=by rw[hb];simp
                       show init.length<=_;omega) (max b.need b.before)).mono ?_
  rintro e w' ⟨h6,h7,h8⟩;exact⟨h6,h7,m2.trans (m4.trans ((bF.grow L _ _ _ _ (World.grownBy_alloc _ o none)).trans (bF.trans (bF.grow L _ _ _ _ (dh _ k)) h8)))⟩
 have c2:=h.c2;have c3:=h.c3;have f3:=h.fr 3;have f6:=hfr (p * 7+6);have a6:=hat.2.2.2.2.2.2;have UK:¬L=gs:=fun e=>uI e.symm;have hlen:l.aI.length=init.length+1:=by rw[hb];simp
 have hin:init.length<=900000:=by omega
 have hcap:init.length<=cb:=by
  have h9:=h.aI;rw[hlen]at h9;have:=LD h9;omega
 have hL:=h.lt;have n1:¬L=w.heap.size:=by omega
 have n2:¬gs=w.heap.size:=by omega
 have ho':decide (0<b.other)=true:=by rw[ho];simp;omega
 clear h hb hne hat hfr hlen hst;rw[ho]at ho'⊢;clear ho;generalize oP l p st init b=l' at *;generalize init.length=n at *;generalize l.ay.length=m at *;have i0:(0:Int)<=(p:Int):=by omega
 have i1:(p:Int)<(m:Int):=by omega
 have i2:(0:Int)<=(n:Int):=by omega
 have i3:(n:Int)<=(cb:Int):=by omega
 generalize b.need=x at *;generalize b.before=y at *;go_enter func171,ntmps171;go_wp2_with fail;refine fC 12 (by kernel_rfl) (by kernel_rfl) ?_;simp only[List.take_succ_cons,List.take_zero,List.drop_succ_cons,List.drop_zero];repeat (go_big_quiet_step (fail))
 refine wpQuiet_nil ?_;intro _ hw';obtain⟨k1,hw''⟩:=hw';subst hw'';go_wp2_with fail;refine fC 14 (by kernel_rfl) (by kernel_rfl) ?_;simp only[List.take_succ_cons,List.take_zero,List.drop_succ_cons,List.drop_zero];repeat (go_big_quiet_step (fail))
 refine wpQuiet_nil ?_;intro _ hw';obtain⟨k2,hw''⟩:=hw';subst hw'';go_wp2_with fail;all_goals
  refine(HP.out _ _ _ (by omega)).mono ?_;rintro e w1 ⟨rfl,h1,h2⟩;go_wp2;go_end0;exact⟨rfl,_,h1,h2⟩
theorem abd(h:bn B w L s l vs vb vl)(init:List Bk)(b:Bk)(hb:l.aI=init++[b])(hne:init≠[])(hlb:l.aI.length<=900000)
 (p:Nat)(st:St)(hst:l.ay[p]? =some st)(hp:¬0<b.other)(ho:b.kQ=p):
 Calls prog 171 #[Pt L 0,.agg #[Im b.kQ,Im b.other,Im b.need,Im b.before]] w fun e w'=>e=.returned (.tuple #[])/\
  ∃bV,bn B w' L s (oP l p st init b) vs bV vl/\bF L w vs vb vl w' vs bV vl:=by
 obtain⟨gs,cs,rfl,hgs,uI,hgb,hgl,hps,hat,hfr⟩:=h.xM hst;obtain⟨gb,cb,hvb⟩:∃gb cb,vb=.slice (some (Ad gb 0)) (init.length+1) cb:=by
  obtain⟨g,cap,init',b',e1,_⟩:=h.inner (by rw[hb];simp);exact⟨g,cap,by rw[e1,hb];simp⟩
 subst hvb;have HP:Hid (∀o k z,z=max b.need b.before->Calls prog 172 #[Pt L 0,Im z] ((((w.setCell (Ad gs (p * 7+6)) (Im l.ay.length)).setCell (Ad L 3) (.slice (some (Ad gb 0)) init.length cb)).alloc o).drewN k) fun e w'=>e=.returned (.tuple #[])/\
  bn B w' L s (oP l p st init b) (.slice (some (Ad gs 0)) l.ay.length cs) (.slice (some (Ad gb 0)) init.length cb) vl/\
  bF L w (.slice (some (Ad gs 0)) l.ay.length cs) (.slice (some (Ad gb 0)) (init.length+1) cb) vl w' (.slice (some (Ad gs 0)) l.ay.length cs) (.slice (some (Ad gb 0)) init.length cb) vl):=fun o k z hz=>by
  subst hz;obtain⟨h2,m2⟩:=h.LQ hst (l.ay.length:Int);obtain⟨h4,m4⟩:=h2.P9 (init:=init) (b:=b) hb;have h5:=(h4.alloc o).drewN k
  refine(JL h5 hne (by have:l.aI.length=init.length+1:=by rw[hb];simp
                       show init.length<=_;omega) (max b.need b.before)).mono ?_
  rintro e w' ⟨h6,h7,h8⟩;exact⟨h6,h7,m2.trans (m4.trans ((bF.grow L _ _ _ _ (World.grownBy_alloc _ o none)).trans (bF.trans (bF.grow L _ _ _ _ (dh _ k)) h8)))⟩
 have c2:=h.c2;have c3:=h.c3;have f3:=h.fr 3;have f6:=hfr (p * 7+6);have a6:=hat.2.2.2.2.2.2;have UK:¬L=gs:=fun e=>uI e.symm;have hlen:l.aI.length=init.length+1:=by rw[hb];simp
 have hin:init.length<=900000:=by omega
 have hcap:init.length<=cb:=by
  have h9:=h.aI;rw[hlen]at h9;have:=LD h9;omega
 have hL:=h.lt;have n1:¬L=w.heap.size:=by omega
 have n2:¬gs=w.heap.size:=by omega
 have ho':decide (0<b.other)=false:=by simpa using hp
 clear h hb hne hat hfr hlen hst;rw[ho];clear ho hp;generalize oP l p st init b=l' at *;generalize init.length=n at *;generalize l.ay.length=m at *;have i0:(0:Int)<=(p:Int):=by omega
 have i1:(p:Int)<(m:Int):=by omega
 have i2:(0:Int)<=(n:Int):=by omega
 have i3:(n:Int)<=(cb:Int):=by omega
 generalize b.need=x at *;generalize b.before=y at *;go_enter func171,ntmps171;go_wp2_with fail;refine fC 12 (by kernel_rfl) (by kernel_rfl) ?_;simp only[List.take_succ_cons,List.take_zero,List.drop_succ_cons,List.drop_zero];repeat (go_big_quiet_step (fail))
 refine wpQuiet_nil ?_;intro _ hw';obtain⟨k1,hw''⟩:=hw';subst hw'';go_wp2_with fail;refine fC 14 (by kernel_rfl) (by kernel_rfl) ?_;simp only[List.take_succ_cons,List.take_zero,List.drop_succ_cons,List.drop_zero];repeat (go_big_quiet_step (fail))
 refine wpQuiet_nil ?_;intro _ hw';obtain⟨k2,hw''⟩:=hw';subst hw'';go_wp2_with fail;all_goals
  refine(HP.out _ _ _ (by omega)).mono ?_;rintro e w1 ⟨rfl,h1,h2⟩;go_wp2;go_end0;exact⟨rfl,_,h1,h2⟩
theorem bn.aga(h:bn B w L s l vs vb vl)(x:Int):bn B (w.setCell (Ad L 6) (Im x)) L s {l with need:=x} vs vb vl:=by
 have hc:∀k,¬k=6->(w.setCell (Ad L 6) (Im x)).cell? (Ad L k)=w.cell? (Ad L k):=fun k hk=>World.cell?_setCell_other _ _ _ _ (by intro e;cases e;exact hk rfl);exact h.put 6 _ _ vs vb vl (by rw[hc 1 (by omega)];exact h.c1) (by rw[hc 2 (by omega)];exact h.c2) (by rw[hc 3 (by omega)];exact h.c3) (by rw[hc 4 (by omega)];exact h.c4) (by rw[hc 5 (by omega)];exact h.c5) (World.cell?_setCell_same _ _ _ h.c6) (by rw[hc 7 (by omega)];exact h.c7) (by omega) h.ay h.aI h.bH h.ns h.nb h.nl h.sb h.sl h.bl
theorem bn.noBlocks(h:bn B w L s l vs vb vl):bn B (w.setCell (Ad L 3) (Nl)) L s {l with aI:=[]} vs (Nl) vl/\bF L w vs vb vl (w.setCell (Ad L 3) (Nl)) vs (Nl) vl:=by
 obtain⟨g1,g2,_,_⟩:=h.NI (w1:=w) ⟨rfl,rfl,rfl,Nat.le_refl _,fun _ _ _=>rfl⟩ (bV:=Nl) (blocks':=[]) ⟨rfl,Or.inl ⟨rfl,rfl⟩⟩ (fun g' hg'=>by cases hg');exact⟨g1,g2⟩
theorem abb(h:bn B w L s l vs vb vl)(hne:l.aI≠[])(hlb:l.aI.length<=900000)(hls:l.ay.length<=900000):
 Calls prog 169 #[Pt L 0] w fun e w'=>e=.returned (.tuple #[])/\
  ∃vs' bV,bn B w' L s (xk l) vs' bV vl/\bF L w vs vb vl w' vs' bV vl:=by
 have HA:Hid (Calls prog 118 #[Pt L 0,.agg #[.int .u8 1,Im 0,Im 0,Im 0,Im 0,Im 0,Im 0]] w fun e w'=>e=.returned (.tuple #[])/\
  ∃vs',bn B w' L s (fE l ⟨1,0,0,0,0,0,0⟩) vs' vb vl/\bF L w vs vb vl w' vs' vb vl):=Ei h hne (by omega) (by omega) 1 0 0 0 0 0 0
 have HB:Hid ((fE l ⟨1,0,0,0,0,0,0⟩).aI.length=l.aI.length):=Jz l _ hne;have hpos:0<l.aI.length:=List.length_pos_iff.2 hne;unfold xk;generalize fE l ⟨1,0,0,0,0,0,0⟩=l1 at *;generalize l.aI.length=nb at *;clear h hne;go_enter func169,ntmps169;go_wp2_with fail;refine(HA.out).mono ?_;rintro e w1 ⟨rfl,vs1,h1,m1⟩;obtain⟨g,cap,init,b,hvb,hb,htop,nG,hBg,hgw,hgs,hgl,b0,b1,b2,b3,hf⟩:=h1.inner (fun e=>by have:=HB.out;rw[e]at this;simp at this;omega);subst hvb;have hn:l1.aI.length=init.length+1:=by rw[hb];simp
 have HI:Hid (Calls prog 168 #[Pt L 0] w1 fun e w'=>e=.returned (Pt g (init.length * 4))/\∃k,w'=w1.drewN k):=
  xA L g init.length cap w1 (by rw[h1.c3,hn]) (by have:=HB.out;omega)
 have HP:Hid (∀k,bn B (((w1.setCell (Ad L 6) (Im b.need)).setCell (Ad L 3) (Nl)).drewN k) L s {l1 with need:=l1.dM.need,aI:=[]} vs1 (Nl) vl/\
  bF L w vs (.slice (some (Ad g 0)) l1.aI.length cap) vl (((w1.setCell (Ad L 6) (Im b.need)).setCell (Ad L 3) (Nl)).drewN k) vs1 (Nl) vl):=fun k=>by
  obtain⟨h2,m2⟩:=(h1.aga b.need).noBlocks;rw[htop];exact⟨h2.drewN k,m1.trans ((bF.own _ _ _ _ _ _ _).trans (m2.trans (bF.grow L _ _ _ _ (dh _ k))))⟩
 have c3:=h1.c3;have c6:=h1.c6;have f3:=h1.fr 3;have f6:=h1.fr 6;have UH:¬L=g:=fun e=>nG e.symm;clear h1 m1 hb htop b0 b1 b3 hf;generalize init.length * 4=p at *;go_wp2_with fail;refine(HI.out).mono ?_;rintro e w2 ⟨rfl,k,rfl⟩;go_wp2;go_end0;exact⟨rfl,_,_,HP.out _⟩
theorem abf(h:bn B w L s l vs vb vl)(hbl:2<=l.aI.length)(hlb:l.aI.length<=900000)(hls:l.ay.length<=900000)(rY:List Int)(x:Int)(hx:l.bH=rY++[x])(hll:l.bH.length<=900000)
 (p:Nat)(sp:St)(hst:l.ay[p]? =some sp)(q a b c d dp t:Int):
 Calls prog 170 #[Pt L 0,.agg #[.int .u8 q,Im a,Im b,Im c,Im d,Im dp,Im t],Im p] w fun e w'=>e=.returned (.tuple #[])/\
  ∃vs' bV dI,bn B w' L s (xq l ⟨q,a,b,c,d,dp,t⟩ p sp) vs' bV dI/\bF L w vs vb vl w' vs' bV dI:=by
 have hne:l.aI≠[]:=fun e=>by rw[e]at hbl;simp at hbl
 have hlt:p<l.ay.length:=by
  rcases Nat.lt_or_ge p l.ay.length with h'|h'
  .exact h'
  .rw[List.getElem?_eq_none h']at hst;cases hst
 have HA:Hid (∀o,Calls prog 118 #[Pt L 0,.agg #[.int .u8 q,Im a,Im b,Im c,Im d,Im dp,Im p]] (w.alloc o) fun e w'=>e=.returned (.tuple #[])/\
  ∃vs',bn B w' L s (fE l ⟨q,a,b,c,d,dp,p⟩) vs' vb vl/\bF L w vs vb vl w' vs' vb vl):=fun o=>by
  refine(Ei (h.alloc o) hne (by omega) (by omega) q a b c d dp p).mono ?_;rintro e w' ⟨h1,vs',h2,h3⟩;exact⟨h1,vs',h2,(bF.grow L w _ _ _ (World.grownBy_alloc w o none)).trans h3⟩
 have HB:Hid ((fE l ⟨q,a,b,c,d,dp,p⟩).aI.length=l.aI.length):=Jz l _ hne;have HS:Hid ((fE l ⟨q,a,b,c,d,dp,p⟩).ay[p]? =some sp):=by
  show _=_;rw[Gp,List.getElem?_append_left hlt];exact hst
 have HL:Hid ((fE l ⟨q,a,b,c,d,dp,p⟩).bH=rY++[x]):=hx;have HN:Hid ((fE l ⟨q,a,b,c,d,dp,p⟩).ay.length=l.ay.length+1):=by
  show _=_;rw[Gp];simp
 have HE:Hid (xq l ⟨q,a,b,c,d,dp,t⟩ p sp=Ew (fE l ⟨q,a,b,c,d,dp,p⟩) p sp):=rfl;rw[HE.out];have aj3:rY.length<=900000:=by rw[hx]at hll;simp at hll;omega
 clear HE;generalize fE l ⟨q,a,b,c,d,dp,p⟩=l1 at *;have hL:=h.lt;have n1:¬L=w.heap.size:=by omega
 generalize l.aI.length=nb at *;generalize l.ay.length=ns at *;clear h hne hx hst hll;go_enter func170,ntmps170;go_wp2_with fail;refine(HA.out _).mono ?_;rintro e w1 ⟨rfl,vs1,h1,m1⟩;obtain⟨gs,cs,rfl,hgs,uI,hgb,hgl,hps,hat,hfr⟩:=h1.xM HS.out;obtain⟨g,cap,init,bb,hvb,hb,htop,nG,hBg,hgw,vU,zT,b0,b1,b2,b3,hf⟩:=h1.inner (fun e=>by have:=HB.out;rw[e]at this;simp at this;omega);obtain⟨gl,En,hvl,aj0,cgl⟩:=h1.Vs HL.out;subst hvb;subst hvl;have hn:l1.aI.length=init.length+1:=by rw[hb];simp
 have hin:init.length<=900000:=by have:=HB.out;omega
 have hin0:init≠[]:=fun e=>by have:=HB.out;rw[hn,e]at this;simp at this;omega
 have hns:l1.ay.length<=900001:=by have:=HN.out;omega
 rw[hn]at h1 m1 hgb;have HI:Hid (Calls prog 168 #[Pt L 0] w1 fun e w'=>e=.returned (Pt g (init.length * 4))/\∃k,w'=w1.drewN k):=
  xA L g init.length cap w1 h1.c3 (by omega)
 have HP:Hid (∀k z,z=wrap64 (Hx.oQ sp.a * bb.need)->Calls prog 172 #[Pt L 0,Im z] ((((w1.setCell (Ad L 3) (.slice (some (Ad g 0)) init.length cap)).setCell (Ad L 4) (.slice (some (Ad gl 0)) rY.length En)).setCell (Ad gs (p * 7+6)) (Im l1.ay.length)).drewN k) fun e w'=>e=.returned (.tuple #[])/\
  bn B w' L s (Ew l1 p sp) (.slice (some (Ad gs 0)) l1.ay.length cs) (.slice (some (Ad g 0)) init.length cap) (.slice (some (Ad gl 0)) rY.length En)/\
  bF L w vs (.slice (some (Ad g 0)) (init.length+1) cap) (.slice (some (Ad gl 0)) (rY.length+1) En) w' (.slice (some (Ad gs 0)) l1.ay.length cs) (.slice (some (Ad g 0)) init.length cap) (.slice (some (Ad gl 0)) rY.length En)):=fun k z hz=>by
  subst hz;obtain⟨h2,m2⟩:=h1.P9 (init:=init) (b:=bb) hb;obtain⟨h3,m3⟩:=h2.afT (init:=rY) (x:=x) HL.out;obtain⟨h4,m4⟩:=h3.LQ HS.out (l1.ay.length:Int);have h5:=h4.drewN k;refine(JL h5 hin0 (by show init.length<=_;omega) _).mono ?_;rintro e w' ⟨h6,h7,h8⟩;refine⟨h6,?_,m1.trans (m2.trans (m3.trans (m4.trans (bF.trans (bF.grow L _ _ _ _ (dh _ k)) h8))))⟩;have e1:l1.aI.dropLast=init:=by rw[hb];simp
  have e2:l1.bH.dropLast=rY:=by rw[HL.out];simp
  unfold Ew;rw[e1,e2,htop];exact h7
 have hcap:init.length<=cap:=by
  have h9:=h1.aI;rw[hn]at h9;have:=LD h9;omega
 have ajV:rY.length<=En:=by
  have h9:=h1.bH;rw[HL.out]at h9;simp only[List.length_append,List.length_singleton]at h9;have:=LD h9;omega
 have c2:=h1.c2;have c3:=h1.c3;have c4:=h1.c4;have f3:=h1.fr 3;have f4:=h1.fr 4;have f6:=hfr (p * 7+6);have a1:=hat.2.1;have a6:=hat.2.2.2.2.2.2;have UK:¬L=gs:=fun e=>uI e.symm;have UH:¬L=g:=fun e=>nG e.symm;have HQ:Hid (l1.aI.length=init.length+1):=hn;clear h1 m1 hb htop b0 b1 b3 hf hfr hat hn hin0 HA HB HS HL HN;generalize hm:l1.ay.length=m at *;generalize hj:rY.length=j at *;generalize init.length=n at *;have HJ:Hid (rY.length=j):=hj;clear hm hj;have i0:(0:Int)<=(p:Int):=by omega
 have i1:(p:Int)<(m:Int):=by omega
 have i2:(0:Int)<=(n:Int):=by omega
 have i3:(n:Int)<=(cap:Int):=by omega
 have i4:(0:Int)<=(j:Int):=by omega
 have i5:(j:Int)<=(En:Int):=by omega
 go_wp2_with fail;refine(HI.out).mono ?_;rintro e w2 ⟨rfl,k,rfl⟩;go_wp2_with fail;refine xR 14 (by kernel_rfl) (by kernel_rfl) ?_;simp only[List.take_succ_cons,List.take_zero,List.drop_succ_cons,List.drop_zero];repeat (go_big_quiet_step (fail))
 refine wpQuiet_nil ?_;intro _ hw';obtain⟨k2,hw''⟩:=hw';subst hw'';go_wp2_with fail;refine xR 14 (by kernel_rfl) (by kernel_rfl) ?_;simp only[List.take_succ_cons,List.take_zero,List.drop_succ_cons,List.drop_zero];repeat (go_big_quiet_step (fail))
 refine wpQuiet_nil ?_;intro _ hw';obtain⟨k3,hw''⟩:=hw';subst hw'';go_wp2_with fail;refine xR 12 (by kernel_rfl) (by kernel_rfl) ?_;simp only[List.take_succ_cons,List.take_zero,List.drop_succ_cons,List.drop_zero];repeat (go_big_quiet_step (fail))
 refine wpQuiet_nil ?_;intro _ hw';obtain⟨k4,hw''⟩:=hw';subst hw'';go_wp2_with fail;refine(adR _ _).mono ?_;rintro e w3 ⟨rfl,rfl⟩;go_wp2_with fail;refine(HP.out _ _ rfl).mono ?_;rintro e w4 ⟨rfl,h1,h2⟩;go_wp2;go_end0;rw[HQ.out,HJ.out];exact⟨rfl,_,_,_,h1,h2⟩
theorem abg(h:bn B w L s l vs vb vl)(hbl:l.aI.length=1)(hls:l.ay.length<=900000)(q a b c d dp t:Int):
 Calls prog 116 #[Pt L 0,.agg #[.int .u8 q,Im a,Im b,Im c,Im d,Im dp,Im t]] w fun e w'=>e=.returned (.tuple #[])/\
  ∃vs' bV dI,bn B w' L s (xk l) vs' bV dI/\bF L w vs vb vl w' vs' bV dI:=by
 have hne:l.aI≠[]:=fun e=>by rw[e]at hbl;simp at hbl
 obtain⟨g,cap,init,bb,hvb,hb,htop,nG,hBg,hgw,vU,zT,b0,b1,b2,b3,hf⟩:=h.inner hne;subst hvb;have hn:l.aI.length=init.length+1:=by rw[hb];simp
 rw[hn]at h⊢;have HI:Hid (∀o,Calls prog 168 #[Pt L 0] (w.alloc o) fun e w'=>e=.returned (Pt g (init.length * 4))/\∃k,w'=(w.alloc o).drewN k):=fun o=>
  xA L g init.length cap (w.alloc o) (h.alloc o).c3 (by omega)
 have HC:Hid (∀o o2 k,Calls prog 169 #[Pt L 0] (((w.alloc o).drewN k).alloc o2) fun e w'=>e=.returned (.tuple #[])/\
  ∃vs' bV,bn B w' L s (xk l) vs' bV vl/\bF L w vs (.slice (some (Ad g 0)) (init.length+1) cap) vl w' vs' bV vl):=fun o o2 k=>by
  refine(abb (((h.alloc o).drewN k).alloc o2) hne (by omega) hls).mono ?_;rintro e w' ⟨h1,vs',bV,h2,h3⟩;exact⟨h1,vs',bV,h2,(bF.grow L w _ _ _ (World.grownBy_alloc w o none)).trans ((bF.grow L _ _ _ _ (dh _ k)).trans (bF.trans (bF.grow L _ _ _ _ (World.grownBy_alloc _ o2 none)) h3))⟩
 have c3:=h.c3;have hL:=h.lt;have n1:¬L=w.heap.size:=by omega
 have n2:¬g=w.heap.size:=by omega
 have n3:¬L=w.heap.size+1:=by omega
 have n4:¬g=w.heap.size+1:=by omega
 have hone:(((init.length:Int)+1)==1)=true:=by simp;omega
 clear h hf hne hb htop hn hbl;generalize xk l=l2 at *;generalize init.length=n at *;go_enter func116,ntmps116;go_wp2_with fail;refine(HI.out _).mono ?_;rintro e w1 ⟨rfl,k,rfl⟩;go_wp2_with fail;refine(HC.out _ _ _).mono ?_;rintro e w2 ⟨rfl,vs',bV,h1,h2⟩;go_wp2;go_end0;exact⟨rfl,_,_,_,h1,h2⟩
theorem abk(h:bn B w L s l vs vb vl)(hbl:2<=l.aI.length)(hlb:l.aI.length<=900000)(p:Nat)(sp:St)(hst:l.ay[p]? =some sp)(hop:l.dM.kQ=p)(hsp:sp.op=4)(rY:List Int)(x:Int)(hx:l.bH=rY++[x])(hll:l.bH.length<=900000)(hls:l.ay.length<=900000)(q a b c d dp t:Int):
 Calls prog 116 #[Pt L 0,.agg #[.int .u8 q,Im a,Im b,Im c,Im d,Im dp,Im t]] w fun e w'=>e=.returned (.tuple #[])/\
  ∃vs' bV dI,bn B w' L s (xq l ⟨q,a,b,c,d,dp,t⟩ p sp) vs' bV dI/\bF L w vs vb vl w' vs' bV dI:=by
 have hne:l.aI≠[]:=fun e=>by rw[e]at hbl;simp at hbl
 obtain⟨g,cap,init,bb,hvb,hb,htop,nG,hBg,hgw,vU,zT,b0,b1,b2,b3,hf⟩:=h.inner hne;subst hvb;have hn:l.aI.length=init.length+1:=by rw[hb];simp
 rw[hn]at h⊢;have HI:Hid (∀o,Calls prog 168 #[Pt L 0] (w.alloc o) fun e w'=>e=.returned (Pt g (init.length * 4))/\∃k,w'=(w.alloc o).drewN k):=fun o=>
  xA L g init.length cap (w.alloc o) (h.alloc o).c3 (by omega)
 have acn:l.aI.length<=900000:=hlb;have HC:Hid (∀o o2 k k2,Calls prog 170 #[Pt L 0,.agg #[.int .u8 q,Im a,Im b,Im c,Im d,Im dp,Im t],Im p] ((((w.alloc o).drewN k).alloc o2).drewN k2) fun e w'=>e=.returned (.tuple #[])/\
  ∃vs' bV dI,bn B w' L s (xq l ⟨q,a,b,c,d,dp,t⟩ p sp) vs' bV dI/\bF L w vs (.slice (some (Ad g 0)) (init.length+1) cap) vl w' vs' bV dI):=fun o o2 k k2=>by
  refine(abf ((((h.alloc o).drewN k).alloc o2).drewN k2) hbl hlb hls rY x hx hll p sp hst q a b c d dp t).mono ?_;rintro e w' ⟨h1,vs',bV,dI,h2,h3⟩;exact⟨h1,vs',bV,dI,h2,(bF.grow L w _ _ _ (World.grownBy_alloc w o none)).trans ((bF.grow L _ _ _ _ (dh _ k)).trans ((bF.grow L _ _ _ _ (World.grownBy_alloc _ o2 none)).trans (bF.trans (bF.grow L _ _ _ _ (dh _ k2)) h3)))⟩
 have c3:=h.c3;have hL:=h.lt;have n1:¬L=w.heap.size:=by omega
 have n2:¬g=w.heap.size:=by omega
 have n3:¬L=w.heap.size+1:=by omega
 have n4:¬g=w.heap.size+1:=by omega
 rw[htop]at hop;rw[hop]at b0;obtain⟨gs,cs,hvs,hgs,uI,hgb,hgl,hps,hat,hfr⟩:=h.xM hst;subst hvs;have c2:=h.c2;have a0:=hat.1;have n5:¬gs=w.heap.size:=by omega
 have n6:¬gs=w.heap.size+1:=by omega
 have hone:(((init.length:Int)+1)==1)=false:=by simp;omega
 have i0:(0:Int)<=(p:Int):=by omega
 have i1:(p:Int)<(l.ay.length:Int):=by omega
 rw[hsp]at a0;have hl0:=acn;clear h hf hne hb htop hn hbl hat hfr;generalize xq l ⟨q,a,b,c,d,dp,t⟩ p sp=l2 at *;generalize init.length=n at *;go_enter func116,ntmps116;go_wp2_with fail;refine(HI.out _).mono ?_;rintro e w1 ⟨rfl,k,rfl⟩;go_wp2_with fail;refine fC 10 (by kernel_rfl) (by kernel_rfl) ?_;simp only[List.take_succ_cons,List.take_zero,List.drop_succ_cons,List.drop_zero];repeat (go_big_quiet_step (fail))
 refine wpQuiet_nil ?_;intro _ hw';obtain⟨k2,hw''⟩:=hw';subst hw'';go_wp2_with fail;refine(HC.out _ _ _ _).mono ?_;rintro e w2 ⟨rfl,vs',bV,dI,h1,h2⟩;go_wp2;go_end0;exact⟨rfl,_,_,_,h1,h2⟩
theorem abj(h:bn B w L s l vs vb vl)(hbl:2<=l.aI.length)(hlb:l.aI.length<=900000)(p:Nat)(sp:St)(hst:l.ay[p]? =some sp)(hop:l.dM.kQ=p)(hsp:¬sp.op=4)(r:Nat)(sr:St)(hr:l.ay[r]? =some sr)(hr0:0<r)(ho:l.dM.other=r)(q a b c d dp t:Int):
 Calls prog 116 #[Pt L 0,.agg #[.int .u8 q,Im a,Im b,Im c,Im d,Im dp,Im t]] w fun e w'=>e=.returned (.tuple #[])/\
  ∃vs' bV dI,bn B w' L s (oP l r sr l.aI.dropLast l.dM) vs' bV dI/\bF L w vs vb vl w' vs' bV dI:=by
 have hne:l.aI≠[]:=fun e=>by rw[e]at hbl;simp at hbl
 obtain⟨g,cap,init,bb,hvb,hb,htop,nG,hBg,hgw,vU,zT,b0,b1,b2,b3,hf⟩:=h.inner hne;subst hvb;have hn:l.aI.length=init.length+1:=by rw[hb];simp
 rw[hn]at h⊢;have HI:Hid (∀o,Calls prog 168 #[Pt L 0] (w.alloc o) fun e w'=>e=.returned (Pt g (init.length * 4))/\∃k,w'=(w.alloc o).drewN k):=fun o=>
  xA L g init.length cap (w.alloc o) (h.alloc o).c3 (by omega)
 have HC:Hid (∀o o2 k k2,Calls prog 171 #[Pt L 0,.agg #[Im bb.kQ,Im bb.other,Im bb.need,Im bb.before]] ((((w.alloc o).drewN k).alloc o2).drewN k2) fun e w'=>e=.returned (.tuple #[])/\
  ∃bV,bn B w' L s (oP l r sr l.aI.dropLast l.dM) vs bV vl/\bF L w vs (.slice (some (Ad g 0)) (init.length+1) cap) vl w' vs bV vl):=fun o o2 k k2=>by
  have e1:l.aI.dropLast=init:=by rw[hb];simp
  have hin:init≠[]:=fun e=>by rw[e]at hn;simp at hn;omega
  rw[e1,htop];refine(abe ((((h.alloc o).drewN k).alloc o2).drewN k2) init bb hb hin hlb r sr hr hr0 (by rw[<-htop];exact ho)).mono ?_;rintro e w' ⟨h1,bV,h2,h3⟩;exact⟨h1,bV,h2,(bF.grow L w _ _ _ (World.grownBy_alloc w o none)).trans ((bF.grow L _ _ _ _ (dh _ k)).trans ((bF.grow L _ _ _ _ (World.grownBy_alloc _ o2 none)).trans (bF.trans (bF.grow L _ _ _ _ (dh _ k2)) h3)))⟩
 have c3:=h.c3;have hL:=h.lt;have n1:¬L=w.heap.size:=by omega
 have n2:¬g=w.heap.size:=by omega
 have n3:¬L=w.heap.size+1:=by omega
 have n4:¬g=w.heap.size+1:=by omega
 rw[htop]at hop;rw[hop]at b0 HC;obtain⟨gs,cs,hvs,hgs,uI,hgb,hgl,hps,hat,hfr⟩:=h.xM hst;subst hvs;have c2:=h.c2;have a0:=hat.1;have n5:¬gs=w.heap.size:=by omega
 have n6:¬gs=w.heap.size+1:=by omega
 have hone:(((init.length:Int)+1)==1)=false:=by simp;omega
 have i0:(0:Int)<=(p:Int):=by omega
 have i1:(p:Int)<(l.ay.length:Int):=by omega
 have hsp':(sp.op==4)=false:=by simpa using hsp
 clear h hf hne hb htop hn hbl hat hfr;generalize oP l r sr l.aI.dropLast l.dM=l2 at *;generalize init.length=n at *;go_enter func116,ntmps116;go_wp2_with fail;refine(HI.out _).mono ?_;rintro e w1 ⟨rfl,k,rfl⟩;go_wp2_with fail;refine fC 10 (by kernel_rfl) (by kernel_rfl) ?_;simp only[List.take_succ_cons,List.take_zero,List.drop_succ_cons,List.drop_zero];repeat (go_big_quiet_step (fail))
 refine wpQuiet_nil ?_;intro _ hw';obtain⟨k2,hw''⟩:=hw';subst hw'';go_wp2_with fail;refine(HC.out _ _ _ _).mono ?_;rintro e w2 ⟨rfl,bV,h1,h2⟩;go_wp2;go_end0;exact⟨rfl,_,_,_,h1,h2⟩
theorem abh(h:bn B w L s l vs vb vl)(hbl:2<=l.aI.length)(hlb:l.aI.length<=900000)(p:Nat)(sp:St)(hst:l.ay[p]? =some sp)(hop:l.dM.kQ=p)(hsp:¬sp.op=4)(ho:¬0<l.dM.other)(q a b c d dp t:Int):
 Calls prog 116 #[Pt L 0,.agg #[.int .u8 q,Im a,Im b,Im c,Im d,Im dp,Im t]] w fun e w'=>e=.returned (.tuple #[])/\
  ∃vs' bV dI,bn B w' L s (oP l p sp l.aI.dropLast l.dM) vs' bV dI/\bF L w vs vb vl w' vs' bV dI:=by
 have hne:l.aI≠[]:=fun e=>by rw[e]at hbl;simp at hbl
 obtain⟨g,cap,init,bb,hvb,hb,htop,nG,hBg,hgw,vU,zT,b0,b1,b2,b3,hf⟩:=h.inner hne;subst hvb;have hn:l.aI.length=init.length+1:=by rw[hb];simp
 rw[hn]at h⊢;have HI:Hid (∀o,Calls prog 168 #[Pt L 0] (w.alloc o) fun e w'=>e=.returned (Pt g (init.length * 4))/\∃k,w'=(w.alloc o).drewN k):=fun o=>
  xA L g init.length cap (w.alloc o) (h.alloc o).c3 (by omega)
 have HC:Hid (∀o o2 k k2,Calls prog 171 #[Pt L 0,.agg #[Im bb.kQ,Im bb.other,Im bb.need,Im bb.before]] ((((w.alloc o).drewN k).alloc o2).drewN k2) fun e w'=>e=.returned (.tuple #[])/\
  ∃bV,bn B w' L s (oP l p sp l.aI.dropLast l.dM) vs bV vl/\bF L w vs (.slice (some (Ad g 0)) (init.length+1) cap) vl w' vs bV vl):=fun o o2 k k2=>by
  have e1:l.aI.dropLast=init:=by rw[hb];simp
  have hin:init≠[]:=fun e=>by rw[e]at hn;simp at hn;omega
  rw[e1,htop];refine(abd ((((h.alloc o).drewN k).alloc o2).drewN k2) init bb hb hin hlb p sp hst (by rw[<-htop];exact ho) (by rw[<-htop];exact hop)).mono ?_;rintro e w' ⟨h1,bV,h2,h3⟩;exact⟨h1,bV,h2,(bF.grow L w _ _ _ (World.grownBy_alloc w o none)).trans ((bF.grow L _ _ _ _ (dh _ k)).trans ((bF.grow L _ _ _ _ (World.grownBy_alloc _ o2 none)).trans (bF.trans (bF.grow L _ _ _ _ (dh _ k2)) h3)))⟩
 have c3:=h.c3;have hL:=h.lt;have n1:¬L=w.heap.size:=by omega
 have n2:¬g=w.heap.size:=by omega
 have n3:¬L=w.heap.size+1:=by omega
 have n4:¬g=w.heap.size+1:=by omega
 rw[htop]at hop;rw[hop]at b0 HC;obtain⟨gs,cs,hvs,hgs,uI,hgb,hgl,hps,hat,hfr⟩:=h.xM hst;subst hvs;have c2:=h.c2;have a0:=hat.1;have n5:¬gs=w.heap.size:=by omega
 have n6:¬gs=w.heap.size+1:=by omega
 have hone:(((init.length:Int)+1)==1)=false:=by simp;omega
 have i0:(0:Int)<=(p:Int):=by omega
 have i1:(p:Int)<(l.ay.length:Int):=by omega
 have hsp':(sp.op==4)=false:=by simpa using hsp
 clear h hf hne hb htop hn hbl hat hfr;generalize oP l p sp l.aI.dropLast l.dM=l2 at *;generalize init.length=n at *;go_enter func116,ntmps116;go_wp2_with fail;refine(HI.out _).mono ?_;rintro e w1 ⟨rfl,k,rfl⟩;go_wp2_with fail;refine fC 10 (by kernel_rfl) (by kernel_rfl) ?_;simp only[List.take_succ_cons,List.take_zero,List.drop_succ_cons,List.drop_zero];repeat (go_big_quiet_step (fail))
 refine wpQuiet_nil ?_;intro _ hw';obtain⟨k2,hw''⟩:=hw';subst hw'';go_wp2_with fail;refine(HC.out _ _ _ _).mono ?_;rintro e w2 ⟨rfl,bV,h1,h2⟩;go_wp2;go_end0;exact⟨rfl,_,_,_,h1,h2⟩
theorem aaw(init:List Bk)(b:Bk)(j:Nat)(u:Value)(b':Bk)(hj:j<4)(h:(lV b).set j u=lV b'):((init++[b]).flatMap lV).set (init.length * 4+j) u=(init++[b']).flatMap lV:=by
 simp only[List.flatMap_append,List.flatMap_cons,List.flatMap_nil,List.append_nil];rw[List.set_append_right _ _ (by rw[Cm];omega),Cm,show init.length * 4+j-4 * init.length=j by omega,h]
theorem bn.Qd{g n cap:Nat}(h:bn B w L s l vs (.slice (some (Ad g 0)) n cap) vl){init:List Bk}{b:Bk}(hb:l.aI=init++[b])(hn:n=l.aI.length)(j:Nat)(u:Value)(b':Bk)(hj:j<4)(hu:(lV b).set j u=lV b'):
 bn B (w.setCell (Ad g (init.length * 4+j)) u) L s {l with aI:=init++[b']} vs (.slice (some (Ad g 0)) n cap) vl/\
 bF L w vs (.slice (some (Ad g 0)) n cap) vl (w.setCell (Ad g (init.length * 4+j)) u) vs (.slice (some (Ad g 0)) n cap) vl:=by
 have nG:¬g=L:=fun e=>h.nb (by rw[<-e];rfl);have hc:∀k,(w.setCell (Ad g (init.length * 4+j)) u).cell? (Ad L k)=w.cell? (Ad L k):=fun k=>World.cell?_setCell_other _ _ _ _ (by intro e;cases e;exact nG rfl);have hrow:=h.aI;subst hn;have hst:=hrow.stored (init.length * 4+j) u;rw[show(l.aI.flatMap lV).set (init.length * 4+j) u=(init++[b']).flatMap lV by rw[hb];exact aaw init b j u b' hj hu]at hst;have hlen:l.aI.length=(init++[b']).length:=by rw[hb];simp
 refine⟨⟨h.bL,by rw[hc];exact h.c0,by rw[hc];exact h.c1,by rw[hc];exact h.c2,by rw[hc];exact h.c3,by rw[hc];exact h.c4,by rw[hc];exact h.c5,by rw[hc];exact h.c6,by rw[hc];exact h.c7,fun j=>by rw[World.frozen?_setCell];exact h.fr j,
  h.ay.kept hst.2 (by rcases h.sb with e|e
                      .exact Or.inl e
                      .exact Or.inr e),?_,h.bH.kept hst.2 ?_,h.ns,h.nb,h.nl,h.sb,h.sl,h.bl⟩,?_⟩
 .have:=hst.1;rw[hlen]at this⊢;exact this
 .rcases h.bl with e|e
  .cases e
  .exact Or.inr (fun e'=>e e'.symm)
 .exact⟨rfl,rfl,rfl,by simp,fun k _ _ _ h2 _=>Below.heap_setCell _ _ _ _ (fun e=>h2 (by rw[e];rfl)),fun _ h=>Or.inl h,fun _ h=>Or.inl h,fun _ h=>Or.inl h⟩
theorem aa4(h:bn B w L s l vs vb vl)(hbl:l.aI.length=1)(q a b c d dp t:Int):
 Calls prog 115 #[Pt L 0,.agg #[.int .u8 q,Im a,Im b,Im c,Im d,Im dp,Im t]] w fun e w'=>e=.returned (.tuple #[])/\
  bn B w' L s {l with bad:=true} vs vb vl/\bF L w vs vb vl w' vs vb vl:=by
 have hne:l.aI≠[]:=fun e=>by rw[e]at hbl;simp at hbl
 obtain⟨g,cap,init,bb,hvb,hb,htop,nG,hBg,hgw,vU,zT,b0,b1,b2,b3,hf⟩:=h.inner hne;subst hvb;have hn:l.aI.length=init.length+1:=by rw[hb];simp
 rw[hn]at h⊢;have HI:Hid (∀o,Calls prog 168 #[Pt L 0] (w.alloc o) fun e w'=>e=.returned (Pt g (init.length * 4))/\∃k,w'=(w.alloc o).drewN k):=fun o=>
  xA L g init.length cap (w.alloc o) (h.alloc o).c3 (by omega)
 have HP:Hid (∀o k,bn B (((w.setCell (Ad L 7) (.bool true)).alloc o).drewN k) L s {l with bad:=true} vs (.slice (some (Ad g 0)) (init.length+1) cap) vl/\
  bF L w vs (.slice (some (Ad g 0)) (init.length+1) cap) vl (((w.setCell (Ad L 7) (.bool true)).alloc o).drewN k) vs (.slice (some (Ad g 0)) (init.length+1) cap) vl):=fun o k=>
  ⟨(h.Dx.alloc o).drewN k,(bF.own L w _ _ _ 7 (.bool true)).trans ((bF.grow L _ _ _ _ (World.grownBy_alloc _ o none)).trans (bF.grow L _ _ _ _ (dh _ k)))⟩
 have c3:=h.c3;have c7:=h.c7;have f7:=h.fr 7;have hL:=h.lt;have n1:¬L=w.heap.size:=by omega
 have n2:¬g=w.heap.size:=by omega
 have hone:(((init.length:Int)+1)==1)=true:=by simp;omega
 clear h hf hne hb htop hn hbl;generalize ({l with bad:=true}:Ls)=l2 at *;generalize init.length=n at *;go_enter func115,ntmps115;go_wp2_with fail;refine(HI.out _).mono ?_;rintro e w1 ⟨rfl,k,rfl⟩;go_wp2_with fail;refine xR 26 (by kernel_rfl) (by kernel_rfl) ?_;simp only[List.take_succ_cons,List.take_zero,List.drop_succ_cons,List.drop_zero];repeat (go_big_quiet_step (fail))
 refine wpQuiet_nil ?_;intro _ hw';obtain⟨k2,hw''⟩:=hw';subst hw'';go_wp2;exact bodyPost_ret (v:=.tuple #[]) (by simp[results,Tryz.results115,go_sem]) rfl ⟨rfl,HP.out _ _⟩
theorem aa5(h:bn B w L s l vs vb vl)(hbl:2<=l.aI.length)(hlb:l.aI.length<=900000)(ho:0<l.dM.other)(q a b c d dp t:Int):
 Calls prog 115 #[Pt L 0,.agg #[.int .u8 q,Im a,Im b,Im c,Im d,Im dp,Im t]] w fun e w'=>e=.returned (.tuple #[])/\
  bn B w' L s {l with bad:=true} vs vb vl/\bF L w vs vb vl w' vs vb vl:=by
 have hne:l.aI≠[]:=fun e=>by rw[e]at hbl;simp at hbl
 obtain⟨g,cap,init,bb,hvb,hb,htop,nG,hBg,hgw,vU,zT,b0,b1,b2,b3,hf⟩:=h.inner hne;subst hvb;have hn:l.aI.length=init.length+1:=by rw[hb];simp
 rw[hn]at h⊢;have HI:Hid (∀o,Calls prog 168 #[Pt L 0] (w.alloc o) fun e w'=>e=.returned (Pt g (init.length * 4))/\∃k,w'=(w.alloc o).drewN k):=fun o=>
  xA L g init.length cap (w.alloc o) (h.alloc o).c3 (by omega)
 have HP:Hid (∀o k,bn B (((w.setCell (Ad L 7) (.bool true)).alloc o).drewN k) L s {l with bad:=true} vs (.slice (some (Ad g 0)) (init.length+1) cap) vl/\
  bF L w vs (.slice (some (Ad g 0)) (init.length+1) cap) vl (((w.setCell (Ad L 7) (.bool true)).alloc o).drewN k) vs (.slice (some (Ad g 0)) (init.length+1) cap) vl):=fun o k=>
  ⟨(h.Dx.alloc o).drewN k,(bF.own L w _ _ _ 7 (.bool true)).trans ((bF.grow L _ _ _ _ (World.grownBy_alloc _ o none)).trans (bF.grow L _ _ _ _ (dh _ k)))⟩
 have c3:=h.c3;have c7:=h.c7;have f7:=h.fr 7;have hL:=h.lt;have n1:¬L=w.heap.size:=by omega
 have n2:¬g=w.heap.size:=by omega
 have hone:(((init.length:Int)+1)==1)=false:=by simp;omega
 rw[htop]at ho;have ho':decide (0<bb.other)=true:=by simpa using ho
 clear h hf hne hb htop hn hbl;generalize ({l with bad:=true}:Ls)=l2 at *;generalize init.length=n at *;go_enter func115,ntmps115;go_wp2_with fail;refine(HI.out _).mono ?_;rintro e w1 ⟨rfl,k,rfl⟩;go_wp2_with fail;refine xR 26 (by kernel_rfl) (by kernel_rfl) ?_;simp only[List.take_succ_cons,List.take_zero,List.drop_succ_cons,List.drop_zero];repeat (go_big_quiet_step (fail))
 refine wpQuiet_nil ?_;intro _ hw';obtain⟨k2,hw''⟩:=hw';subst hw'';go_wp2;exact bodyPost_ret (v:=.tuple #[]) (by simp[results,Tryz.results115,go_sem]) rfl ⟨rfl,HP.out _ _⟩
theorem aa6(h:bn B w L s l vs vb vl)(hbl:2<=l.aI.length)(hlb:l.aI.length<=900000)(ho:¬0<l.dM.other)(p:Nat)(sp:St)(hst:l.ay[p]? =some sp)(hop:l.dM.kQ=p)(hsp:¬sp.op=2)(q a b c d dp t:Int):
 Calls prog 115 #[Pt L 0,.agg #[.int .u8 q,Im a,Im b,Im c,Im d,Im dp,Im t]] w fun e w'=>e=.returned (.tuple #[])/\
  bn B w' L s {l with bad:=true} vs vb vl/\bF L w vs vb vl w' vs vb vl:=by
 have hne:l.aI≠[]:=fun e=>by rw[e]at hbl;simp at hbl
 obtain⟨g,cap,init,bb,hvb,hb,htop,nG,hBg,hgw,vU,zT,b0,b1,b2,b3,hf⟩:=h.inner hne;subst hvb;have hn:l.aI.length=init.length+1:=by rw[hb];simp
 rw[hn]at h⊢;have HI:Hid (∀o,Calls prog 168 #[Pt L 0] (w.alloc o) fun e w'=>e=.returned (Pt g (init.length * 4))/\∃k,w'=(w.alloc o).drewN k):=fun o=>
  xA L g init.length cap (w.alloc o) (h.alloc o).c3 (by omega)
 have HP:Hid (∀o k,bn B (((w.setCell (Ad L 7) (.bool true)).alloc o).drewN k) L s {l with bad:=true} vs (.slice (some (Ad g 0)) (init.length+1) cap) vl/\
  bF L w vs (.slice (some (Ad g 0)) (init.length+1) cap) vl (((w.setCell (Ad L 7) (.bool true)).alloc o).drewN k) vs (.slice (some (Ad g 0)) (init.length+1) cap) vl):=fun o k=>
  ⟨(h.Dx.alloc o).drewN k,(bF.own L w _ _ _ 7 (.bool true)).trans ((bF.grow L _ _ _ _ (World.grownBy_alloc _ o none)).trans (bF.grow L _ _ _ _ (dh _ k)))⟩
 have c3:=h.c3;have c7:=h.c7;have f7:=h.fr 7;have hL:=h.lt;have n1:¬L=w.heap.size:=by omega
 have n2:¬g=w.heap.size:=by omega
 obtain⟨gs,cs,hvs,hgs,uI,hgb,hgl,hps,hat,hfr⟩:=h.xM hst;subst hvs;have c2:=h.c2;have a0:=hat.1;have n5:¬gs=w.heap.size:=by omega
 rw[htop]at hop ho;rw[hop]at b0;have i0:(0:Int)<=(p:Int):=by omega
 have i1:(p:Int)<(l.ay.length:Int):=by omega
 have hone:(((init.length:Int)+1)==1)=false:=by simp;omega
 have ho':decide (0<bb.other)=false:=by simpa using ho
 have hsp':(sp.op==2)=false:=by simpa using hsp
 clear h hf hne hb htop hn hbl hat hfr;generalize ({l with bad:=true}:Ls)=l2 at *;generalize init.length=n at *;go_enter func115,ntmps115;go_wp2_with fail;refine(HI.out _).mono ?_;rintro e w1 ⟨rfl,k,rfl⟩;go_wp2_with fail;refine xR 26 (by kernel_rfl) (by kernel_rfl) ?_;simp only[List.take_succ_cons,List.take_zero,List.drop_succ_cons,List.drop_zero];repeat (go_big_quiet_step (fail))
 refine wpQuiet_nil ?_;intro _ hw';obtain⟨k2,hw''⟩:=hw';subst hw'';go_wp2;exact bodyPost_ret (v:=.tuple #[]) (by simp[results,Tryz.results115,go_sem]) rfl ⟨rfl,HP.out _ _⟩
end
end
end Go.Proofs.YthllhabjfchgiaaGreatDoor
