import Derived.Test.YthllhabjfchgiaaGreatDoorHk03
import Derived.Laws.BitsAllLaws
set_option maxRecDepth 100000
set_option maxHeartbeats 8000000
set_option linter.unusedSimpArgs false
namespace Go.Proofs.YthllhabjfchgiaaGreatDoor
open _root_.Go.Proofs.Tryz
section
open Go.RowKit
open Hx (St Bk Ls jJ)
attribute [local go_sem ↓] Go.wp_at_zero Go.wp_at_succ
attribute [local go_sem] kP
section
variable {B:Nat}{w:jk}{L:Nat}{s:ji}{l:Ls}{vs vb vl:jm}
theorem jS.ap3(h:jS B w L s l vs vb vl)(x:Int):jS B (w.setCell (Ad L 6) (Im x)) L s {l with jC:=x} vs vb vl:=by
 have hc:∀k,¬k=6->(w.setCell (Ad L 6) (Im x)).cell? (Ad L k)=w.cell? (Ad L k):=λk hk=>bG _ _ _ _ (by intro e;cases e;exact hk rfl);exact h.put 6 _ _ vs vb vl (by rw[hc 1 (by omega)];exact h.c1) (by rw[hc 2 (by omega)];exact h.c2) (by rw[hc 3 (by omega)];exact h.c3) (by rw[hc 4 (by omega)];exact h.c4) (by rw[hc 5 (by omega)];exact h.c5) (dB _ _ _ h.c6) (by rw[hc 7 (by omega)];exact h.c7) (by omega) h.jB h.jH h.jV h.ns h.nb h.nl h.sb h.sl h.bl
theorem jS.noBlocks(h:jS B w L s l vs vb vl):jS B (w.setCell (Ad L 3) (Nl)) L s {l with jH:=[]} vs (Nl) vl/\jT L w vs vb vl (w.setCell (Ad L 3) (Nl)) vs (Nl) vl:=by
 obtain⟨g1,g2,_,_⟩:=h.SV (w1:=w) ⟨rfl,rfl,rfl,aj _,λ_ _ _=>rfl⟩ (kL:=Nl) (blocks':=[]) ⟨rfl,jf ⟨rfl,rfl⟩⟩ (λg' hg'=>by cases hg');exact⟨g1,g2⟩
theorem akd(h:jS B w L s l vs vb vl)(hne:l.jH≠[])(hlb:l.jH.length<=900000)(hls:l.jB.length<=900000):
 Calls prog 169 #[Pt L 0] w λe w'=>e=.returned (.tuple #[])/\
  ∃vs' kL,jS B w' L s (Am l) vs' kL vl/\jT L w vs vb vl w' vs' kL vl:=by
 have HA:Hid (Calls prog 118 #[Pt L 0,.agg #[.int .u8 1,Im 0,Im 0,Im 0,Im 0,Im 0,Im 0]] w λe w'=>e=.returned (.tuple #[])/\
  ∃vs',jS B w' L s (mM l ⟨1,0,0,0,0,0,0⟩) vs' vb vl/\jT L w vs vb vl w' vs' vb vl):=IZ h hne (by omega) (by omega) 1 0 0 0 0 0 0
 have HB:Hid ((mM l ⟨1,0,0,0,0,0,0⟩).jH.length=l.jH.length):=Oh l _ hne;have hpos:0<l.jH.length:=List.length_pos_iff.2 hne;unfold Am;generalize mM l ⟨1,0,0,0,0,0,0⟩=l1 at *;generalize l.jH.length=nb at *;clear h hne;go_enter func169,ntmps169;go_wp2_with fail;refine(HA.out).mono ?_;rintro e w1 ⟨rfl,vs1,h1,m1⟩;obtain⟨g,cap,init,b,hvb,hb,htop,uT,hBg,hgw,hgs,hgl,b0,b1,b2,b3,hf⟩:=h1.inner (λe=>by have:=HB.out;rw[e]at this;simp at this;omega);subst hvb;have hn:l1.jH.length=init.length+1:=by rw[hb];simp
 have HI:Hid (Calls prog 168 #[Pt L 0] w1 λe w'=>e=.returned (Pt g (init.length * 4))/\∃k,w'=w1.drewN k):=
  BX L g init.length cap w1 (by rw[h1.c3,hn]) (by have:=HB.out;omega)
 have HP:Hid (∀k,jS B (((w1.setCell (Ad L 6) (Im b.jC)).setCell (Ad L 3) (Nl)).drewN k) L s {l1 with jC:=l1.top.jC,jH:=[]} vs1 (Nl) vl/\
  jT L w vs (.slice (some (Ad g 0)) l1.jH.length cap) vl (((w1.setCell (Ad L 6) (Im b.jC)).setCell (Ad L 3) (Nl)).drewN k) vs1 (Nl) vl):=λk=>by
  obtain⟨h2,m2⟩:=(h1.ap3 b.jC).noBlocks;rw[htop];exact⟨h2.drewN k,m1.trans ((jT.own _ _ _ _ _ _ _).trans (m2.trans (jT.grow L _ _ _ _ (lK _ k))))⟩
 have c3:=h1.c3;have c6:=h1.c6;have f3:=h1.fr 3;have f6:=h1.fr 6;have abM:¬L=g:=λe=>uT e.symm;clear h1 m1 hb htop b0 b1 b3 hf;generalize init.length * 4=p at *;go_wp2_with fail;refine(HI.out).mono ?_;rintro e w2 ⟨rfl,k,rfl⟩;go_wp2;go_end0;exact⟨rfl,_,_,HP.out _⟩
theorem aki(h:jS B w L s l vs vb vl)(hbl:2<=l.jH.length)(hlb:l.jH.length<=900000)(hls:l.jB.length<=900000)(yD:List Int)(x:Int)(hx:l.jV=yD++[x])(hll:l.jV.length<=900000)
 (p:Nat)(sp:St)(hst:l.jB[p]? =some sp)(q a b c d dp t:Int):
 Calls prog 170 #[Pt L 0,.agg #[.int .u8 q,Im a,Im b,Im c,Im d,Im dp,Im t],Im p] w λe w'=>e=.returned (.tuple #[])/\
  ∃vs' kL lC,jS B w' L s (Ap l ⟨q,a,b,c,d,dp,t⟩ p sp) vs' kL lC/\jT L w vs vb vl w' vs' kL lC:=by
 have hne:l.jH≠[]:=λe=>by rw[e]at hbl;simp at hbl
 have hlt:p<l.jB.length:=by
  rcases dG p l.jB.length with h'|h'
  .exact h'
  .rw[bV h']at hst;cases hst
 have HA:Hid (∀o,Calls prog 118 #[Pt L 0,.agg #[.int .u8 q,Im a,Im b,Im c,Im d,Im dp,Im p]] (w.alloc o) λe w'=>e=.returned (.tuple #[])/\
  ∃vs',jS B w' L s (mM l ⟨q,a,b,c,d,dp,p⟩) vs' vb vl/\jT L w vs vb vl w' vs' vb vl):=λo=>by
  refine(IZ (h.alloc o) hne (by omega) (by omega) q a b c d dp p).mono ?_;rintro e w' ⟨h1,vs',h2,h3⟩;exact⟨h1,vs',h2,(jT.grow L w _ _ _ (ah w o none)).trans h3⟩
 have HB:Hid ((mM l ⟨q,a,b,c,d,dp,p⟩).jH.length=l.jH.length):=Oh l _ hne;have HS:Hid ((mM l ⟨q,a,b,c,d,dp,p⟩).jB[p]? =some sp):=by
  show _=_;rw[La,aT hlt];exact hst
 have HL:Hid ((mM l ⟨q,a,b,c,d,dp,p⟩).jV=yD++[x]):=hx;have HN:Hid ((mM l ⟨q,a,b,c,d,dp,p⟩).jB.length=l.jB.length+1):=by
  show _=_;rw[La];simp
 have HE:Hid (Ap l ⟨q,a,b,c,d,dp,t⟩ p sp=FD (mM l ⟨q,a,b,c,d,dp,p⟩) p sp):=rfl;rw[HE.out];have auI:yD.length<=900000:=by rw[hx]at hll;simp at hll;omega
 clear HE;generalize mM l ⟨q,a,b,c,d,dp,p⟩=l1 at *;have hL:=h.lt;have n1:¬L=w.heap.size:=by omega
 generalize l.jH.length=nb at *;generalize l.jB.length=ns at *;clear h hne hx hst hll;go_enter func170,ntmps170;go_wp2_with fail;refine(HA.out _).mono ?_;rintro e w1 ⟨rfl,vs1,h1,m1⟩;obtain⟨gs,cs,rfl,hgs,zN,hgb,hgl,hps,hat,hfr⟩:=h1.CG HS.out;obtain⟨g,cap,init,bb,hvb,hb,htop,uT,hBg,hgw,AA,Eo,b0,b1,b2,b3,hf⟩:=h1.inner (λe=>by have:=HB.out;rw[e]at this;simp at this;omega);obtain⟨gl,Jb,hvl,auG,cgl⟩:=h1.acZ HL.out;subst hvb;subst hvl;have hn:l1.jH.length=init.length+1:=by rw[hb];simp
 have hin:init.length<=900000:=by have:=HB.out;omega
 have hin0:init≠[]:=λe=>by have:=HB.out;rw[hn,e]at this;simp at this;omega
 have hns:l1.jB.length<=900001:=by have:=HN.out;omega
 rw[hn]at h1 m1 hgb;have HI:Hid (Calls prog 168 #[Pt L 0] w1 λe w'=>e=.returned (Pt g (init.length * 4))/\∃k,w'=w1.drewN k):=
  BX L g init.length cap w1 h1.c3 (by omega)
 have HP:Hid (∀k z,z=wrap64 (Hx.kR sp.a * bb.jC)->Calls prog 172 #[Pt L 0,Im z] ((((w1.setCell (Ad L 3) (.slice (some (Ad g 0)) init.length cap)).setCell (Ad L 4) (.slice (some (Ad gl 0)) yD.length Jb)).setCell (Ad gs (p * 7+6)) (Im l1.jB.length)).drewN k) λe w'=>e=.returned (.tuple #[])/\
  jS B w' L s (FD l1 p sp) (.slice (some (Ad gs 0)) l1.jB.length cs) (.slice (some (Ad g 0)) init.length cap) (.slice (some (Ad gl 0)) yD.length Jb)/\
  jT L w vs (.slice (some (Ad g 0)) (init.length+1) cap) (.slice (some (Ad gl 0)) (yD.length+1) Jb) w' (.slice (some (Ad gs 0)) l1.jB.length cs) (.slice (some (Ad g 0)) init.length cap) (.slice (some (Ad gl 0)) yD.length Jb)):=λk z hz=>by
  subst hz;obtain⟨h2,m2⟩:=h1.VR (init:=init) (b:=bb) hb;obtain⟨h3,m3⟩:=h2.apB (init:=yD) (x:=x) HL.out;obtain⟨h4,m4⟩:=h3.QG HS.out (l1.jB.length:Int);have h5:=h4.drewN k;refine(OD h5 hin0 (by show init.length<=_;omega) _).mono ?_;rintro e w' ⟨h6,h7,h8⟩;refine⟨h6,?_,m1.trans (m2.trans (m3.trans (m4.trans (jT.trans (jT.grow L _ _ _ _ (lK _ k)) h8))))⟩;have e1:l1.jH.dropLast=init:=by rw[hb];simp
  have e2:l1.jV.dropLast=yD:=by rw[HL.out];simp
  unfold FD;rw[e1,e2,htop];exact h7
 have hcap:init.length<=cap:=by
  have h9:=h1.jH;rw[hn]at h9;have:=Qv h9;omega
 have auB:yD.length<=Jb:=by
  have h9:=h1.jV;rw[HL.out]at h9;simp only[aA,eG]at h9;have:=Qv h9;omega
 have c2:=h1.c2;have c3:=h1.c3;have c4:=h1.c4;have f3:=h1.fr 3;have f4:=h1.fr 4;have f6:=hfr (p * 7+6);have a1:=hat.2.1;have a6:=hat.2.2.2.2.2.2;have abP:¬L=gs:=λe=>zN e.symm;have abM:¬L=g:=λe=>uT e.symm;have HQ:Hid (l1.jH.length=init.length+1):=hn;clear h1 m1 hb htop b0 b1 b3 hf hfr hat hn hin0 HA HB HS HL HN;generalize hm:l1.jB.length=m at *;generalize hj:yD.length=j at *;generalize init.length=n at *;have HJ:Hid (yD.length=j):=hj;clear hm hj;have i0:(0:Int)<=(p:Int):=by omega
 have i1:(p:Int)<(m:Int):=by omega
 have i2:(0:Int)<=(n:Int):=by omega
 have i3:(n:Int)<=(cap:Int):=by omega
 have i4:(0:Int)<=(j:Int):=by omega
 have i5:(j:Int)<=(Jb:Int):=by omega
 go_wp2_with fail;refine(HI.out).mono ?_;rintro e w2 ⟨rfl,k,rfl⟩;go_wp2_with fail;refine CO 14 (by kernel_rfl) (by kernel_rfl) ?_;simp only[aC,aO,aG,aQ];repeat (go_big_quiet_step (fail))
 refine bF ?_;intro _ hw';obtain⟨k2,hw''⟩:=hw';subst hw'';go_wp2_with fail;refine CO 14 (by kernel_rfl) (by kernel_rfl) ?_;simp only[aC,aO,aG,aQ];repeat (go_big_quiet_step (fail))
 refine bF ?_;intro _ hw';obtain⟨k3,hw''⟩:=hw';subst hw'';go_wp2_with fail;refine CO 12 (by kernel_rfl) (by kernel_rfl) ?_;simp only[aC,aO,aG,aQ];repeat (go_big_quiet_step (fail))
 refine bF ?_;intro _ hw';obtain⟨k4,hw''⟩:=hw';subst hw'';go_wp2_with fail;refine(amQ _ _).mono ?_;rintro e w3 ⟨rfl,rfl⟩;go_wp2_with fail;refine(HP.out _ _ rfl).mono ?_;rintro e w4 ⟨rfl,h1,h2⟩;go_wp2;go_end0;rw[HQ.out,HJ.out];exact⟨rfl,_,_,_,h1,h2⟩
theorem akk(h:jS B w L s l vs vb vl)(hbl:l.jH.length=1)(hls:l.jB.length<=900000)(q a b c d dp t:Int):
 Calls prog 116 #[Pt L 0,.agg #[.int .u8 q,Im a,Im b,Im c,Im d,Im dp,Im t]] w λe w'=>e=.returned (.tuple #[])/\
  ∃vs' kL lC,jS B w' L s (Am l) vs' kL lC/\jT L w vs vb vl w' vs' kL lC:=by
 have hne:l.jH≠[]:=λe=>by rw[e]at hbl;simp at hbl
 obtain⟨g,cap,init,bb,hvb,hb,htop,uT,hBg,hgw,AA,Eo,b0,b1,b2,b3,hf⟩:=h.inner hne;subst hvb;have hn:l.jH.length=init.length+1:=by rw[hb];simp
 rw[hn]at h⊢;have HI:Hid (∀o,Calls prog 168 #[Pt L 0] (w.alloc o) λe w'=>e=.returned (Pt g (init.length * 4))/\∃k,w'=(w.alloc o).drewN k):=λo=>
  BX L g init.length cap (w.alloc o) (h.alloc o).c3 (by omega)
 have HC:Hid (∀o o2 k,Calls prog 169 #[Pt L 0] (((w.alloc o).drewN k).alloc o2) λe w'=>e=.returned (.tuple #[])/\
  ∃vs' kL,jS B w' L s (Am l) vs' kL vl/\jT L w vs (.slice (some (Ad g 0)) (init.length+1) cap) vl w' vs' kL vl):=λo o2 k=>by
  refine(akd (((h.alloc o).drewN k).alloc o2) hne (by omega) hls).mono ?_;rintro e w' ⟨h1,vs',kL,h2,h3⟩;exact⟨h1,vs',kL,h2,(jT.grow L w _ _ _ (ah w o none)).trans ((jT.grow L _ _ _ _ (lK _ k)).trans (jT.trans (jT.grow L _ _ _ _ (ah _ o2 none)) h3))⟩
 have c3:=h.c3;have hL:=h.lt;have n1:¬L=w.heap.size:=by omega
 have n2:¬g=w.heap.size:=by omega
 have n3:¬L=w.heap.size+1:=by omega
 have n4:¬g=w.heap.size+1:=by omega
 have hone:(((init.length:Int)+1)==1)=true:=by simp;omega
 clear h hf hne hb htop hn hbl;generalize Am l=l2 at *;generalize init.length=n at *;go_enter func116,ntmps116;go_wp2_with fail;refine(HI.out _).mono ?_;rintro e w1 ⟨rfl,k,rfl⟩;go_wp2_with fail;refine(HC.out _ _ _).mono ?_;rintro e w2 ⟨rfl,vs',kL,h1,h2⟩;go_wp2;go_end0;exact⟨rfl,_,_,_,h1,h2⟩
theorem akn(h:jS B w L s l vs vb vl)(hbl:2<=l.jH.length)(hlb:l.jH.length<=900000)(p:Nat)(sp:St)(hst:l.jB[p]? =some sp)(hop:l.top.opener=p)(hsp:sp.op=4)(yD:List Int)(x:Int)(hx:l.jV=yD++[x])(hll:l.jV.length<=900000)(hls:l.jB.length<=900000)(q a b c d dp t:Int):
 Calls prog 116 #[Pt L 0,.agg #[.int .u8 q,Im a,Im b,Im c,Im d,Im dp,Im t]] w λe w'=>e=.returned (.tuple #[])/\
  ∃vs' kL lC,jS B w' L s (Ap l ⟨q,a,b,c,d,dp,t⟩ p sp) vs' kL lC/\jT L w vs vb vl w' vs' kL lC:=by
 have hne:l.jH≠[]:=λe=>by rw[e]at hbl;simp at hbl
 obtain⟨g,cap,init,bb,hvb,hb,htop,uT,hBg,hgw,AA,Eo,b0,b1,b2,b3,hf⟩:=h.inner hne;subst hvb;have hn:l.jH.length=init.length+1:=by rw[hb];simp
 rw[hn]at h⊢;have HI:Hid (∀o,Calls prog 168 #[Pt L 0] (w.alloc o) λe w'=>e=.returned (Pt g (init.length * 4))/\∃k,w'=(w.alloc o).drewN k):=λo=>
  BX L g init.length cap (w.alloc o) (h.alloc o).c3 (by omega)
 have alm:l.jH.length<=900000:=hlb;have HC:Hid (∀o o2 k k2,Calls prog 170 #[Pt L 0,.agg #[.int .u8 q,Im a,Im b,Im c,Im d,Im dp,Im t],Im p] ((((w.alloc o).drewN k).alloc o2).drewN k2) λe w'=>e=.returned (.tuple #[])/\
  ∃vs' kL lC,jS B w' L s (Ap l ⟨q,a,b,c,d,dp,t⟩ p sp) vs' kL lC/\jT L w vs (.slice (some (Ad g 0)) (init.length+1) cap) vl w' vs' kL lC):=λo o2 k k2=>by
  refine(aki ((((h.alloc o).drewN k).alloc o2).drewN k2) hbl hlb hls yD x hx hll p sp hst q a b c d dp t).mono ?_;rintro e w' ⟨h1,vs',kL,lC,h2,h3⟩;exact⟨h1,vs',kL,lC,h2,(jT.grow L w _ _ _ (ah w o none)).trans ((jT.grow L _ _ _ _ (lK _ k)).trans ((jT.grow L _ _ _ _ (ah _ o2 none)).trans (jT.trans (jT.grow L _ _ _ _ (lK _ k2)) h3)))⟩
 have c3:=h.c3;have hL:=h.lt;have n1:¬L=w.heap.size:=by omega
 have n2:¬g=w.heap.size:=by omega
 have n3:¬L=w.heap.size+1:=by omega
 have n4:¬g=w.heap.size+1:=by omega
 rw[htop]at hop;rw[hop]at b0;obtain⟨gs,cs,hvs,hgs,zN,hgb,hgl,hps,hat,hfr⟩:=h.CG hst;subst hvs;have c2:=h.c2;have a0:=hat.1;have n5:¬gs=w.heap.size:=by omega
 have n6:¬gs=w.heap.size+1:=by omega
 have hone:(((init.length:Int)+1)==1)=false:=by simp;omega
 have i0:(0:Int)<=(p:Int):=by omega
 have i1:(p:Int)<(l.jB.length:Int):=by omega
 rw[hsp]at a0;have hl0:=alm;clear h hf hne hb htop hn hbl hat hfr;generalize Ap l ⟨q,a,b,c,d,dp,t⟩ p sp=l2 at *;generalize init.length=n at *;go_enter func116,ntmps116;go_wp2_with fail;refine(HI.out _).mono ?_;rintro e w1 ⟨rfl,k,rfl⟩;go_wp2_with fail;refine nP 10 (by kernel_rfl) (by kernel_rfl) ?_;simp only[aC,aO,aG,aQ];repeat (go_big_quiet_step (fail))
 refine bF ?_;intro _ hw';obtain⟨k2,hw''⟩:=hw';subst hw'';go_wp2_with fail;refine(HC.out _ _ _ _).mono ?_;rintro e w2 ⟨rfl,vs',kL,lC,h1,h2⟩;go_wp2;go_end0;exact⟨rfl,_,_,_,h1,h2⟩
theorem akm(h:jS B w L s l vs vb vl)(hbl:2<=l.jH.length)(hlb:l.jH.length<=900000)(p:Nat)(sp:St)(hst:l.jB[p]? =some sp)(hop:l.top.opener=p)(hsp:¬sp.op=4)(r:Nat)(sr:St)(hr:l.jB[r]? =some sr)(hr0:0<r)(ho:l.top.other=r)(q a b c d dp t:Int):
 Calls prog 116 #[Pt L 0,.agg #[.int .u8 q,Im a,Im b,Im c,Im d,Im dp,Im t]] w λe w'=>e=.returned (.tuple #[])/\
  ∃vs' kL lC,jS B w' L s (tX l r sr l.jH.dropLast l.top) vs' kL lC/\jT L w vs vb vl w' vs' kL lC:=by
 have hne:l.jH≠[]:=λe=>by rw[e]at hbl;simp at hbl
 obtain⟨g,cap,init,bb,hvb,hb,htop,uT,hBg,hgw,AA,Eo,b0,b1,b2,b3,hf⟩:=h.inner hne;subst hvb;have hn:l.jH.length=init.length+1:=by rw[hb];simp
 rw[hn]at h⊢;have HI:Hid (∀o,Calls prog 168 #[Pt L 0] (w.alloc o) λe w'=>e=.returned (Pt g (init.length * 4))/\∃k,w'=(w.alloc o).drewN k):=λo=>
  BX L g init.length cap (w.alloc o) (h.alloc o).c3 (by omega)
 have HC:Hid (∀o o2 k k2,Calls prog 171 #[Pt L 0,.agg #[Im bb.opener,Im bb.other,Im bb.jC,Im bb.before]] ((((w.alloc o).drewN k).alloc o2).drewN k2) λe w'=>e=.returned (.tuple #[])/\
  ∃kL,jS B w' L s (tX l r sr l.jH.dropLast l.top) vs kL vl/\jT L w vs (.slice (some (Ad g 0)) (init.length+1) cap) vl w' vs kL vl):=λo o2 k k2=>by
  have e1:l.jH.dropLast=init:=by rw[hb];simp
  have hin:init≠[]:=λe=>by rw[e]at hn;simp at hn;omega
  rw[e1,htop];refine(akh ((((h.alloc o).drewN k).alloc o2).drewN k2) init bb hb hin hlb r sr hr hr0 (by rw[<-htop];exact ho)).mono ?_;rintro e w' ⟨h1,kL,h2,h3⟩;exact⟨h1,kL,h2,(jT.grow L w _ _ _ (ah w o none)).trans ((jT.grow L _ _ _ _ (lK _ k)).trans ((jT.grow L _ _ _ _ (ah _ o2 none)).trans (jT.trans (jT.grow L _ _ _ _ (lK _ k2)) h3)))⟩
 have c3:=h.c3;have hL:=h.lt;have n1:¬L=w.heap.size:=by omega
 have n2:¬g=w.heap.size:=by omega
 have n3:¬L=w.heap.size+1:=by omega
 have n4:¬g=w.heap.size+1:=by omega
 rw[htop]at hop;rw[hop]at b0 HC;obtain⟨gs,cs,hvs,hgs,zN,hgb,hgl,hps,hat,hfr⟩:=h.CG hst;subst hvs;have c2:=h.c2;have a0:=hat.1;have n5:¬gs=w.heap.size:=by omega
 have n6:¬gs=w.heap.size+1:=by omega
 have hone:(((init.length:Int)+1)==1)=false:=by simp;omega
 have i0:(0:Int)<=(p:Int):=by omega
 have i1:(p:Int)<(l.jB.length:Int):=by omega
 have hsp':(sp.op==4)=false:=by simpa using hsp
 clear h hf hne hb htop hn hbl hat hfr;generalize tX l r sr l.jH.dropLast l.top=l2 at *;generalize init.length=n at *;go_enter func116,ntmps116;go_wp2_with fail;refine(HI.out _).mono ?_;rintro e w1 ⟨rfl,k,rfl⟩;go_wp2_with fail;refine nP 10 (by kernel_rfl) (by kernel_rfl) ?_;simp only[aC,aO,aG,aQ];repeat (go_big_quiet_step (fail))
 refine bF ?_;intro _ hw';obtain⟨k2,hw''⟩:=hw';subst hw'';go_wp2_with fail;refine(HC.out _ _ _ _).mono ?_;rintro e w2 ⟨rfl,kL,h1,h2⟩;go_wp2;go_end0;exact⟨rfl,_,_,_,h1,h2⟩
theorem akl(h:jS B w L s l vs vb vl)(hbl:2<=l.jH.length)(hlb:l.jH.length<=900000)(p:Nat)(sp:St)(hst:l.jB[p]? =some sp)(hop:l.top.opener=p)(hsp:¬sp.op=4)(ho:¬0<l.top.other)(q a b c d dp t:Int):
 Calls prog 116 #[Pt L 0,.agg #[.int .u8 q,Im a,Im b,Im c,Im d,Im dp,Im t]] w λe w'=>e=.returned (.tuple #[])/\
  ∃vs' kL lC,jS B w' L s (tX l p sp l.jH.dropLast l.top) vs' kL lC/\jT L w vs vb vl w' vs' kL lC:=by
 have hne:l.jH≠[]:=λe=>by rw[e]at hbl;simp at hbl
 obtain⟨g,cap,init,bb,hvb,hb,htop,uT,hBg,hgw,AA,Eo,b0,b1,b2,b3,hf⟩:=h.inner hne;subst hvb;have hn:l.jH.length=init.length+1:=by rw[hb];simp
 rw[hn]at h⊢;have HI:Hid (∀o,Calls prog 168 #[Pt L 0] (w.alloc o) λe w'=>e=.returned (Pt g (init.length * 4))/\∃k,w'=(w.alloc o).drewN k):=λo=>
  BX L g init.length cap (w.alloc o) (h.alloc o).c3 (by omega)
 have HC:Hid (∀o o2 k k2,Calls prog 171 #[Pt L 0,.agg #[Im bb.opener,Im bb.other,Im bb.jC,Im bb.before]] ((((w.alloc o).drewN k).alloc o2).drewN k2) λe w'=>e=.returned (.tuple #[])/\
  ∃kL,jS B w' L s (tX l p sp l.jH.dropLast l.top) vs kL vl/\jT L w vs (.slice (some (Ad g 0)) (init.length+1) cap) vl w' vs kL vl):=λo o2 k k2=>by
  have e1:l.jH.dropLast=init:=by rw[hb];simp
  have hin:init≠[]:=λe=>by rw[e]at hn;simp at hn;omega
  rw[e1,htop];refine(akg ((((h.alloc o).drewN k).alloc o2).drewN k2) init bb hb hin hlb p sp hst (by rw[<-htop];exact ho) (by rw[<-htop];exact hop)).mono ?_;rintro e w' ⟨h1,kL,h2,h3⟩;exact⟨h1,kL,h2,(jT.grow L w _ _ _ (ah w o none)).trans ((jT.grow L _ _ _ _ (lK _ k)).trans ((jT.grow L _ _ _ _ (ah _ o2 none)).trans (jT.trans (jT.grow L _ _ _ _ (lK _ k2)) h3)))⟩
 have c3:=h.c3;have hL:=h.lt;have n1:¬L=w.heap.size:=by omega
 have n2:¬g=w.heap.size:=by omega
 have n3:¬L=w.heap.size+1:=by omega
 have n4:¬g=w.heap.size+1:=by omega
 rw[htop]at hop;rw[hop]at b0 HC;obtain⟨gs,cs,hvs,hgs,zN,hgb,hgl,hps,hat,hfr⟩:=h.CG hst;subst hvs;have c2:=h.c2;have a0:=hat.1;have n5:¬gs=w.heap.size:=by omega
 have n6:¬gs=w.heap.size+1:=by omega
 have hone:(((init.length:Int)+1)==1)=false:=by simp;omega
 have i0:(0:Int)<=(p:Int):=by omega
 have i1:(p:Int)<(l.jB.length:Int):=by omega
 have hsp':(sp.op==4)=false:=by simpa using hsp
 clear h hf hne hb htop hn hbl hat hfr;generalize tX l p sp l.jH.dropLast l.top=l2 at *;generalize init.length=n at *;go_enter func116,ntmps116;go_wp2_with fail;refine(HI.out _).mono ?_;rintro e w1 ⟨rfl,k,rfl⟩;go_wp2_with fail;refine nP 10 (by kernel_rfl) (by kernel_rfl) ?_;simp only[aC,aO,aG,aQ];repeat (go_big_quiet_step (fail))
 refine bF ?_;intro _ hw';obtain⟨k2,hw''⟩:=hw';subst hw'';go_wp2_with fail;refine(HC.out _ _ _ _).mono ?_;rintro e w2 ⟨rfl,kL,h1,h2⟩;go_wp2;go_end0;exact⟨rfl,_,_,_,h1,h2⟩
theorem ajj(init:List Bk)(b:Bk)(j:Nat)(u:jm)(b':Bk)(hj:j<4)(h:(rQ b).set j u=rQ b'):((init++[b]).flatMap rQ).set (init.length * 4+j) u=(init++[b']).flatMap rQ:=by
 simp only[gu,c8,dJ,aX];rw[iw _ _ (by rw[GN];omega),GN,show init.length * 4+j-4 * init.length=j by omega,h]
theorem jS.VW{g n cap:Nat}(h:jS B w L s l vs (.slice (some (Ad g 0)) n cap) vl){init:List Bk}{b:Bk}(hb:l.jH=init++[b])(hn:n=l.jH.length)(j:Nat)(u:jm)(b':Bk)(hj:j<4)(hu:(rQ b).set j u=rQ b'):
 jS B (w.setCell (Ad g (init.length * 4+j)) u) L s {l with jH:=init++[b']} vs (.slice (some (Ad g 0)) n cap) vl/\
 jT L w vs (.slice (some (Ad g 0)) n cap) vl (w.setCell (Ad g (init.length * 4+j)) u) vs (.slice (some (Ad g 0)) n cap) vl:=by
 have uT:¬g=L:=λe=>h.nb (by rw[<-e];rfl);have hc:∀k,(w.setCell (Ad g (init.length * 4+j)) u).cell? (Ad L k)=w.cell? (Ad L k):=λk=>bG _ _ _ _ (by intro e;cases e;exact uT rfl);have hrow:=h.jH;subst hn;have hst:=hrow.stored (init.length * 4+j) u;rw[show(l.jH.flatMap rQ).set (init.length * 4+j) u=(init++[b']).flatMap rQ by rw[hb];exact ajj init b j u b' hj hu]at hst;have hlen:l.jH.length=(init++[b']).length:=by rw[hb];simp
 refine⟨⟨h.bL,by rw[hc];exact h.c0,by rw[hc];exact h.c1,by rw[hc];exact h.c2,by rw[hc];exact h.c3,by rw[hc];exact h.c4,by rw[hc];exact h.c5,by rw[hc];exact h.c6,by rw[hc];exact h.c7,λj=>by rw[dX];exact h.fr j,
  h.jB.kept hst.2 (by rcases h.sb with e|e
                      .exact jf e
                      .exact je e),?_,h.jV.kept hst.2 ?_,h.ns,h.nb,h.nl,h.sb,h.sl,h.bl⟩,?_⟩
 .have:=hst.1;rw[hlen]at this⊢;exact this
 .rcases h.bl with e|e
  .cases e
  .exact je (λe'=>e e'.symm)
 .exact⟨rfl,rfl,rfl,by simp,λk _ _ _ h2 _=>bC _ _ _ _ (λe=>h2 (by rw[e];rfl)),λ_ h=>jf h,λ_ h=>jf h,λ_ h=>jf h⟩
theorem ajZ(h:jS B w L s l vs vb vl)(hbl:l.jH.length=1)(q a b c d dp t:Int):
 Calls prog 115 #[Pt L 0,.agg #[.int .u8 q,Im a,Im b,Im c,Im d,Im dp,Im t]] w λe w'=>e=.returned (.tuple #[])/\
  jS B w' L s {l with bad:=true} vs vb vl/\jT L w vs vb vl w' vs vb vl:=by
 have hne:l.jH≠[]:=λe=>by rw[e]at hbl;simp at hbl
 obtain⟨g,cap,init,bb,hvb,hb,htop,uT,hBg,hgw,AA,Eo,b0,b1,b2,b3,hf⟩:=h.inner hne;subst hvb;have hn:l.jH.length=init.length+1:=by rw[hb];simp
 rw[hn]at h⊢;have HI:Hid (∀o,Calls prog 168 #[Pt L 0] (w.alloc o) λe w'=>e=.returned (Pt g (init.length * 4))/\∃k,w'=(w.alloc o).drewN k):=λo=>
  BX L g init.length cap (w.alloc o) (h.alloc o).c3 (by omega)
 have HP:Hid (∀o k,jS B (((w.setCell (Ad L 7) (.bool true)).alloc o).drewN k) L s {l with bad:=true} vs (.slice (some (Ad g 0)) (init.length+1) cap) vl/\
  jT L w vs (.slice (some (Ad g 0)) (init.length+1) cap) vl (((w.setCell (Ad L 7) (.bool true)).alloc o).drewN k) vs (.slice (some (Ad g 0)) (init.length+1) cap) vl):=λo k=>
  ⟨(h.Ig.alloc o).drewN k,(jT.own L w _ _ _ 7 (.bool true)).trans ((jT.grow L _ _ _ _ (ah _ o none)).trans (jT.grow L _ _ _ _ (lK _ k)))⟩
 have c3:=h.c3;have c7:=h.c7;have f7:=h.fr 7;have hL:=h.lt;have n1:¬L=w.heap.size:=by omega
 have n2:¬g=w.heap.size:=by omega
 have hone:(((init.length:Int)+1)==1)=true:=by simp;omega
 clear h hf hne hb htop hn hbl;generalize ({l with bad:=true}:Ls)=l2 at *;generalize init.length=n at *;go_enter func115,ntmps115;go_wp2_with fail;refine(HI.out _).mono ?_;rintro e w1 ⟨rfl,k,rfl⟩;go_wp2_with fail;refine CO 26 (by kernel_rfl) (by kernel_rfl) ?_;simp only[aC,aO,aG,aQ];repeat (go_big_quiet_step (fail))
 refine bF ?_;intro _ hw';obtain⟨k2,hw''⟩:=hw';subst hw'';go_wp2;exact cu (v:=.tuple #[]) (by simp[results,Tryz.results115,go_sem]) rfl ⟨rfl,HP.out _ _⟩
theorem aj0(h:jS B w L s l vs vb vl)(hbl:2<=l.jH.length)(hlb:l.jH.length<=900000)(ho:0<l.top.other)(q a b c d dp t:Int):
 Calls prog 115 #[Pt L 0,.agg #[.int .u8 q,Im a,Im b,Im c,Im d,Im dp,Im t]] w λe w'=>e=.returned (.tuple #[])/\
  jS B w' L s {l with bad:=true} vs vb vl/\jT L w vs vb vl w' vs vb vl:=by
 have hne:l.jH≠[]:=λe=>by rw[e]at hbl;simp at hbl
 obtain⟨g,cap,init,bb,hvb,hb,htop,uT,hBg,hgw,AA,Eo,b0,b1,b2,b3,hf⟩:=h.inner hne;subst hvb;have hn:l.jH.length=init.length+1:=by rw[hb];simp
 rw[hn]at h⊢;have HI:Hid (∀o,Calls prog 168 #[Pt L 0] (w.alloc o) λe w'=>e=.returned (Pt g (init.length * 4))/\∃k,w'=(w.alloc o).drewN k):=λo=>
  BX L g init.length cap (w.alloc o) (h.alloc o).c3 (by omega)
 have HP:Hid (∀o k,jS B (((w.setCell (Ad L 7) (.bool true)).alloc o).drewN k) L s {l with bad:=true} vs (.slice (some (Ad g 0)) (init.length+1) cap) vl/\
  jT L w vs (.slice (some (Ad g 0)) (init.length+1) cap) vl (((w.setCell (Ad L 7) (.bool true)).alloc o).drewN k) vs (.slice (some (Ad g 0)) (init.length+1) cap) vl):=λo k=>
  ⟨(h.Ig.alloc o).drewN k,(jT.own L w _ _ _ 7 (.bool true)).trans ((jT.grow L _ _ _ _ (ah _ o none)).trans (jT.grow L _ _ _ _ (lK _ k)))⟩
 have c3:=h.c3;have c7:=h.c7;have f7:=h.fr 7;have hL:=h.lt;have n1:¬L=w.heap.size:=by omega
 have n2:¬g=w.heap.size:=by omega
 have hone:(((init.length:Int)+1)==1)=false:=by simp;omega
 rw[htop]at ho;have ho':decide (0<bb.other)=true:=by simpa using ho
 clear h hf hne hb htop hn hbl;generalize ({l with bad:=true}:Ls)=l2 at *;generalize init.length=n at *;go_enter func115,ntmps115;go_wp2_with fail;refine(HI.out _).mono ?_;rintro e w1 ⟨rfl,k,rfl⟩;go_wp2_with fail;refine CO 26 (by kernel_rfl) (by kernel_rfl) ?_;simp only[aC,aO,aG,aQ];repeat (go_big_quiet_step (fail))
 refine bF ?_;intro _ hw';obtain⟨k2,hw''⟩:=hw';subst hw'';go_wp2;exact cu (v:=.tuple #[]) (by simp[results,Tryz.results115,go_sem]) rfl ⟨rfl,HP.out _ _⟩
theorem aj1(h:jS B w L s l vs vb vl)(hbl:2<=l.jH.length)(hlb:l.jH.length<=900000)(ho:¬0<l.top.other)(p:Nat)(sp:St)(hst:l.jB[p]? =some sp)(hop:l.top.opener=p)(hsp:¬sp.op=2)(q a b c d dp t:Int):
 Calls prog 115 #[Pt L 0,.agg #[.int .u8 q,Im a,Im b,Im c,Im d,Im dp,Im t]] w λe w'=>e=.returned (.tuple #[])/\
  jS B w' L s {l with bad:=true} vs vb vl/\jT L w vs vb vl w' vs vb vl:=by
 have hne:l.jH≠[]:=λe=>by rw[e]at hbl;simp at hbl
 obtain⟨g,cap,init,bb,hvb,hb,htop,uT,hBg,hgw,AA,Eo,b0,b1,b2,b3,hf⟩:=h.inner hne;subst hvb;have hn:l.jH.length=init.length+1:=by rw[hb];simp
 rw[hn]at h⊢;have HI:Hid (∀o,Calls prog 168 #[Pt L 0] (w.alloc o) λe w'=>e=.returned (Pt g (init.length * 4))/\∃k,w'=(w.alloc o).drewN k):=λo=>
  BX L g init.length cap (w.alloc o) (h.alloc o).c3 (by omega)
 have HP:Hid (∀o k,jS B (((w.setCell (Ad L 7) (.bool true)).alloc o).drewN k) L s {l with bad:=true} vs (.slice (some (Ad g 0)) (init.length+1) cap) vl/\
  jT L w vs (.slice (some (Ad g 0)) (init.length+1) cap) vl (((w.setCell (Ad L 7) (.bool true)).alloc o).drewN k) vs (.slice (some (Ad g 0)) (init.length+1) cap) vl):=λo k=>
  ⟨(h.Ig.alloc o).drewN k,(jT.own L w _ _ _ 7 (.bool true)).trans ((jT.grow L _ _ _ _ (ah _ o none)).trans (jT.grow L _ _ _ _ (lK _ k)))⟩
 have c3:=h.c3;have c7:=h.c7;have f7:=h.fr 7;have hL:=h.lt;have n1:¬L=w.heap.size:=by omega
 have n2:¬g=w.heap.size:=by omega
 obtain⟨gs,cs,hvs,hgs,zN,hgb,hgl,hps,hat,hfr⟩:=h.CG hst;subst hvs;have c2:=h.c2;have a0:=hat.1;have n5:¬gs=w.heap.size:=by omega
 rw[htop]at hop ho;rw[hop]at b0;have i0:(0:Int)<=(p:Int):=by omega
 have i1:(p:Int)<(l.jB.length:Int):=by omega
 have hone:(((init.length:Int)+1)==1)=false:=by simp;omega
 have ho':decide (0<bb.other)=false:=by simpa using ho
 have hsp':(sp.op==2)=false:=by simpa using hsp
 clear h hf hne hb htop hn hbl hat hfr;generalize ({l with bad:=true}:Ls)=l2 at *;generalize init.length=n at *;go_enter func115,ntmps115;go_wp2_with fail;refine(HI.out _).mono ?_;rintro e w1 ⟨rfl,k,rfl⟩;go_wp2_with fail;refine CO 26 (by kernel_rfl) (by kernel_rfl) ?_;simp only[aC,aO,aG,aQ];repeat (go_big_quiet_step (fail))
 refine bF ?_;intro _ hw';obtain⟨k2,hw''⟩:=hw';subst hw'';go_wp2;exact cu (v:=.tuple #[]) (by simp[results,Tryz.results115,go_sem]) rfl ⟨rfl,HP.out _ _⟩
theorem ajX(h:jS B w L s l vs vb vl)(hbl:2<=l.jH.length)(hlb:l.jH.length<=900000)(hls:l.jB.length<=900000)(ho:¬0<l.top.other)(p:Nat)(sp:St)(hst:l.jB[p]? =some sp)(hop:l.top.opener=p)(hsp:sp.op=2)(q a b c d dp t:Int):
 Calls prog 115 #[Pt L 0,.agg #[.int .u8 q,Im a,Im b,Im c,Im d,Im dp,Im t]] w λe w'=>e=.returned (.tuple #[])/\
  ∃vs' kL lC,jS B w' L s (Ec l ⟨q,a,b,c,d,dp,t⟩ p sp) vs' kL lC/\jT L w vs vb vl w' vs' kL lC:=by
 have hne:l.jH≠[]:=λe=>by rw[e]at hbl;simp at hbl
 obtain⟨g,cap,init,bb,hvb,hb,htop,uT,hBg,hgw,AA,Eo,b0,b1,b2,b3,hf⟩:=h.inner hne;subst hvb;have hn:l.jH.length=init.length+1:=by rw[hb];simp
 rw[hn]at h⊢;have HI:Hid (∀o,Calls prog 168 #[Pt L 0] (w.alloc o) λe w'=>e=.returned (Pt g (init.length * 4))/\∃k,w'=(w.alloc o).drewN k):=λo=>
  BX L g init.length cap (w.alloc o) (h.alloc o).c3 (by omega)
 have HA:Hid (∀o k,Calls prog 118 #[Pt L 0,.agg #[.int .u8 q,Im a,Im b,Im c,Im d,Im dp,Im t]] ((w.alloc o).drewN k) λe w'=>e=.returned (.tuple #[])/\
  ∃vs',jS B w' L s (mM l ⟨q,a,b,c,d,dp,t⟩) vs' (.slice (some (Ad g 0)) (init.length+1) cap) vl/\jT L w vs (.slice (some (Ad g 0)) (init.length+1) cap) vl w' vs' (.slice (some (Ad g 0)) (init.length+1) cap) vl):=λo k=>by
  refine(IZ ((h.alloc o).drewN k) hne (by omega) (by omega) q a b c d dp t).mono ?_;rintro e w' ⟨h1,vs',h2,h3⟩;exact⟨h1,vs',h2,(jT.grow L w _ _ _ (ah w o none)).trans (jT.trans (jT.grow L _ _ _ _ (lK _ k)) h3)⟩
 obtain⟨gs,cs,hvs,hgs,zN,hgb,hgl,hps,hat,hfr⟩:=h.CG hst;subst hvs;have HB:Hid ((mM l ⟨q,a,b,c,d,dp,t⟩).jH.length=init.length+1):=(Oh l _ hne).trans hn;have HT:Hid ((mM l ⟨q,a,b,c,d,dp,t⟩).top.opener=p):=by
  rw[ah0];exact hop
 have HS:Hid ((mM l ⟨q,a,b,c,d,dp,t⟩).jB[p]? =some sp):=by
  rw[La,aT hps];exact hst
 have HN:Hid ((mM l ⟨q,a,b,c,d,dp,t⟩).jB.length=l.jB.length+1):=by
  show _=_;rw[La];simp
 have HE:Hid (Ec l ⟨q,a,b,c,d,dp,t⟩ p sp=FC (mM l ⟨q,a,b,c,d,dp,t⟩) l.jB.length p sp):=rfl;rw[HE.out];clear HE;generalize mM l ⟨q,a,b,c,d,dp,t⟩=l1 at *;have c2:=h.c2;have c3:=h.c3;have hL:=h.lt;have a0:=hat.1;rw[htop]at hop ho;rw[hop]at b0;rw[hsp]at a0;have n1:¬L=w.heap.size:=by omega
 have n2:¬g=w.heap.size:=by omega
 have n5:¬gs=w.heap.size:=by omega
 have i0:(0:Int)<=(p:Int):=by omega
 have i1:(p:Int)<(l.jB.length:Int):=by omega
 have hone:(((init.length:Int)+1)==1)=false:=by simp;omega
 have ho':decide (0<bb.other)=false:=by simpa using ho
 have RN:Hid (init.length<=900000):=by show _<=_;omega
 clear h hf hne hb htop hn hbl hat hfr hst;generalize l.jB.length=ns at *;go_enter func115,ntmps115;go_wp2_with fail;refine(HI.out _).mono ?_;rintro e w1 ⟨rfl,k,rfl⟩;go_wp2_with fail;refine CO 26 (by kernel_rfl) (by kernel_rfl) ?_;simp only[aC,aO,aG,aQ];repeat (go_big_quiet_step (fail))
 refine bF ?_;intro _ hw';obtain⟨k2,hw''⟩:=hw';subst hw'';go_wp2_with fail;refine(HA.out _ _).mono ?_;rintro e w1 ⟨rfl,vs1,h1,m1⟩;clear b0 b1 b2 b3 a0 c2 c3 hgs zN hgb hgl n5 AA;obtain⟨gs1,cs1,hvs,hgs,zN,hgb,hgl,hps1,hat,hfr⟩:=h1.CG HS.out;subst hvs;obtain⟨g',cap',init',b',hvb,hb,htop,_,_,hgw1,AA,Eo,b0,b1,b2,b3,hf⟩:=h1.inner (λe=>by have:=HB.out;rw[e]at this;simp at this);have hn:l1.jH.length=init'.length+1:=by rw[hb];simp
 have hii:init'.length=init.length:=by have:=HB.out;omega
 obtain⟨hg',hcap'⟩:g'=g/\cap'=cap:=by
  have:=hvb;simp only[Value.slice.injEq,bJ,Addr.mk.injEq]at this;exact⟨this.1.1.symm,this.2.2.symm⟩
 subst hg';subst hcap';clear hvb;have hop1:b'.opener=p:=by rw[<-htop];exact HT.out
 have HP:Hid (∀k,jS B (((((w1.setCell (Ad g' (init'.length * 4+1)) (Im ns)).setCell (Ad g' (init'.length * 4+3)) (Im b'.jC)).setCell (Ad g' (init'.length * 4+2)) (Im 0)).setCell (Ad gs1 (p * 7+6)) (Im l1.jB.length)).drewN k) L s (FC l1 ns p sp) (.slice (some (Ad gs1 0)) l1.jB.length cs1) (.slice (some (Ad g' 0)) (init.length+1) cap') vl/\
  jT L w (.slice (some (Ad gs 0)) ns cs) (.slice (some (Ad g' 0)) (init.length+1) cap') vl (((((w1.setCell (Ad g' (init'.length * 4+1)) (Im ns)).setCell (Ad g' (init'.length * 4+3)) (Im b'.jC)).setCell (Ad g' (init'.length * 4+2)) (Im 0)).setCell (Ad gs1 (p * 7+6)) (Im l1.jB.length)).drewN k) (.slice (some (Ad gs1 0)) l1.jB.length cs1) (.slice (some (Ad g' 0)) (init.length+1) cap') vl):=λk=>by
  obtain⟨h2,m2⟩:=h1.VW hb (by omega) 1 (Im ns) ⟨b'.opener,ns,b'.jC,b'.before⟩ (by omega) rfl;obtain⟨h3,m3⟩:=h2.VW (init:=init') (b:=⟨b'.opener,ns,b'.jC,b'.before⟩) rfl (by simp;omega) 3 (Im b'.jC) ⟨b'.opener,ns,b'.jC,b'.jC⟩ (by omega) rfl;obtain⟨h4,m4⟩:=h3.VW (init:=init') (b:=⟨b'.opener,ns,b'.jC,b'.jC⟩) rfl (by simp;omega) 2 (Im 0) ⟨b'.opener,ns,0,b'.jC⟩ (by omega) rfl;obtain⟨h5,m5⟩:=h4.QG HS.out (l1.jB.length:Int);have e1:l1.jH.dropLast=init':=by rw[hb];simp
  unfold FC;rw[e1,htop];exact⟨h5.drewN k,m1.trans (m2.trans (m3.trans (m4.trans (m5.trans (jT.grow L _ _ _ _ (lK _ k))))))⟩
 have c2:=h1.c2;have f1:=hf (init'.length * 4+1);have f2:=hf (init'.length * 4+2);have f3:=hf (init'.length * 4+3);have f6:=hfr (p * 7+6);have a6:=hat.2.2.2.2.2.2;have hgg:¬gs1=g':=λe=>AA (by rw[<-e];rfl);have hgg':¬g'=gs1:=λe=>hgg e.symm;have auE:¬L=g':=λe=>uT e.symm;have auF:¬L=gs1:=λe=>zN e.symm;rw[hop1]at b0;rw[hii]at b0 b1 b2 b3 f1 f2 f3 HP;rw[HN.out]at HP c2;clear h1 m1 hb htop hf hfr hat hn HA HB HS HT HI AA;generalize hgn:init.length=n at *;have HJ:=jA hgn;clear hgn;have j1:(p:Int)<((ns:Int)+1):=by omega
 have hwr:IntKind.i64.wrap (ns:Int)=(ns:Int):=by rw[IntKind.wrap_i64];omega
 go_wp2_with fail;refine nP 15 (by kernel_rfl) (by kernel_rfl) ?_;simp only[aC,aO,aG,aQ];repeat (go_big_quiet_step (fail))
 refine bF ?_;intro _ hw';obtain⟨k4,hw''⟩:=hw';subst hw'';go_wp2;go_end0;have hm:=(HP.out k4).1;have hv:=(HP.out k4).2;rw[HJ.out];exact⟨rfl,_,_,_,hm,hv⟩
end
theorem Me(w:jk)(o1 o2:Obj):((w.alloc o1).alloc o2).heap[w.heap.size+1]? =some o2/\((w.alloc o1).alloc o2).heap[w.heap.size]? =some o1:=by
 have e:(w.alloc o1).heap.size=w.heap.size+1:=by simp
 constructor
 .rw[<-e];exact aY _ _
 .have h:=(ah (w.alloc o1) o2 none).block w.heap.size (by rw[e];omega) (by simp);rw[h];exact aY _ _
theorem aoh(w:jk)(s:ji):
 Calls prog 71 #[.string s] w λe w'=>∃L,e=.returned (Pt L 0)/\w.heap.size<=L/\w.grownBy w' none/\
  ∃g cap,jS w.heap.size w' L s tY (Nl) (.slice (some (Ad g 0)) 1 cap) (Nl):=by
 have HP:Hid (∀o1 o2,o1=Obj.cells #[Im 0,Im 0,Im 0,Im 0] 226->
  o2=Obj.cells #[.string s,Im 0,Nl,.slice (some (Ad w.heap.size 0)) 1 1,Nl,Im 8,Im 0,.bool false] 151->
  jS w.heap.size ((w.alloc o1).alloc o2) (w.heap.size+1) s tY (Nl) (.slice (some (Ad w.heap.size 0)) 1 1) (Nl)):=by
  intro o1 o2 h1 h2;obtain⟨g1,g2⟩:=Me w o1 o2;generalize (w.alloc o1).alloc o2=w2 at *;subst h1;subst h2;have hc:∀j,j<8->w2.cell? (Ad (w.heap.size+1) j)=(#[Value.string s,Im 0,Nl,.slice (some (Ad w.heap.size 0)) 1 1,Nl,Im 8,Im 0,.bool false]:Array jm)[j]? :=λj _=>by
   simp[World.cell?,g1]
  refine⟨by omega,hc 0 (by omega),hc 1 (by omega),hc 2 (by omega),hc 3 (by omega),hc 4 (by omega),hc 5 (by omega),hc 6 (by omega),hc 7 (by omega),λj=>?_,⟨rfl,jf ⟨rfl,rfl⟩⟩,⟨rfl,je ⟨_,1,_,rfl,aj _,g2,aj _,by unfold maxLen;omega,rfl,rfl⟩⟩,⟨rfl,jf ⟨rfl,rfl⟩⟩,by simp[Value.ownBlock],by simp[Value.ownBlock],by simp[Value.ownBlock],jf rfl,jf rfl,je (by simp[Value.ownBlock])⟩;simp[World.frozen?,g1]
 go_enter func71,ntmps71;go_wp2;go_ret;exact⟨_,rfl,by omega,(ah w _ none).trans (ah _ _ none),_,_,HP.out _ _ rfl rfl⟩
section
variable {B:Nat}{w:jk}{L:Nat}{s:ji}{l:Ls}{vs vb vl:jm}
theorem aqx(h:jS B w L s l vs vb vl)(hp:l.pos=s.size):
 Calls prog 112 #[Pt L 0] w λe w'=>e=.returned (.tuple #[.agg #[.int .u8 0,Im 0,Im 0,Im 0,Im 0,Im 0,Im 0],.bool false])/\w.grownBy w' none:=by
 have c0:=h.c0;have c1:=h.c1;have hL:=h.lt;rw[hp]at c1;have n1:¬L=w.heap.size:=by omega
 clear h;go_enter func112,ntmps112;go_wp2_with fail;refine nP 9 (by kernel_rfl) (by kernel_rfl) ?_;simp only[aC,aO,aG,aQ];repeat (go_big_quiet_step (fail))
 refine bF ?_;intro _ hw';obtain⟨k1,hw''⟩:=hw';subst hw'';go_wp2;refine cu (v:=.tuple #[.agg #[.int .u8 0,Im 0,Im 0,Im 0,Im 0,Im 0,Im 0],.bool false]) (by simp[results,Tryz.results112,go_sem]) rfl ?_;exact⟨rfl,(ah w _ none).trans (lK _ k1)⟩
end
end
namespace Hx
open Go.RowKit
def zV:Nat->Nat->Nat
 |0,_=>0
 |n+1,x=>x%2+zV n (x/2)
theorem aeJ:∀(n a b:Nat),zV n (a&&&b)<=zV n b
 |0,_,_=>aj _
 |n+1,a,b=>by
  have h1:(a&&&b)/2=a/2&&&b/2:=Nat.and_div_two;have h2:(a&&&b)%2=(a%2)&&&(b%2):=by
   have:=Nat.and_mod_two_pow (a:=a) (b:=b) (n:=1);simpa using this
  have h3:(a%2)&&&(b%2)<=b%2:=Nat.and_le_right;have:=aeJ n (a/2) (b/2);simp only[zV,h1,h2];omega
theorem aeK:∀(n x:Nat),0<x->x<2^n->zV n (x&&&(x-1))+1=zV n x
 |0,x,h0,h1=>by simp at h1;omega
 |n+1,x,h0,h1=>by
  have e1:(x&&&(x-1))/2=x/2&&&(x-1)/2:=Nat.and_div_two;have e2:(x&&&(x-1))%2=(x%2)&&&((x-1)%2):=by
   have:=Nat.and_mod_two_pow (a:=x) (b:=x-1) (n:=1);simpa using this
  simp only[zV,e1,e2];rcases Nat.mod_two_eq_zero_or_one x with h|h
  .have h2:(x-1)/2=x/2-1:=by omega
   have h3:=aeK n (x/2) (by omega) (by rw[iV]at h1;omega);rw[h2,h];simp;omega
  .have h2:(x-1)/2=x/2:=by omega
   have h3:(x-1)%2=0:=by omega
   rw[h2,h3,h,Nat.and_self];simp;omega
def pop(x:Int):Nat:=zV 64 x.toNat
theorem apD(x:Int)(h0:0<=x)(h1:x<18446744073709551616)(hx:x≠0):pop (bits .and .u64 x (IntKind.u64.wrap (x-1)))+1=pop x:=by
 have e:IntKind.u64.wrap (x-1)=x-1:=by rw[IntKind.wrap_u64];omega
 rw[e,u64_and x (x-1) h0 h1 (by omega) (by omega)];have h2:(x-1).toNat=x.toNat-1:=by omega
 rw[h2];unfold pop;rw[bK];exact aeK 64 x.toNat (by omega) (by omega)
theorem amL(x y:Int):0<=bits .and .u64 x y/\bits .and .u64 x y<18446744073709551616:=⟨bits_lo_u64 _ _ _,by have:=bits_hi_u64 .and x y;omega⟩
theorem atL(a b:Int):pY (bits .and .i64 a b)=(((BitVec.ofInt 64 a).toNat&&&(BitVec.ofInt 64 b).toNat:Nat):Int):=by
 show IntKind.u64.wrap (IntKind.i64.wrap ((BitVec.ofInt 64 a&&&BitVec.ofInt 64 b).toNat:Int))=_;rw[BitVec.toNat_and];have h:(BitVec.ofInt 64 a).toNat&&&(BitVec.ofInt 64 b).toNat<2^64:=Nat.and_lt_two_pow _ (BitVec.isLt _);generalize (BitVec.ofInt 64 a).toNat&&&(BitVec.ofInt 64 b).toNat=X at *;rw[IntKind.wrap_u64];simp only[IntKind.wrap,IntKind.bits,IntKind.signed];omega
theorem VT(k:Nat)(h:k<=16):zV 64 (BitVec.ofInt 64 (tN k)).toNat=k/\zV 64 (BitVec.ofInt 64 (wrap64 (tN k * 65536))).toNat=k:=by
 have:∀k:Fin 17,zV 64 (BitVec.ofInt 64 (tN k.1)).toNat=k.1/\zV 64 (BitVec.ofInt 64 (wrap64 (tN k.1 * 65536))).toNat=k.1:=by decide+kernel
 exact this ⟨k,by omega⟩
def Vw.small(v:Vw):Prop:=v.pW.length<=8/\v.qK.length<=16/\v.qJ.length<=16
theorem apC(v:Vw)(hv:v.small)(x l:Int):(pop (pY (bits .and .i64 x (v.all l))):Int)<=kR l:=by
 rw[atL];unfold pop;rw[bK];have h1:=aeJ 64 (BitVec.ofInt 64 x).toNat (BitVec.ofInt 64 (v.all l)).toNat;have h2:(zV 64 (BitVec.ofInt 64 (v.all l)).toNat:Int)<=kR l:=by
  obtain⟨a,b,c⟩:=hv;unfold Vw.all kR;by_cases h:l=0
  .rw[jh h,jh h,(VT _ (by omega)).1];omega
  .rw[jg h,jg h];by_cases h':l=1
   .rw[jh h',(VT _ b).1];omega
   .rw[jg h',(VT _ c).2];omega
 omega
theorem ajb(x y:Int):0<=pY (bits .and .i64 x y)/\pY (bits .and .i64 x y)<18446744073709551616:=EL _
end Hx
end Go.Proofs.YthllhabjfchgiaaGreatDoor
