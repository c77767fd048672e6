import Derived.Test.YthllhabjfchgiaaGreatDoorHb03
set_option maxRecDepth 100000
set_option maxHeartbeats 8000000
set_option linter.unusedSimpArgs false
namespace Go.Proofs.YthllhabjfchgiaaGreatDoor
open _root_.Go.Proofs.Tryz
section
open Go.RowKit
open Hx (St Bk Ls jO)
attribute [local go_sem ↓] Go.wp_at_zero Go.wp_at_succ
attribute [local go_sem] kL
section
variable {B:Nat}{w:jo}{L:Nat}{s:jm}{l:Ls}{vs vb vl:jr}
theorem jT.V7{g cap:Nat}{init:List Bk}{b:Bk}(h:jT B w L s l vs (.slice (some (Ad g 0)) (init.length+1) cap) vl)(hb:l.jI=init++[b]):
 jT B (w.setCell (Ad L 3) (.slice (some (Ad g 0)) init.length cap)) L s {l with jI:=init} vs (.slice (some (Ad g 0)) init.length cap) vl/\
 jV L w vs (.slice (some (Ad g 0)) (init.length+1) cap) vl (w.setCell (Ad L 3) (.slice (some (Ad g 0)) init.length cap)) vs (.slice (some (Ad g 0)) init.length cap) vl:=by
 have hlen:l.jI.length=init.length+1:=by rw[hb];simp
 have ho:=h.jI;rw[hlen]at ho;have ho2:=aee ho;have e:(l.jI.flatMap rH).take (init.length * 4)=init.flatMap rH:=by
  rw[hb,gu,List.take_left' (by rw[He];omega)]
 rw[e]at ho2;obtain⟨g1,g2,_,_⟩:=h.TA (w1:=w) ⟨rfl,rfl,rfl,aj _,λ_ _ _=>rfl⟩ ho2 (λg' hg'=>ji hg');exact⟨g1,g2⟩
theorem jT.aoF{g cap:Nat}{init:List Int}{x:Int}(h:jT B w L s l vs vb (.slice (some (Ad g 0)) (init.length+1) cap))(hx:l.jY=init++[x]):
 jT B (w.setCell (Ad L 4) (.slice (some (Ad g 0)) init.length cap)) L s {l with jY:=init} vs vb (.slice (some (Ad g 0)) init.length cap)/\
 jV L w vs vb (.slice (some (Ad g 0)) (init.length+1) cap) (w.setCell (Ad L 4) (.slice (some (Ad g 0)) init.length cap)) vs vb (.slice (some (Ad g 0)) init.length cap):=by
 have hlen:l.jY.length=init.length+1:=by rw[hx];simp
 have ho:=h.jY;rw[hlen]at ho;have ho2:=aee ho;have e:(l.jY.map (Value.int .i64)).take (init.length * 1)=init.map (Value.int .i64):=by
  rw[hx,dF,List.take_left' (by simp)]
 rw[e]at ho2;obtain⟨g1,g2,_,_⟩:=h.acZ (w1:=w) ⟨rfl,rfl,rfl,aj _,λ_ _ _=>rfl⟩ ho2 (λg' hg'=>ji hg');exact⟨g1,g2⟩
theorem lH(w:jo)(k:Nat):w.grownBy (w.drewN k) none:=⟨rfl,rfl,rfl,aj _,λ_ _ _=>rfl⟩
theorem QA{e:jv}{size n cap:Nat}{a:Option Addr}{xs:List jr}(h:w.ownsRow B e size (.slice a n cap) n xs):n<=cap/\cap<=maxLen:=by
 rcases h.2 with⟨h3,h4⟩|⟨g',cap',cur,h3,h4,h5,h6,h7,h8⟩
 .cases h3;exact⟨aj _,bD _⟩
 .cases h3;exact⟨h6,h7⟩
theorem aji(h:jT B w L s l vs vb vl)(init:List Bk)(b:Bk)(hb:l.jI=init++[b])(hne:init≠[])(hlb:l.jI.length<=900000)
 (p:Nat)(st:St)(hst:l.jC[p]? =some st)(hp:0<p)(ho:b.other=p):
 Calls prog 171 #[Pt L 0,.agg #[Im b.opener,Im b.other,Im b.jD,Im b.before]] w λe w'=>e=.returned (.tuple #[])/\
  ∃kJ,jT B w' L s (tu l p st init b) vs kJ vl/\jV L w vs vb vl w' vs kJ vl:=by
 obtain⟨gs,cs,rfl,hgs,zD,hgb,hgl,hps,hat,hfr⟩:=h.BQ hst;obtain⟨gb,cb,hvb⟩:∃gb cb,vb=.slice (some (Ad gb 0)) (init.length+1) cb:=by
  obtain⟨g,cap,init',b',e1,_⟩:=h.inner (by rw[hb];simp);exact⟨g,cap,by rw[e1,hb];simp⟩
 subst hvb;have HP:Hid (∀o k z,z=max b.jD b.before->Calls prog 172 #[Pt L 0,Im z] ((((w.setCell (Ad gs (p * 7+6)) (Im l.jC.length)).setCell (Ad L 3) (.slice (some (Ad gb 0)) init.length cb)).alloc o).drewN k) λe w'=>e=.returned (.tuple #[])/\
  jT B w' L s (tu l p st init b) (.slice (some (Ad gs 0)) l.jC.length cs) (.slice (some (Ad gb 0)) init.length cb) vl/\
  jV L w (.slice (some (Ad gs 0)) l.jC.length cs) (.slice (some (Ad gb 0)) (init.length+1) cb) vl w' (.slice (some (Ad gs 0)) l.jC.length cs) (.slice (some (Ad gb 0)) init.length cb) vl):=λo k z hz=>by
  subst hz;obtain⟨h2,m2⟩:=h.QK hst (l.jC.length:Int);obtain⟨h4,m4⟩:=h2.V7 (init:=init) (b:=b) hb;have h5:=(h4.alloc o).drewN k
  refine(OJ h5 hne (by have:l.jI.length=init.length+1:=by rw[hb];simp
                       show init.length<=_;omega) (max b.jD b.before)).mono ?_
  rintro e w' ⟨h6,h7,h8⟩;exact⟨h6,h7,m2.trans (m4.trans ((jV.grow L _ _ _ _ (ah _ o none)).trans (jV.trans (jV.grow L _ _ _ _ (lH _ k)) h8)))⟩
 have c2:=h.c2;have c3:=h.c3;have f3:=h.fr 3;have f6:=hfr (p * 7+6);have a6:=hat.2.2.2.2.2.2;have abG:¬L=gs:=λe=>zD e.symm;have hlen:l.jI.length=init.length+1:=by rw[hb];simp
 have hin:init.length<=900000:=by omega
 have hcap:init.length<=cb:=by
  have h9:=h.jI;rw[hlen]at h9;have:=QA h9;omega
 have hL:=h.lt;have n1:¬L=w.heap.size:=by omega
 have n2:¬gs=w.heap.size:=by omega
 have ho':decide (0<b.other)=true:=by rw[ho];simp;omega
 clear h hb hne hat hfr hlen hst;rw[ho]at ho'⊢;clear ho;generalize tu l p st init b=l' at *;generalize init.length=n at *;generalize l.jC.length=m at *;have i0:(0:Int)<=(p:Int):=by omega
 have i1:(p:Int)<(m:Int):=by omega
 have i2:(0:Int)<=(n:Int):=by omega
 have i3:(n:Int)<=(cb:Int):=by omega
 generalize b.jD=x at *;generalize b.before=y at *;go_enter func171,ntmps171;go_wp2_with fail;refine nJ 12 (by kernel_rfl) (by kernel_rfl) ?_;simp only[aC,aO,aG,aQ];repeat (go_big_quiet_step (fail))
 refine bF ?_;intro _ hw';obtain⟨k1,hw''⟩:=hw';subst hw'';go_wp2_with fail;refine nJ 14 (by kernel_rfl) (by kernel_rfl) ?_;simp only[aC,aO,aG,aQ];repeat (go_big_quiet_step (fail))
 refine bF ?_;intro _ hw';obtain⟨k2,hw''⟩:=hw';subst hw'';go_wp2_with fail;all_goals
  refine(HP.out _ _ _ (by omega)).mono ?_;rintro e w1 ⟨rfl,h1,h2⟩;go_wp2;go_end0;exact⟨rfl,_,h1,h2⟩
theorem ajh(h:jT B w L s l vs vb vl)(init:List Bk)(b:Bk)(hb:l.jI=init++[b])(hne:init≠[])(hlb:l.jI.length<=900000)
 (p:Nat)(st:St)(hst:l.jC[p]? =some st)(hp:¬0<b.other)(ho:b.opener=p):
 Calls prog 171 #[Pt L 0,.agg #[Im b.opener,Im b.other,Im b.jD,Im b.before]] w λe w'=>e=.returned (.tuple #[])/\
  ∃kJ,jT B w' L s (tu l p st init b) vs kJ vl/\jV L w vs vb vl w' vs kJ vl:=by
 obtain⟨gs,cs,rfl,hgs,zD,hgb,hgl,hps,hat,hfr⟩:=h.BQ hst;obtain⟨gb,cb,hvb⟩:∃gb cb,vb=.slice (some (Ad gb 0)) (init.length+1) cb:=by
  obtain⟨g,cap,init',b',e1,_⟩:=h.inner (by rw[hb];simp);exact⟨g,cap,by rw[e1,hb];simp⟩
 subst hvb;have HP:Hid (∀o k z,z=max b.jD b.before->Calls prog 172 #[Pt L 0,Im z] ((((w.setCell (Ad gs (p * 7+6)) (Im l.jC.length)).setCell (Ad L 3) (.slice (some (Ad gb 0)) init.length cb)).alloc o).drewN k) λe w'=>e=.returned (.tuple #[])/\
  jT B w' L s (tu l p st init b) (.slice (some (Ad gs 0)) l.jC.length cs) (.slice (some (Ad gb 0)) init.length cb) vl/\
  jV L w (.slice (some (Ad gs 0)) l.jC.length cs) (.slice (some (Ad gb 0)) (init.length+1) cb) vl w' (.slice (some (Ad gs 0)) l.jC.length cs) (.slice (some (Ad gb 0)) init.length cb) vl):=λo k z hz=>by
  subst hz;obtain⟨h2,m2⟩:=h.QK hst (l.jC.length:Int);obtain⟨h4,m4⟩:=h2.V7 (init:=init) (b:=b) hb;have h5:=(h4.alloc o).drewN k
  refine(OJ h5 hne (by have:l.jI.length=init.length+1:=by rw[hb];simp
                       show init.length<=_;omega) (max b.jD b.before)).mono ?_
  rintro e w' ⟨h6,h7,h8⟩;exact⟨h6,h7,m2.trans (m4.trans ((jV.grow L _ _ _ _ (ah _ o none)).trans (jV.trans (jV.grow L _ _ _ _ (lH _ k)) h8)))⟩
 have c2:=h.c2;have c3:=h.c3;have f3:=h.fr 3;have f6:=hfr (p * 7+6);have a6:=hat.2.2.2.2.2.2;have abG:¬L=gs:=λe=>zD e.symm;have hlen:l.jI.length=init.length+1:=by rw[hb];simp
 have hin:init.length<=900000:=by omega
 have hcap:init.length<=cb:=by
  have h9:=h.jI;rw[hlen]at h9;have:=QA h9;omega
 have hL:=h.lt;have n1:¬L=w.heap.size:=by omega
 have n2:¬gs=w.heap.size:=by omega
 have ho':decide (0<b.other)=false:=by simpa using hp
 clear h hb hne hat hfr hlen hst;rw[ho];clear ho hp;generalize tu l p st init b=l' at *;generalize init.length=n at *;generalize l.jC.length=m at *;have i0:(0:Int)<=(p:Int):=by omega
 have i1:(p:Int)<(m:Int):=by omega
 have i2:(0:Int)<=(n:Int):=by omega
 have i3:(n:Int)<=(cb:Int):=by omega
 generalize b.jD=x at *;generalize b.before=y at *;go_enter func171,ntmps171;go_wp2_with fail;refine nJ 12 (by kernel_rfl) (by kernel_rfl) ?_;simp only[aC,aO,aG,aQ];repeat (go_big_quiet_step (fail))
 refine bF ?_;intro _ hw';obtain⟨k1,hw''⟩:=hw';subst hw'';go_wp2_with fail;refine nJ 14 (by kernel_rfl) (by kernel_rfl) ?_;simp only[aC,aO,aG,aQ];repeat (go_big_quiet_step (fail))
 refine bF ?_;intro _ hw';obtain⟨k2,hw''⟩:=hw';subst hw'';go_wp2_with fail;all_goals
  refine(HP.out _ _ _ (by omega)).mono ?_;rintro e w1 ⟨rfl,h1,h2⟩;go_wp2;go_end0;exact⟨rfl,_,h1,h2⟩
theorem jT.ao2(h:jT B w L s l vs vb vl)(x:Int):jT B (w.setCell (Ad L 6) (Im x)) L s {l with jD:=x} vs vb vl:=by
 have hc:∀k,¬k=6->(w.setCell (Ad L 6) (Im x)).cell? (Ad L k)=w.cell? (Ad L k):=λk hk=>bG _ _ _ _ (by intro e;cases e;exact hk rfl);exact h.put 6 _ _ vs vb vl (by rw[hc 1 (by omega)];exact h.c1) (by rw[hc 2 (by omega)];exact h.c2) (by rw[hc 3 (by omega)];exact h.c3) (by rw[hc 4 (by omega)];exact h.c4) (by rw[hc 5 (by omega)];exact h.c5) (dB _ _ _ h.c6) (by rw[hc 7 (by omega)];exact h.c7) (by omega) h.jC h.jI h.jY h.ns h.nb h.nl h.sb h.sl h.bl
theorem jT.noBlocks(h:jT B w L s l vs vb vl):jT B (w.setCell (Ad L 3) (Nl)) L s {l with jI:=[]} vs (Nl) vl/\jV L w vs vb vl (w.setCell (Ad L 3) (Nl)) vs (Nl) vl:=by
 obtain⟨g1,g2,_,_⟩:=h.TA (w1:=w) ⟨rfl,rfl,rfl,aj _,λ_ _ _=>rfl⟩ (kJ:=Nl) (blocks':=[]) ⟨rfl,ji ⟨rfl,rfl⟩⟩ (λg' hg'=>by cases hg');exact⟨g1,g2⟩
theorem aje(h:jT B w L s l vs vb vl)(hne:l.jI≠[])(hlb:l.jI.length<=900000)(hls:l.jC.length<=900000):
 Calls prog 169 #[Pt L 0] w λe w'=>e=.returned (.tuple #[])/\
  ∃vs' kJ,jT B w' L s (zX l) vs' kJ vl/\jV L w vs vb vl w' vs' kJ vl:=by
 have HA:Hid (Calls prog 118 #[Pt L 0,.agg #[.int .u8 1,Im 0,Im 0,Im 0,Im 0,Im 0,Im 0]] w λe w'=>e=.returned (.tuple #[])/\
  ∃vs',jT B w' L s (mF l ⟨1,0,0,0,0,0,0⟩) vs' vb vl/\jV L w vs vb vl w' vs' vb vl):=Ja h hne (by omega) (by omega) 1 0 0 0 0 0 0
 have HB:Hid ((mF l ⟨1,0,0,0,0,0,0⟩).jI.length=l.jI.length):=Oj l _ hne;have hpos:0<l.jI.length:=List.length_pos_iff.2 hne;unfold zX;generalize mF l ⟨1,0,0,0,0,0,0⟩=l1 at *;generalize l.jI.length=nb at *;clear h hne;go_enter func169,ntmps169;go_wp2_with fail;refine(HA.out).mono ?_;rintro e w1 ⟨rfl,vs1,h1,m1⟩;obtain⟨g,cap,init,b,hvb,hb,htop,uQ,hBg,hgw,hgs,hgl,b0,b1,b2,b3,hf⟩:=h1.inner (λe=>by have:=HB.out;rw[e]at this;simp at this;omega);subst hvb;have hn:l1.jI.length=init.length+1:=by rw[hb];simp
 have HI:Hid (Calls prog 168 #[Pt L 0] w1 λe w'=>e=.returned (Pt g (init.length * 4))/\∃k,w'=w1.drewN k):=
  BI L g init.length cap w1 (by rw[h1.c3,hn]) (by have:=HB.out;omega)
 have HP:Hid (∀k,jT B (((w1.setCell (Ad L 6) (Im b.jD)).setCell (Ad L 3) (Nl)).drewN k) L s {l1 with jD:=l1.top.jD,jI:=[]} vs1 (Nl) vl/\
  jV L w vs (.slice (some (Ad g 0)) l1.jI.length cap) vl (((w1.setCell (Ad L 6) (Im b.jD)).setCell (Ad L 3) (Nl)).drewN k) vs1 (Nl) vl):=λk=>by
  obtain⟨h2,m2⟩:=(h1.ao2 b.jD).noBlocks;rw[htop];exact⟨h2.drewN k,m1.trans ((jV.own _ _ _ _ _ _ _).trans (m2.trans (jV.grow L _ _ _ _ (lH _ k))))⟩
 have c3:=h1.c3;have c6:=h1.c6;have f3:=h1.fr 3;have f6:=h1.fr 6;have abC:¬L=g:=λe=>uQ e.symm;clear h1 m1 hb htop b0 b1 b3 hf;generalize init.length * 4=p at *;go_wp2_with fail;refine(HI.out).mono ?_;rintro e w2 ⟨rfl,k,rfl⟩;go_wp2;go_end0;exact⟨rfl,_,_,HP.out _⟩
theorem ajj(h:jT B w L s l vs vb vl)(hbl:2<=l.jI.length)(hlb:l.jI.length<=900000)(hls:l.jC.length<=900000)(yt:List Int)(x:Int)(hx:l.jY=yt++[x])(hll:l.jY.length<=900000)
 (p:Nat)(sp:St)(hst:l.jC[p]? =some sp)(q a b c d dp t:Int):
 Calls prog 170 #[Pt L 0,.agg #[.int .u8 q,Im a,Im b,Im c,Im d,Im dp,Im t],Im p] w λe w'=>e=.returned (.tuple #[])/\
  ∃vs' kJ lq,jT B w' L s (zY l ⟨q,a,b,c,d,dp,t⟩ p sp) vs' kJ lq/\jV L w vs vb vl w' vs' kJ lq:=by
 have hne:l.jI≠[]:=λe=>by rw[e]at hbl;simp at hbl
 have hlt:p<l.jC.length:=by
  rcases dG p l.jC.length with h'|h'
  .exact h'
  .rw[bV h']at hst;cases hst
 have HA:Hid (∀o,Calls prog 118 #[Pt L 0,.agg #[.int .u8 q,Im a,Im b,Im c,Im d,Im dp,Im p]] (w.alloc o) λe w'=>e=.returned (.tuple #[])/\
  ∃vs',jT B w' L s (mF l ⟨q,a,b,c,d,dp,p⟩) vs' vb vl/\jV L w vs vb vl w' vs' vb vl):=λo=>by
  refine(Ja (h.alloc o) hne (by omega) (by omega) q a b c d dp p).mono ?_;rintro e w' ⟨h1,vs',h2,h3⟩;exact⟨h1,vs',h2,(jV.grow L w _ _ _ (ah w o none)).trans h3⟩
 have HB:Hid ((mF l ⟨q,a,b,c,d,dp,p⟩).jI.length=l.jI.length):=Oj l _ hne;have HS:Hid ((mF l ⟨q,a,b,c,d,dp,p⟩).jC[p]? =some sp):=by
  show _=_;rw[KZ,aT hlt];exact hst
 have HL:Hid ((mF l ⟨q,a,b,c,d,dp,p⟩).jY=yt++[x]):=hx;have HN:Hid ((mF l ⟨q,a,b,c,d,dp,p⟩).jC.length=l.jC.length+1):=by
  show _=_;rw[KZ];simp
 have HE:Hid (zY l ⟨q,a,b,c,d,dp,t⟩ p sp=FQ (mF l ⟨q,a,b,c,d,dp,p⟩) p sp):=rfl;rw[HE.out];have asr:yt.length<=900000:=by rw[hx]at hll;simp at hll;omega
 clear HE;generalize mF l ⟨q,a,b,c,d,dp,p⟩=l1 at *;have hL:=h.lt;have n1:¬L=w.heap.size:=by omega
 generalize l.jI.length=nb at *;generalize l.jC.length=ns at *;clear h hne hx hst hll;go_enter func170,ntmps170;go_wp2_with fail;refine(HA.out _).mono ?_;rintro e w1 ⟨rfl,vs1,h1,m1⟩;obtain⟨gs,cs,rfl,hgs,zD,hgb,hgl,hps,hat,hfr⟩:=h1.BQ HS.out;obtain⟨g,cap,init,bb,hvb,hb,htop,uQ,hBg,hgw,Af,Eo,b0,b1,b2,b3,hf⟩:=h1.inner (λe=>by have:=HB.out;rw[e]at this;simp at this;omega);obtain⟨gl,Jd,hvl,asq,cgl⟩:=h1.acC HL.out;subst hvb;subst hvl;have hn:l1.jI.length=init.length+1:=by rw[hb];simp
 have hin:init.length<=900000:=by have:=HB.out;omega
 have hin0:init≠[]:=λe=>by have:=HB.out;rw[hn,e]at this;simp at this;omega
 have hns:l1.jC.length<=900001:=by have:=HN.out;omega
 rw[hn]at h1 m1 hgb;have HI:Hid (Calls prog 168 #[Pt L 0] w1 λe w'=>e=.returned (Pt g (init.length * 4))/\∃k,w'=w1.drewN k):=
  BI L g init.length cap w1 h1.c3 (by omega)
 have HP:Hid (∀k z,z=wrap64 (Hx.kQ sp.a * bb.jD)->Calls prog 172 #[Pt L 0,Im z] ((((w1.setCell (Ad L 3) (.slice (some (Ad g 0)) init.length cap)).setCell (Ad L 4) (.slice (some (Ad gl 0)) yt.length Jd)).setCell (Ad gs (p * 7+6)) (Im l1.jC.length)).drewN k) λe w'=>e=.returned (.tuple #[])/\
  jT B w' L s (FQ l1 p sp) (.slice (some (Ad gs 0)) l1.jC.length cs) (.slice (some (Ad g 0)) init.length cap) (.slice (some (Ad gl 0)) yt.length Jd)/\
  jV L w vs (.slice (some (Ad g 0)) (init.length+1) cap) (.slice (some (Ad gl 0)) (yt.length+1) Jd) w' (.slice (some (Ad gs 0)) l1.jC.length cs) (.slice (some (Ad g 0)) init.length cap) (.slice (some (Ad gl 0)) yt.length Jd)):=λk z hz=>by
  subst hz;obtain⟨h2,m2⟩:=h1.V7 (init:=init) (b:=bb) hb;obtain⟨h3,m3⟩:=h2.aoF (init:=yt) (x:=x) HL.out;obtain⟨h4,m4⟩:=h3.QK HS.out (l1.jC.length:Int);have h5:=h4.drewN k;refine(OJ h5 hin0 (by show init.length<=_;omega) _).mono ?_;rintro e w' ⟨h6,h7,h8⟩;refine⟨h6,?_,m1.trans (m2.trans (m3.trans (m4.trans (jV.trans (jV.grow L _ _ _ _ (lH _ k)) h8))))⟩;have e1:l1.jI.dropLast=init:=by rw[hb];simp
  have e2:l1.jY.dropLast=yt:=by rw[HL.out];simp
  unfold FQ;rw[e1,e2,htop];exact h7
 have hcap:init.length<=cap:=by
  have h9:=h1.jI;rw[hn]at h9;have:=QA h9;omega
 have asi:yt.length<=Jd:=by
  have h9:=h1.jY;rw[HL.out]at h9;simp only[aA,eG]at h9;have:=QA h9;omega
 have c2:=h1.c2;have c3:=h1.c3;have c4:=h1.c4;have f3:=h1.fr 3;have f4:=h1.fr 4;have f6:=hfr (p * 7+6);have a1:=hat.2.1;have a6:=hat.2.2.2.2.2.2;have abG:¬L=gs:=λe=>zD e.symm;have abC:¬L=g:=λe=>uQ e.symm;have HQ:Hid (l1.jI.length=init.length+1):=hn;clear h1 m1 hb htop b0 b1 b3 hf hfr hat hn hin0 HA HB HS HL HN;generalize hm:l1.jC.length=m at *;generalize hj:yt.length=j at *;generalize init.length=n at *;have HJ:Hid (yt.length=j):=hj;clear hm hj;have i0:(0:Int)<=(p:Int):=by omega
 have i1:(p:Int)<(m:Int):=by omega
 have i2:(0:Int)<=(n:Int):=by omega
 have i3:(n:Int)<=(cap:Int):=by omega
 have i4:(0:Int)<=(j:Int):=by omega
 have i5:(j:Int)<=(Jd:Int):=by omega
 go_wp2_with fail;refine(HI.out).mono ?_;rintro e w2 ⟨rfl,k,rfl⟩;go_wp2_with fail;refine BR 14 (by kernel_rfl) (by kernel_rfl) ?_;simp only[aC,aO,aG,aQ];repeat (go_big_quiet_step (fail))
 refine bF ?_;intro _ hw';obtain⟨k2,hw''⟩:=hw';subst hw'';go_wp2_with fail;refine BR 14 (by kernel_rfl) (by kernel_rfl) ?_;simp only[aC,aO,aG,aQ];repeat (go_big_quiet_step (fail))
 refine bF ?_;intro _ hw';obtain⟨k3,hw''⟩:=hw';subst hw'';go_wp2_with fail;refine BR 12 (by kernel_rfl) (by kernel_rfl) ?_;simp only[aC,aO,aG,aQ];repeat (go_big_quiet_step (fail))
 refine bF ?_;intro _ hw';obtain⟨k4,hw''⟩:=hw';subst hw'';go_wp2_with fail;refine(amc _ _).mono ?_;rintro e w3 ⟨rfl,rfl⟩;go_wp2_with fail;refine(HP.out _ _ rfl).mono ?_;rintro e w4 ⟨rfl,h1,h2⟩;go_wp2;go_end0;rw[HQ.out,HJ.out];exact⟨rfl,_,_,_,h1,h2⟩
theorem ajl(h:jT B w L s l vs vb vl)(hbl:l.jI.length=1)(hls:l.jC.length<=900000)(q a b c d dp t:Int):
 Calls prog 116 #[Pt L 0,.agg #[.int .u8 q,Im a,Im b,Im c,Im d,Im dp,Im t]] w λe w'=>e=.returned (.tuple #[])/\
  ∃vs' kJ lq,jT B w' L s (zX l) vs' kJ lq/\jV L w vs vb vl w' vs' kJ lq:=by
 have hne:l.jI≠[]:=λe=>by rw[e]at hbl;simp at hbl
 obtain⟨g,cap,init,bb,hvb,hb,htop,uQ,hBg,hgw,Af,Eo,b0,b1,b2,b3,hf⟩:=h.inner hne;subst hvb;have hn:l.jI.length=init.length+1:=by rw[hb];simp
 rw[hn]at h⊢;have HI:Hid (∀o,Calls prog 168 #[Pt L 0] (w.alloc o) λe w'=>e=.returned (Pt g (init.length * 4))/\∃k,w'=(w.alloc o).drewN k):=λo=>
  BI L g init.length cap (w.alloc o) (h.alloc o).c3 (by omega)
 have HC:Hid (∀o o2 k,Calls prog 169 #[Pt L 0] (((w.alloc o).drewN k).alloc o2) λe w'=>e=.returned (.tuple #[])/\
  ∃vs' kJ,jT B w' L s (zX l) vs' kJ vl/\jV L w vs (.slice (some (Ad g 0)) (init.length+1) cap) vl w' vs' kJ vl):=λo o2 k=>by
  refine(aje (((h.alloc o).drewN k).alloc o2) hne (by omega) hls).mono ?_;rintro e w' ⟨h1,vs',kJ,h2,h3⟩;exact⟨h1,vs',kJ,h2,(jV.grow L w _ _ _ (ah w o none)).trans ((jV.grow L _ _ _ _ (lH _ k)).trans (jV.trans (jV.grow L _ _ _ _ (ah _ o2 none)) h3))⟩
 have c3:=h.c3;have hL:=h.lt;have n1:¬L=w.heap.size:=by omega
 have n2:¬g=w.heap.size:=by omega
 have n3:¬L=w.heap.size+1:=by omega
 have n4:¬g=w.heap.size+1:=by omega
 have hone:(((init.length:Int)+1)==1)=true:=by simp;omega
 clear h hf hne hb htop hn hbl;generalize zX l=l2 at *;generalize init.length=n at *;go_enter func116,ntmps116;go_wp2_with fail;refine(HI.out _).mono ?_;rintro e w1 ⟨rfl,k,rfl⟩;go_wp2_with fail;refine(HC.out _ _ _).mono ?_;rintro e w2 ⟨rfl,vs',kJ,h1,h2⟩;go_wp2;go_end0;exact⟨rfl,_,_,_,h1,h2⟩
theorem ajo(h:jT B w L s l vs vb vl)(hbl:2<=l.jI.length)(hlb:l.jI.length<=900000)(p:Nat)(sp:St)(hst:l.jC[p]? =some sp)(hop:l.top.opener=p)(hsp:sp.op=4)(yt:List Int)(x:Int)(hx:l.jY=yt++[x])(hll:l.jY.length<=900000)(hls:l.jC.length<=900000)(q a b c d dp t:Int):
 Calls prog 116 #[Pt L 0,.agg #[.int .u8 q,Im a,Im b,Im c,Im d,Im dp,Im t]] w λe w'=>e=.returned (.tuple #[])/\
  ∃vs' kJ lq,jT B w' L s (zY l ⟨q,a,b,c,d,dp,t⟩ p sp) vs' kJ lq/\jV L w vs vb vl w' vs' kJ lq:=by
 have hne:l.jI≠[]:=λe=>by rw[e]at hbl;simp at hbl
 obtain⟨g,cap,init,bb,hvb,hb,htop,uQ,hBg,hgw,Af,Eo,b0,b1,b2,b3,hf⟩:=h.inner hne;subst hvb;have hn:l.jI.length=init.length+1:=by rw[hb];simp
 rw[hn]at h⊢;have HI:Hid (∀o,Calls prog 168 #[Pt L 0] (w.alloc o) λe w'=>e=.returned (Pt g (init.length * 4))/\∃k,w'=(w.alloc o).drewN k):=λo=>
  BI L g init.length cap (w.alloc o) (h.alloc o).c3 (by omega)
 have akl:l.jI.length<=900000:=hlb;have HC:Hid (∀o o2 k k2,Calls prog 170 #[Pt L 0,.agg #[.int .u8 q,Im a,Im b,Im c,Im d,Im dp,Im t],Im p] ((((w.alloc o).drewN k).alloc o2).drewN k2) λe w'=>e=.returned (.tuple #[])/\
  ∃vs' kJ lq,jT B w' L s (zY l ⟨q,a,b,c,d,dp,t⟩ p sp) vs' kJ lq/\jV L w vs (.slice (some (Ad g 0)) (init.length+1) cap) vl w' vs' kJ lq):=λo o2 k k2=>by
  refine(ajj ((((h.alloc o).drewN k).alloc o2).drewN k2) hbl hlb hls yt x hx hll p sp hst q a b c d dp t).mono ?_;rintro e w' ⟨h1,vs',kJ,lq,h2,h3⟩;exact⟨h1,vs',kJ,lq,h2,(jV.grow L w _ _ _ (ah w o none)).trans ((jV.grow L _ _ _ _ (lH _ k)).trans ((jV.grow L _ _ _ _ (ah _ o2 none)).trans (jV.trans (jV.grow L _ _ _ _ (lH _ k2)) h3)))⟩
 have c3:=h.c3;have hL:=h.lt;have n1:¬L=w.heap.size:=by omega
 have n2:¬g=w.heap.size:=by omega
 have n3:¬L=w.heap.size+1:=by omega
 have n4:¬g=w.heap.size+1:=by omega
 rw[htop]at hop;rw[hop]at b0;obtain⟨gs,cs,hvs,hgs,zD,hgb,hgl,hps,hat,hfr⟩:=h.BQ hst;subst hvs;have c2:=h.c2;have a0:=hat.1;have n5:¬gs=w.heap.size:=by omega
 have n6:¬gs=w.heap.size+1:=by omega
 have hone:(((init.length:Int)+1)==1)=false:=by simp;omega
 have i0:(0:Int)<=(p:Int):=by omega
 have i1:(p:Int)<(l.jC.length:Int):=by omega
 rw[hsp]at a0;have hl0:=akl;clear h hf hne hb htop hn hbl hat hfr;generalize zY l ⟨q,a,b,c,d,dp,t⟩ p sp=l2 at *;generalize init.length=n at *;go_enter func116,ntmps116;go_wp2_with fail;refine(HI.out _).mono ?_;rintro e w1 ⟨rfl,k,rfl⟩;go_wp2_with fail;refine nJ 10 (by kernel_rfl) (by kernel_rfl) ?_;simp only[aC,aO,aG,aQ];repeat (go_big_quiet_step (fail))
 refine bF ?_;intro _ hw';obtain⟨k2,hw''⟩:=hw';subst hw'';go_wp2_with fail;refine(HC.out _ _ _ _).mono ?_;rintro e w2 ⟨rfl,vs',kJ,lq,h1,h2⟩;go_wp2;go_end0;exact⟨rfl,_,_,_,h1,h2⟩
theorem ajn(h:jT B w L s l vs vb vl)(hbl:2<=l.jI.length)(hlb:l.jI.length<=900000)(p:Nat)(sp:St)(hst:l.jC[p]? =some sp)(hop:l.top.opener=p)(hsp:¬sp.op=4)(r:Nat)(sr:St)(hr:l.jC[r]? =some sr)(hr0:0<r)(ho:l.top.other=r)(q a b c d dp t:Int):
 Calls prog 116 #[Pt L 0,.agg #[.int .u8 q,Im a,Im b,Im c,Im d,Im dp,Im t]] w λe w'=>e=.returned (.tuple #[])/\
  ∃vs' kJ lq,jT B w' L s (tu l r sr l.jI.dropLast l.top) vs' kJ lq/\jV L w vs vb vl w' vs' kJ lq:=by
 have hne:l.jI≠[]:=λe=>by rw[e]at hbl;simp at hbl
 obtain⟨g,cap,init,bb,hvb,hb,htop,uQ,hBg,hgw,Af,Eo,b0,b1,b2,b3,hf⟩:=h.inner hne;subst hvb;have hn:l.jI.length=init.length+1:=by rw[hb];simp
 rw[hn]at h⊢;have HI:Hid (∀o,Calls prog 168 #[Pt L 0] (w.alloc o) λe w'=>e=.returned (Pt g (init.length * 4))/\∃k,w'=(w.alloc o).drewN k):=λo=>
  BI L g init.length cap (w.alloc o) (h.alloc o).c3 (by omega)
 have HC:Hid (∀o o2 k k2,Calls prog 171 #[Pt L 0,.agg #[Im bb.opener,Im bb.other,Im bb.jD,Im bb.before]] ((((w.alloc o).drewN k).alloc o2).drewN k2) λe w'=>e=.returned (.tuple #[])/\
  ∃kJ,jT B w' L s (tu l r sr l.jI.dropLast l.top) vs kJ vl/\jV L w vs (.slice (some (Ad g 0)) (init.length+1) cap) vl w' vs kJ vl):=λo o2 k k2=>by
  have e1:l.jI.dropLast=init:=by rw[hb];simp
  have hin:init≠[]:=λe=>by rw[e]at hn;simp at hn;omega
  rw[e1,htop];refine(aji ((((h.alloc o).drewN k).alloc o2).drewN k2) init bb hb hin hlb r sr hr hr0 (by rw[<-htop];exact ho)).mono ?_;rintro e w' ⟨h1,kJ,h2,h3⟩;exact⟨h1,kJ,h2,(jV.grow L w _ _ _ (ah w o none)).trans ((jV.grow L _ _ _ _ (lH _ k)).trans ((jV.grow L _ _ _ _ (ah _ o2 none)).trans (jV.trans (jV.grow L _ _ _ _ (lH _ k2)) h3)))⟩
 have c3:=h.c3;have hL:=h.lt;have n1:¬L=w.heap.size:=by omega
 have n2:¬g=w.heap.size:=by omega
 have n3:¬L=w.heap.size+1:=by omega
 have n4:¬g=w.heap.size+1:=by omega
 rw[htop]at hop;rw[hop]at b0 HC;obtain⟨gs,cs,hvs,hgs,zD,hgb,hgl,hps,hat,hfr⟩:=h.BQ hst;subst hvs;have c2:=h.c2;have a0:=hat.1;have n5:¬gs=w.heap.size:=by omega
 have n6:¬gs=w.heap.size+1:=by omega
 have hone:(((init.length:Int)+1)==1)=false:=by simp;omega
 have i0:(0:Int)<=(p:Int):=by omega
 have i1:(p:Int)<(l.jC.length:Int):=by omega
 have hsp':(sp.op==4)=false:=by simpa using hsp
 clear h hf hne hb htop hn hbl hat hfr;generalize tu l r sr l.jI.dropLast l.top=l2 at *;generalize init.length=n at *;go_enter func116,ntmps116;go_wp2_with fail;refine(HI.out _).mono ?_;rintro e w1 ⟨rfl,k,rfl⟩;go_wp2_with fail;refine nJ 10 (by kernel_rfl) (by kernel_rfl) ?_;simp only[aC,aO,aG,aQ];repeat (go_big_quiet_step (fail))
 refine bF ?_;intro _ hw';obtain⟨k2,hw''⟩:=hw';subst hw'';go_wp2_with fail;refine(HC.out _ _ _ _).mono ?_;rintro e w2 ⟨rfl,kJ,h1,h2⟩;go_wp2;go_end0;exact⟨rfl,_,_,_,h1,h2⟩
theorem ajm(h:jT B w L s l vs vb vl)(hbl:2<=l.jI.length)(hlb:l.jI.length<=900000)(p:Nat)(sp:St)(hst:l.jC[p]? =some sp)(hop:l.top.opener=p)(hsp:¬sp.op=4)(ho:¬0<l.top.other)(q a b c d dp t:Int):
 Calls prog 116 #[Pt L 0,.agg #[.int .u8 q,Im a,Im b,Im c,Im d,Im dp,Im t]] w λe w'=>e=.returned (.tuple #[])/\
  ∃vs' kJ lq,jT B w' L s (tu l p sp l.jI.dropLast l.top) vs' kJ lq/\jV L w vs vb vl w' vs' kJ lq:=by
 have hne:l.jI≠[]:=λe=>by rw[e]at hbl;simp at hbl
 obtain⟨g,cap,init,bb,hvb,hb,htop,uQ,hBg,hgw,Af,Eo,b0,b1,b2,b3,hf⟩:=h.inner hne;subst hvb;have hn:l.jI.length=init.length+1:=by rw[hb];simp
 rw[hn]at h⊢;have HI:Hid (∀o,Calls prog 168 #[Pt L 0] (w.alloc o) λe w'=>e=.returned (Pt g (init.length * 4))/\∃k,w'=(w.alloc o).drewN k):=λo=>
  BI L g init.length cap (w.alloc o) (h.alloc o).c3 (by omega)
 have HC:Hid (∀o o2 k k2,Calls prog 171 #[Pt L 0,.agg #[Im bb.opener,Im bb.other,Im bb.jD,Im bb.before]] ((((w.alloc o).drewN k).alloc o2).drewN k2) λe w'=>e=.returned (.tuple #[])/\
  ∃kJ,jT B w' L s (tu l p sp l.jI.dropLast l.top) vs kJ vl/\jV L w vs (.slice (some (Ad g 0)) (init.length+1) cap) vl w' vs kJ vl):=λo o2 k k2=>by
  have e1:l.jI.dropLast=init:=by rw[hb];simp
  have hin:init≠[]:=λe=>by rw[e]at hn;simp at hn;omega
  rw[e1,htop];refine(ajh ((((h.alloc o).drewN k).alloc o2).drewN k2) init bb hb hin hlb p sp hst (by rw[<-htop];exact ho) (by rw[<-htop];exact hop)).mono ?_;rintro e w' ⟨h1,kJ,h2,h3⟩;exact⟨h1,kJ,h2,(jV.grow L w _ _ _ (ah w o none)).trans ((jV.grow L _ _ _ _ (lH _ k)).trans ((jV.grow L _ _ _ _ (ah _ o2 none)).trans (jV.trans (jV.grow L _ _ _ _ (lH _ k2)) h3)))⟩
 have c3:=h.c3;have hL:=h.lt;have n1:¬L=w.heap.size:=by omega
 have n2:¬g=w.heap.size:=by omega
 have n3:¬L=w.heap.size+1:=by omega
 have n4:¬g=w.heap.size+1:=by omega
 rw[htop]at hop;rw[hop]at b0 HC;obtain⟨gs,cs,hvs,hgs,zD,hgb,hgl,hps,hat,hfr⟩:=h.BQ hst;subst hvs;have c2:=h.c2;have a0:=hat.1;have n5:¬gs=w.heap.size:=by omega
 have n6:¬gs=w.heap.size+1:=by omega
 have hone:(((init.length:Int)+1)==1)=false:=by simp;omega
 have i0:(0:Int)<=(p:Int):=by omega
 have i1:(p:Int)<(l.jC.length:Int):=by omega
 have hsp':(sp.op==4)=false:=by simpa using hsp
 clear h hf hne hb htop hn hbl hat hfr;generalize tu l p sp l.jI.dropLast l.top=l2 at *;generalize init.length=n at *;go_enter func116,ntmps116;go_wp2_with fail;refine(HI.out _).mono ?_;rintro e w1 ⟨rfl,k,rfl⟩;go_wp2_with fail;refine nJ 10 (by kernel_rfl) (by kernel_rfl) ?_;simp only[aC,aO,aG,aQ];repeat (go_big_quiet_step (fail))
 refine bF ?_;intro _ hw';obtain⟨k2,hw''⟩:=hw';subst hw'';go_wp2_with fail;refine(HC.out _ _ _ _).mono ?_;rintro e w2 ⟨rfl,kJ,h1,h2⟩;go_wp2;go_end0;exact⟨rfl,_,_,_,h1,h2⟩
theorem ain(init:List Bk)(b:Bk)(j:Nat)(u:jr)(b':Bk)(hj:j<4)(h:(rH b).set j u=rH b'):((init++[b]).flatMap rH).set (init.length * 4+j) u=(init++[b']).flatMap rH:=by
 simp only[gu,c8,dJ,aX];rw[iC _ _ (by rw[He];omega),He,show init.length * 4+j-4 * init.length=j by omega,h]
theorem jT.Wi{g n cap:Nat}(h:jT B w L s l vs (.slice (some (Ad g 0)) n cap) vl){init:List Bk}{b:Bk}(hb:l.jI=init++[b])(hn:n=l.jI.length)(j:Nat)(u:jr)(b':Bk)(hj:j<4)(hu:(rH b).set j u=rH b'):
 jT B (w.setCell (Ad g (init.length * 4+j)) u) L s {l with jI:=init++[b']} vs (.slice (some (Ad g 0)) n cap) vl/\
 jV L w vs (.slice (some (Ad g 0)) n cap) vl (w.setCell (Ad g (init.length * 4+j)) u) vs (.slice (some (Ad g 0)) n cap) vl:=by
 have uQ:¬g=L:=λe=>h.nb (by rw[<-e];rfl);have hc:∀k,(w.setCell (Ad g (init.length * 4+j)) u).cell? (Ad L k)=w.cell? (Ad L k):=λk=>bG _ _ _ _ (by intro e;cases e;exact uQ rfl);have hrow:=h.jI;subst hn;have hst:=hrow.stored (init.length * 4+j) u;rw[show(l.jI.flatMap rH).set (init.length * 4+j) u=(init++[b']).flatMap rH by rw[hb];exact ain init b j u b' hj hu]at hst;have hlen:l.jI.length=(init++[b']).length:=by rw[hb];simp
 refine⟨⟨h.bL,by rw[hc];exact h.c0,by rw[hc];exact h.c1,by rw[hc];exact h.c2,by rw[hc];exact h.c3,by rw[hc];exact h.c4,by rw[hc];exact h.c5,by rw[hc];exact h.c6,by rw[hc];exact h.c7,λj=>by rw[dX];exact h.fr j,
  h.jC.kept hst.2 (by rcases h.sb with e|e
                      .exact ji e
                      .exact jh e),?_,h.jY.kept hst.2 ?_,h.ns,h.nb,h.nl,h.sb,h.sl,h.bl⟩,?_⟩
 .have:=hst.1;rw[hlen]at this⊢;exact this
 .rcases h.bl with e|e
  .cases e
  .exact jh (λe'=>e e'.symm)
 .exact⟨rfl,rfl,rfl,by simp,λk _ _ _ h2 _=>bC _ _ _ _ (λe=>h2 (by rw[e];rfl)),λ_ h=>ji h,λ_ h=>ji h,λ_ h=>ji h⟩
theorem ai3(h:jT B w L s l vs vb vl)(hbl:l.jI.length=1)(q a b c d dp t:Int):
 Calls prog 115 #[Pt L 0,.agg #[.int .u8 q,Im a,Im b,Im c,Im d,Im dp,Im t]] w λe w'=>e=.returned (.tuple #[])/\
  jT B w' L s {l with bad:=true} vs vb vl/\jV L w vs vb vl w' vs vb vl:=by
 have hne:l.jI≠[]:=λe=>by rw[e]at hbl;simp at hbl
 obtain⟨g,cap,init,bb,hvb,hb,htop,uQ,hBg,hgw,Af,Eo,b0,b1,b2,b3,hf⟩:=h.inner hne;subst hvb;have hn:l.jI.length=init.length+1:=by rw[hb];simp
 rw[hn]at h⊢;have HI:Hid (∀o,Calls prog 168 #[Pt L 0] (w.alloc o) λe w'=>e=.returned (Pt g (init.length * 4))/\∃k,w'=(w.alloc o).drewN k):=λo=>
  BI L g init.length cap (w.alloc o) (h.alloc o).c3 (by omega)
 have HP:Hid (∀o k,jT B (((w.setCell (Ad L 7) (.bool true)).alloc o).drewN k) L s {l with bad:=true} vs (.slice (some (Ad g 0)) (init.length+1) cap) vl/\
  jV L w vs (.slice (some (Ad g 0)) (init.length+1) cap) vl (((w.setCell (Ad L 7) (.bool true)).alloc o).drewN k) vs (.slice (some (Ad g 0)) (init.length+1) cap) vl):=λo k=>
  ⟨(h.Ir.alloc o).drewN k,(jV.own L w _ _ _ 7 (.bool true)).trans ((jV.grow L _ _ _ _ (ah _ o none)).trans (jV.grow L _ _ _ _ (lH _ k)))⟩
 have c3:=h.c3;have c7:=h.c7;have f7:=h.fr 7;have hL:=h.lt;have n1:¬L=w.heap.size:=by omega
 have n2:¬g=w.heap.size:=by omega
 have hone:(((init.length:Int)+1)==1)=true:=by simp;omega
 clear h hf hne hb htop hn hbl;generalize ({l with bad:=true}:Ls)=l2 at *;generalize init.length=n at *;go_enter func115,ntmps115;go_wp2_with fail;refine(HI.out _).mono ?_;rintro e w1 ⟨rfl,k,rfl⟩;go_wp2_with fail;refine BR 26 (by kernel_rfl) (by kernel_rfl) ?_;simp only[aC,aO,aG,aQ];repeat (go_big_quiet_step (fail))
 refine bF ?_;intro _ hw';obtain⟨k2,hw''⟩:=hw';subst hw'';go_wp2;exact cu (v:=.tuple #[]) (by simp[results,Tryz.results115,go_sem]) rfl ⟨rfl,HP.out _ _⟩
theorem ai4(h:jT B w L s l vs vb vl)(hbl:2<=l.jI.length)(hlb:l.jI.length<=900000)(ho:0<l.top.other)(q a b c d dp t:Int):
 Calls prog 115 #[Pt L 0,.agg #[.int .u8 q,Im a,Im b,Im c,Im d,Im dp,Im t]] w λe w'=>e=.returned (.tuple #[])/\
  jT B w' L s {l with bad:=true} vs vb vl/\jV L w vs vb vl w' vs vb vl:=by
 have hne:l.jI≠[]:=λe=>by rw[e]at hbl;simp at hbl
 obtain⟨g,cap,init,bb,hvb,hb,htop,uQ,hBg,hgw,Af,Eo,b0,b1,b2,b3,hf⟩:=h.inner hne;subst hvb;have hn:l.jI.length=init.length+1:=by rw[hb];simp
 rw[hn]at h⊢;have HI:Hid (∀o,Calls prog 168 #[Pt L 0] (w.alloc o) λe w'=>e=.returned (Pt g (init.length * 4))/\∃k,w'=(w.alloc o).drewN k):=λo=>
  BI L g init.length cap (w.alloc o) (h.alloc o).c3 (by omega)
 have HP:Hid (∀o k,jT B (((w.setCell (Ad L 7) (.bool true)).alloc o).drewN k) L s {l with bad:=true} vs (.slice (some (Ad g 0)) (init.length+1) cap) vl/\
  jV L w vs (.slice (some (Ad g 0)) (init.length+1) cap) vl (((w.setCell (Ad L 7) (.bool true)).alloc o).drewN k) vs (.slice (some (Ad g 0)) (init.length+1) cap) vl):=λo k=>
  ⟨(h.Ir.alloc o).drewN k,(jV.own L w _ _ _ 7 (.bool true)).trans ((jV.grow L _ _ _ _ (ah _ o none)).trans (jV.grow L _ _ _ _ (lH _ k)))⟩
 have c3:=h.c3;have c7:=h.c7;have f7:=h.fr 7;have hL:=h.lt;have n1:¬L=w.heap.size:=by omega
 have n2:¬g=w.heap.size:=by omega
 have hone:(((init.length:Int)+1)==1)=false:=by simp;omega
 rw[htop]at ho;have ho':decide (0<bb.other)=true:=by simpa using ho
 clear h hf hne hb htop hn hbl;generalize ({l with bad:=true}:Ls)=l2 at *;generalize init.length=n at *;go_enter func115,ntmps115;go_wp2_with fail;refine(HI.out _).mono ?_;rintro e w1 ⟨rfl,k,rfl⟩;go_wp2_with fail;refine BR 26 (by kernel_rfl) (by kernel_rfl) ?_;simp only[aC,aO,aG,aQ];repeat (go_big_quiet_step (fail))
 refine bF ?_;intro _ hw';obtain⟨k2,hw''⟩:=hw';subst hw'';go_wp2;exact cu (v:=.tuple #[]) (by simp[results,Tryz.results115,go_sem]) rfl ⟨rfl,HP.out _ _⟩
theorem ai5(h:jT B w L s l vs vb vl)(hbl:2<=l.jI.length)(hlb:l.jI.length<=900000)(ho:¬0<l.top.other)(p:Nat)(sp:St)(hst:l.jC[p]? =some sp)(hop:l.top.opener=p)(hsp:¬sp.op=2)(q a b c d dp t:Int):
 Calls prog 115 #[Pt L 0,.agg #[.int .u8 q,Im a,Im b,Im c,Im d,Im dp,Im t]] w λe w'=>e=.returned (.tuple #[])/\
  jT B w' L s {l with bad:=true} vs vb vl/\jV L w vs vb vl w' vs vb vl:=by
 have hne:l.jI≠[]:=λe=>by rw[e]at hbl;simp at hbl
 obtain⟨g,cap,init,bb,hvb,hb,htop,uQ,hBg,hgw,Af,Eo,b0,b1,b2,b3,hf⟩:=h.inner hne;subst hvb;have hn:l.jI.length=init.length+1:=by rw[hb];simp
 rw[hn]at h⊢;have HI:Hid (∀o,Calls prog 168 #[Pt L 0] (w.alloc o) λe w'=>e=.returned (Pt g (init.length * 4))/\∃k,w'=(w.alloc o).drewN k):=λo=>
  BI L g init.length cap (w.alloc o) (h.alloc o).c3 (by omega)
 have HP:Hid (∀o k,jT B (((w.setCell (Ad L 7) (.bool true)).alloc o).drewN k) L s {l with bad:=true} vs (.slice (some (Ad g 0)) (init.length+1) cap) vl/\
  jV L w vs (.slice (some (Ad g 0)) (init.length+1) cap) vl (((w.setCell (Ad L 7) (.bool true)).alloc o).drewN k) vs (.slice (some (Ad g 0)) (init.length+1) cap) vl):=λo k=>
  ⟨(h.Ir.alloc o).drewN k,(jV.own L w _ _ _ 7 (.bool true)).trans ((jV.grow L _ _ _ _ (ah _ o none)).trans (jV.grow L _ _ _ _ (lH _ k)))⟩
 have c3:=h.c3;have c7:=h.c7;have f7:=h.fr 7;have hL:=h.lt;have n1:¬L=w.heap.size:=by omega
 have n2:¬g=w.heap.size:=by omega
 obtain⟨gs,cs,hvs,hgs,zD,hgb,hgl,hps,hat,hfr⟩:=h.BQ hst;subst hvs;have c2:=h.c2;have a0:=hat.1;have n5:¬gs=w.heap.size:=by omega
 rw[htop]at hop ho;rw[hop]at b0;have i0:(0:Int)<=(p:Int):=by omega
 have i1:(p:Int)<(l.jC.length:Int):=by omega
 have hone:(((init.length:Int)+1)==1)=false:=by simp;omega
 have ho':decide (0<bb.other)=false:=by simpa using ho
 have hsp':(sp.op==2)=false:=by simpa using hsp
 clear h hf hne hb htop hn hbl hat hfr;generalize ({l with bad:=true}:Ls)=l2 at *;generalize init.length=n at *;go_enter func115,ntmps115;go_wp2_with fail;refine(HI.out _).mono ?_;rintro e w1 ⟨rfl,k,rfl⟩;go_wp2_with fail;refine BR 26 (by kernel_rfl) (by kernel_rfl) ?_;simp only[aC,aO,aG,aQ];repeat (go_big_quiet_step (fail))
 refine bF ?_;intro _ hw';obtain⟨k2,hw''⟩:=hw';subst hw'';go_wp2;exact cu (v:=.tuple #[]) (by simp[results,Tryz.results115,go_sem]) rfl ⟨rfl,HP.out _ _⟩
theorem ai1(h:jT B w L s l vs vb vl)(hbl:2<=l.jI.length)(hlb:l.jI.length<=900000)(hls:l.jC.length<=900000)(ho:¬0<l.top.other)(p:Nat)(sp:St)(hst:l.jC[p]? =some sp)(hop:l.top.opener=p)(hsp:sp.op=2)(q a b c d dp t:Int):
 Calls prog 115 #[Pt L 0,.agg #[.int .u8 q,Im a,Im b,Im c,Im d,Im dp,Im t]] w λe w'=>e=.returned (.tuple #[])/\
  ∃vs' kJ lq,jT B w' L s (Ea l ⟨q,a,b,c,d,dp,t⟩ p sp) vs' kJ lq/\jV L w vs vb vl w' vs' kJ lq:=by
 have hne:l.jI≠[]:=λe=>by rw[e]at hbl;simp at hbl
 obtain⟨g,cap,init,bb,hvb,hb,htop,uQ,hBg,hgw,Af,Eo,b0,b1,b2,b3,hf⟩:=h.inner hne;subst hvb;have hn:l.jI.length=init.length+1:=by rw[hb];simp
 rw[hn]at h⊢;have HI:Hid (∀o,Calls prog 168 #[Pt L 0] (w.alloc o) λe w'=>e=.returned (Pt g (init.length * 4))/\∃k,w'=(w.alloc o).drewN k):=λo=>
  BI L g init.length cap (w.alloc o) (h.alloc o).c3 (by omega)
 have HA:Hid (∀o k,Calls prog 118 #[Pt L 0,.agg #[.int .u8 q,Im a,Im b,Im c,Im d,Im dp,Im t]] ((w.alloc o).drewN k) λe w'=>e=.returned (.tuple #[])/\
  ∃vs',jT B w' L s (mF l ⟨q,a,b,c,d,dp,t⟩) vs' (.slice (some (Ad g 0)) (init.length+1) cap) vl/\jV L w vs (.slice (some (Ad g 0)) (init.length+1) cap) vl w' vs' (.slice (some (Ad g 0)) (init.length+1) cap) vl):=λo k=>by
  refine(Ja ((h.alloc o).drewN k) hne (by omega) (by omega) q a b c d dp t).mono ?_;rintro e w' ⟨h1,vs',h2,h3⟩;exact⟨h1,vs',h2,(jV.grow L w _ _ _ (ah w o none)).trans (jV.trans (jV.grow L _ _ _ _ (lH _ k)) h3)⟩
 obtain⟨gs,cs,hvs,hgs,zD,hgb,hgl,hps,hat,hfr⟩:=h.BQ hst;subst hvs;have HB:Hid ((mF l ⟨q,a,b,c,d,dp,t⟩).jI.length=init.length+1):=(Oj l _ hne).trans hn;have HT:Hid ((mF l ⟨q,a,b,c,d,dp,t⟩).top.opener=p):=by
  rw[aho];exact hop
 have HS:Hid ((mF l ⟨q,a,b,c,d,dp,t⟩).jC[p]? =some sp):=by
  rw[KZ,aT hps];exact hst
 have HN:Hid ((mF l ⟨q,a,b,c,d,dp,t⟩).jC.length=l.jC.length+1):=by
  show _=_;rw[KZ];simp
 have HE:Hid (Ea l ⟨q,a,b,c,d,dp,t⟩ p sp=FP (mF l ⟨q,a,b,c,d,dp,t⟩) l.jC.length p sp):=rfl;rw[HE.out];clear HE;generalize mF l ⟨q,a,b,c,d,dp,t⟩=l1 at *;have c2:=h.c2;have c3:=h.c3;have hL:=h.lt;have a0:=hat.1;rw[htop]at hop ho;rw[hop]at b0;rw[hsp]at a0;have n1:¬L=w.heap.size:=by omega
 have n2:¬g=w.heap.size:=by omega
 have n5:¬gs=w.heap.size:=by omega
 have i0:(0:Int)<=(p:Int):=by omega
 have i1:(p:Int)<(l.jC.length:Int):=by omega
 have hone:(((init.length:Int)+1)==1)=false:=by simp;omega
 have ho':decide (0<bb.other)=false:=by simpa using ho
 have RX:Hid (init.length<=900000):=by show _<=_;omega
 clear h hf hne hb htop hn hbl hat hfr hst;generalize l.jC.length=ns at *;go_enter func115,ntmps115;go_wp2_with fail;refine(HI.out _).mono ?_;rintro e w1 ⟨rfl,k,rfl⟩;go_wp2_with fail;refine BR 26 (by kernel_rfl) (by kernel_rfl) ?_;simp only[aC,aO,aG,aQ];repeat (go_big_quiet_step (fail))
 refine bF ?_;intro _ hw';obtain⟨k2,hw''⟩:=hw';subst hw'';go_wp2_with fail;refine(HA.out _ _).mono ?_;rintro e w1 ⟨rfl,vs1,h1,m1⟩;clear b0 b1 b2 b3 a0 c2 c3 hgs zD hgb hgl n5 Af;obtain⟨gs1,cs1,hvs,hgs,zD,hgb,hgl,hps1,hat,hfr⟩:=h1.BQ HS.out;subst hvs;obtain⟨g',cap',init',b',hvb,hb,htop,_,_,hgw1,Af,Eo,b0,b1,b2,b3,hf⟩:=h1.inner (λe=>by have:=HB.out;rw[e]at this;simp at this);have hn:l1.jI.length=init'.length+1:=by rw[hb];simp
 have hii:init'.length=init.length:=by have:=HB.out;omega
 obtain⟨hg',hcap'⟩:g'=g/\cap'=cap:=by
  have:=hvb;simp only[Value.slice.injEq,bJ,Addr.mk.injEq]at this;exact⟨this.1.1.symm,this.2.2.symm⟩
 subst hg';subst hcap';clear hvb;have hop1:b'.opener=p:=by rw[<-htop];exact HT.out
 have HP:Hid (∀k,jT B (((((w1.setCell (Ad g' (init'.length * 4+1)) (Im ns)).setCell (Ad g' (init'.length * 4+3)) (Im b'.jD)).setCell (Ad g' (init'.length * 4+2)) (Im 0)).setCell (Ad gs1 (p * 7+6)) (Im l1.jC.length)).drewN k) L s (FP l1 ns p sp) (.slice (some (Ad gs1 0)) l1.jC.length cs1) (.slice (some (Ad g' 0)) (init.length+1) cap') vl/\
  jV L w (.slice (some (Ad gs 0)) ns cs) (.slice (some (Ad g' 0)) (init.length+1) cap') vl (((((w1.setCell (Ad g' (init'.length * 4+1)) (Im ns)).setCell (Ad g' (init'.length * 4+3)) (Im b'.jD)).setCell (Ad g' (init'.length * 4+2)) (Im 0)).setCell (Ad gs1 (p * 7+6)) (Im l1.jC.length)).drewN k) (.slice (some (Ad gs1 0)) l1.jC.length cs1) (.slice (some (Ad g' 0)) (init.length+1) cap') vl):=λk=>by
  obtain⟨h2,m2⟩:=h1.Wi hb (by omega) 1 (Im ns) ⟨b'.opener,ns,b'.jD,b'.before⟩ (by omega) rfl;obtain⟨h3,m3⟩:=h2.Wi (init:=init') (b:=⟨b'.opener,ns,b'.jD,b'.before⟩) rfl (by simp;omega) 3 (Im b'.jD) ⟨b'.opener,ns,b'.jD,b'.jD⟩ (by omega) rfl;obtain⟨h4,m4⟩:=h3.Wi (init:=init') (b:=⟨b'.opener,ns,b'.jD,b'.jD⟩) rfl (by simp;omega) 2 (Im 0) ⟨b'.opener,ns,0,b'.jD⟩ (by omega) rfl;obtain⟨h5,m5⟩:=h4.QK HS.out (l1.jC.length:Int);have e1:l1.jI.dropLast=init':=by rw[hb];simp
  unfold FP;rw[e1,htop];exact⟨h5.drewN k,m1.trans (m2.trans (m3.trans (m4.trans (m5.trans (jV.grow L _ _ _ _ (lH _ k))))))⟩
 have c2:=h1.c2;have f1:=hf (init'.length * 4+1);have f2:=hf (init'.length * 4+2);have f3:=hf (init'.length * 4+3);have f6:=hfr (p * 7+6);have a6:=hat.2.2.2.2.2.2;have hgg:¬gs1=g':=λe=>Af (by rw[<-e];rfl);have hgg':¬g'=gs1:=λe=>hgg e.symm;have asn:¬L=g':=λe=>uQ e.symm;have aso:¬L=gs1:=λe=>zD e.symm;rw[hop1]at b0;rw[hii]at b0 b1 b2 b3 f1 f2 f3 HP;rw[HN.out]at HP c2;clear h1 m1 hb htop hf hfr hat hn HA HB HS HT HI Af;generalize hgn:init.length=n at *;have HJ:=jB hgn;clear hgn;have j1:(p:Int)<((ns:Int)+1):=by omega
 have hwr:IntKind.i64.wrap (ns:Int)=(ns:Int):=by rw[IntKind.wrap_i64];omega
 go_wp2_with fail;refine nJ 15 (by kernel_rfl) (by kernel_rfl) ?_;simp only[aC,aO,aG,aQ];repeat (go_big_quiet_step (fail))
 refine bF ?_;intro _ hw';obtain⟨k4,hw''⟩:=hw';subst hw'';go_wp2;go_end0;have hm:=(HP.out k4).1;have hv:=(HP.out k4).2;rw[HJ.out];exact⟨rfl,_,_,_,hm,hv⟩
end
theorem L6(w:jo)(o1 o2:Obj):((w.alloc o1).alloc o2).heap[w.heap.size+1]? =some o2/\((w.alloc o1).alloc o2).heap[w.heap.size]? =some o1:=by
 have e:(w.alloc o1).heap.size=w.heap.size+1:=by simp
 constructor
 .rw[<-e];exact aY _ _
 .have h:=(ah (w.alloc o1) o2 none).block w.heap.size (by rw[e];omega) (by simp);rw[h];exact aY _ _
theorem anj(w:jo)(s:jm):
 Calls prog 71 #[.string s] w λe w'=>∃L,e=.returned (Pt L 0)/\w.heap.size<=L/\w.grownBy w' none/\
  ∃g cap,jT w.heap.size w' L s tC (Nl) (.slice (some (Ad g 0)) 1 cap) (Nl):=by
 have HP:Hid (∀o1 o2,o1=Obj.cells #[Im 0,Im 0,Im 0,Im 0] 226->
  o2=Obj.cells #[.string s,Im 0,Nl,.slice (some (Ad w.heap.size 0)) 1 1,Nl,Im 8,Im 0,.bool false] 151->
  jT w.heap.size ((w.alloc o1).alloc o2) (w.heap.size+1) s tC (Nl) (.slice (some (Ad w.heap.size 0)) 1 1) (Nl)):=by
  intro o1 o2 h1 h2;obtain⟨g1,g2⟩:=L6 w o1 o2;generalize (w.alloc o1).alloc o2=w2 at *;subst h1;subst h2;have hc:∀j,j<8->w2.cell? (Ad (w.heap.size+1) j)=(#[Value.string s,Im 0,Nl,.slice (some (Ad w.heap.size 0)) 1 1,Nl,Im 8,Im 0,.bool false]:Array jr)[j]? :=λj _=>by
   simp[World.cell?,g1]
  refine⟨by omega,hc 0 (by omega),hc 1 (by omega),hc 2 (by omega),hc 3 (by omega),hc 4 (by omega),hc 5 (by omega),hc 6 (by omega),hc 7 (by omega),λj=>?_,⟨rfl,ji ⟨rfl,rfl⟩⟩,⟨rfl,jh ⟨_,1,_,rfl,aj _,g2,aj _,by unfold maxLen;omega,rfl,rfl⟩⟩,⟨rfl,ji ⟨rfl,rfl⟩⟩,by simp[Value.ownBlock],by simp[Value.ownBlock],by simp[Value.ownBlock],ji rfl,ji rfl,jh (by simp[Value.ownBlock])⟩;simp[World.frozen?,g1]
 go_enter func71,ntmps71;go_wp2;go_ret;exact⟨_,rfl,by omega,(ah w _ none).trans (ah _ _ none),_,_,HP.out _ _ rfl rfl⟩
section
variable {B:Nat}{w:jo}{L:Nat}{s:jm}{l:Ls}{vs vb vl:jr}
theorem apy(h:jT B w L s l vs vb vl)(hp:l.pos=s.size):
 Calls prog 112 #[Pt L 0] w λe w'=>e=.returned (.tuple #[.agg #[.int .u8 0,Im 0,Im 0,Im 0,Im 0,Im 0,Im 0],.bool false])/\w.grownBy w' none:=by
 have c0:=h.c0;have c1:=h.c1;have hL:=h.lt;rw[hp]at c1;have n1:¬L=w.heap.size:=by omega
 clear h;go_enter func112,ntmps112;go_wp2_with fail;refine nJ 9 (by kernel_rfl) (by kernel_rfl) ?_;simp only[aC,aO,aG,aQ];repeat (go_big_quiet_step (fail))
 refine bF ?_;intro _ hw';obtain⟨k1,hw''⟩:=hw';subst hw'';go_wp2;refine cu (v:=.tuple #[.agg #[.int .u8 0,Im 0,Im 0,Im 0,Im 0,Im 0,Im 0],.bool false]) (by simp[results,Tryz.results112,go_sem]) rfl ?_;exact⟨rfl,(ah w _ none).trans (lH _ k1)⟩
end
end
end Go.Proofs.YthllhabjfchgiaaGreatDoor
