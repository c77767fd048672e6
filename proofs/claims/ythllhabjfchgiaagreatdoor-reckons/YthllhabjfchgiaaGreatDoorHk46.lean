import Derived.Test.YthllhabjfchgiaaGreatDoorHk43
import Derived.Test.YthllhabjfchgiaaGreatDoorShelf2
import Derived.Lib.ItoaNum
import Derived.Lib.Atoi
set_option maxRecDepth 100000
set_option maxHeartbeats 8000000
set_option linter.unusedSimpArgs false
namespace Go.Proofs.YthllhabjfchgiaaGreatDoor
open _root_.Go.Proofs.Tryz
section
open Go.RowKit
open Hx (Rd Pk Vw St Mc jJ Out Ls)
attribute [local go_sem ↓] Go.wp_at_zero Go.wp_at_succ
attribute [local go_sem] kP
section
variable {w w':jk}
theorem ajV(s:ji)(b:Bool)(w:jk):Calls prog 12 #[.string s,.bool b] w λe w'=>e=.returned (.tuple #[.string (zK s b).1,Im (zK s b).2.1,Im (zK s b).2.2])/\w.grownBy w' none:=by
 cases b with
 |true=>exact ajU s w
 |false=>exact ajT s w
theorem aqo(s:ji)(b:Bool)(h:(mO s).2.1=0)(v:Vw)(ar af aa:Option Addr)(nr cr nf cf na ca:Nat)(x0 x1 x2 x3 x4 x5 x6 x7:Int)(hv:yP w.heap.size w ar af aa nr nf na v)(hT:vJ w)(hone:1<w.heap.size)(hx:∀x∈[x0,x1,x2,x3,x4,x5,x6,x7],jJ x):
 Calls prog 26 #[.string s,.bool b,.agg #[.slice ar nr cr,.slice af nf cf,.slice aa na ca],.agg #[Im x0,Im x1,Im x2,Im x3,Im x4,Im x5,Im x6,Im x7]] w λe w'=>∃va,e=.returned (.tuple #[vk (o8 s b v x0 x1 x2 x3 x4 x5 x6 x7).status va (o8 s b v x0 x1 x2 x3 x4 x5 x6 x7).jF,.bool true])/\
  w'.ownsRow w.heap.size 76 2 va (o8 s b v x0 x1 x2 x3 x4 x5 x6 x7).jO.length (sD (o8 s b v x0 x1 x2 x3 x4 x5 x6 x7).jO)/\Below w.heap.size w w':=by
 have ht:=(aqr s h).1 b;have h0:(zK s b).2.1=0:=(ajR s b).trans h;have HC:Hid (∀y,Calls prog 12 #[.string s,.bool b] y λe w'=>e=.returned (.tuple #[.string (zK s b).1,Im 0,Im (zK s b).2.2])/\y.grownBy w' none):=λy=>by
  have:=ajV s b y;rw[h0]at this;exact this
 unfold o8;clear h h0;generalize (zK s b).2.2=ea at *;generalize (zK s b).1=co at *;obtain⟨hl,hbad⟩:=WY ht;have hfin:=Hx.Qc _ hl hbad;have hn0:0<=(mG co.data.toList).jC:=by have:=hfin.jC;omega
 have hn1:(mG co.data.toList).jC<=40000040:=hfin.vS;clear hl hbad hfin;generalize hne:(mG co.data.toList).jC=jC at *;generalize hou:vX v co.data.toList jC x0 x1 x2 x3 x4 x5 x6 x7=ou at *;have HOU:=jA hou;have HNE:=jA hne;clear hou hne;obtain⟨sa,rs,Fh⟩:=ou;obtain⟨z0,z1,z2,z3,z4,z5,z6,z7,Zo⟩:∃z0 z1 z2 z3 z4 z5 z6 z7:Int,Hid (∀va,vk sa va rs=.agg #[.int .u8 sa,va,Im z0,Im z1,Im z2,Im z3,Im z4,Im z5,Im z6,Im z7]):=⟨_,_,_,_,_,_,_,_,λva=>rfl⟩;show Calls _ _ _ _ λe w'=>∃va,e=.returned (.tuple #[vk sa va rs,.bool true])/\w'.ownsRow w.heap.size 76 2 va Fh.length (sD Fh)/\Below w.heap.size w w';simp only[Zo.out];go_enter func26,ntmps26;go_wp2_with fail;refine(HC.out _).mono ?_;rintro e w1 ⟨rfl,g1⟩;have b1:=(ajr w _ _ _).later (Below.Vx g1);clear g1;have HB1:=b1;go_wp2_with fail;refine(amX w1 co).mono ?_;rintro e w2 ⟨hb2,h⟩;obtain⟨C,zM,rfl,hcd⟩:∃C,w1.heap.size<=C/\e=.returned (.tuple #[Pt C 0,Im 0])/\ER w2 C (mG co.data.toList):=by
  rcases h with⟨_,C,h1,h2,h3⟩|⟨ht',_⟩
  .exact⟨C,h1,h2,h3⟩
  .rw[ht]at ht';cases ht'
 have b2:=b1.later hb2;have v0:w2.cell? (Ad w.heap.size 0)=some (.slice ar nr cr):=jI b2.b0;have v1:w2.cell? (Ad w.heap.size 1)=some (.slice af nf cf):=jI b2.b0;have v2:w2.cell? (Ad w.heap.size 2)=some (.slice aa na ca):=jI b2.b0;have y0:w2.cell? (Ad (w.heap.size+1) 0)=some (Im x0):=jI b2.b1;have y1:w2.cell? (Ad (w.heap.size+1) 1)=some (Im x1):=jI b2.b1;have y2:w2.cell? (Ad (w.heap.size+1) 2)=some (Im x2):=jI b2.b1;have y3:w2.cell? (Ad (w.heap.size+1) 3)=some (Im x3):=jI b2.b1;have y4:w2.cell? (Ad (w.heap.size+1) 4)=some (Im x4):=jI b2.b1;have y5:w2.cell? (Ad (w.heap.size+1) 5)=some (Im x5):=jI b2.b1;have y6:w2.cell? (Ad (w.heap.size+1) 6)=some (Im x6):=jI b2.b1;have y7:w2.cell? (Ad (w.heap.size+1) 7)=some (Im x7):=jI b2.b1;have HN:Hid (∀n,Calls prog 17 #[Pt C 0] (w2.drewN n) λe w'=>e=.returned (Im jC)/\w'=w2.drewN n):=λn=>by
  have:=aog (w:=w2.drewN n) (C:=C) (n:=jC) (by rw[bH,<-HNE.out];exact hcd.jC);exact this
 have hbw:Below w.heap.size w w2:=b2.below;have HR:Hid (∀n,Calls prog 16 #[Pt C 0,.agg #[.slice ar nr cr,.slice af nf cf,.slice aa na ca],.agg #[Im x0,Im x1,Im x2,Im x3,Im x4,Im x5,Im x6,Im x7],Im jC] (w2.drewN n) λe w'=>∃a c,e=.returned (.agg #[.int .u8 sa,.slice a Fh.length c,Im z0,Im z1,Im z2,Im z3,Im z4,Im z5,Im z6,Im z7])/\w'.ownsRow w2.heap.size 76 2 (.slice a Fh.length c) Fh.length (sD Fh)/\Below w2.heap.size w2 w'):=λn=>by
  have hd:Below w2.heap.size w2 (w2.drewN n):=⟨rfl,rfl,rfl,aj _,λ_ _=>rfl⟩;have hlt:=b2.lt;refine(arV (w2.drewN n) C co.data.toList ht (hcd.later hd) v ar af aa nr cr nf cf na ca x0 x1 x2 x3 x4 x5 x6 x7 jC (hv.later (hbw.trans (hd.mono (by omega))) (by show _<=w2.heap.size;omega)) (hT.later (hbw.trans (hd.mono (by omega))) hone) (by show 1<w2.heap.size;omega) hx (by omega)).mono ?_;rintro e w' ⟨va,h1,h2,h3⟩;rw[HOU.out]at h1 h2;have h1:e=.returned (vk sa va rs):=h1;rw[Zo.out]at h1;obtain⟨a,c,rfl⟩:=Cm h2;exact⟨a,c,h1,h2,hd.trans h3⟩
 have HB2:Hid (EP w w2 _ _ _):=b2;clear hb2 h hcd b2 b1 HB1 hbw hv hT hx ht HC;go_wp2_with fail;refine nP 5 (by kernel_rfl) (by kernel_rfl) ?_;simp only[aC,aO,aG,aQ];repeat (go_big_quiet_step ((go_at_call 17;exact dN (HN.out _))))
 refine bF ?_;intro _ hw';obtain⟨k3,hw''⟩:=hw';subst hw'';go_wp2_with fail;refine(HR.out _).mono ?_;rintro e w3 ⟨a,c,rfl,hrow,hb3⟩;have b3:=HB2.out.later hb3;have hf:∀j,w3.frozen? (Ad (w.heap.size+1+1) j)=false:=λj=>oQ b3.b2;have hc:∀j,w3.cell? (Ad (w.heap.size+1+1) j)=_:=λj=>jI b3.b2;have r0:=hc 0;have r1:=hc 1;have r2:=hc 2;have r3:=hc 3;have r4:=hc 4;have r5:=hc 5;have r6:=hc 6;have r7:=hc 7;have r8:=hc 8;have r9:=hc 9;have HB3:Hid (EP w w3 _ _ _):=b3;have HS:=jA HB2.out.lt;have HW:=jA hrow;clear b3 hb3 hc hrow HB2 HR HN;go_wp2_with fail;obtain⟨k1,k2⟩:=ase w3 (w.heap.size+1+1) 35 _ _ _ _ _ _ _ _ _ _ (.int .u8 sa) (.slice a Fh.length c) (Im z0) (Im z1) (Im z2) (Im z3) (Im z4) (Im z5) (Im z6) (Im z7) HB3.out.b2;refine cu (v:=.tuple #[.agg #[.int .u8 sa,.slice a Fh.length c,Im z0,Im z1,Im z2,Im z3,Im z4,Im z5,Im z6,Im z7],.bool true]) ?_ rfl ?_
 .exact aqp _ _ (w.heap.size+1+1) _ _ _ _ _ _ _ _ _ _ _ rfl rfl k1
 .refine⟨_,rfl,?_,?_⟩
  .have hs:=HS.out;exact(Qw HW.out (by omega)).kept k2 (apd HW.out (by omega))
  .exact HB3.out.below.trans ⟨k2.os,k2.tape,k2.output,k2.size,λk hk=>k2.block k (by have:=HB3.out.lt;omega) (by simp;omega)⟩
theorem Ov{W:jk}{g:Nat}{T:jo}{v0 v1 v2 v3 v4 v5 v6 v7 v8 v9:jm}(h:W.heap[g]? =some (.cells #[v0,v1,v2,v3,v4,v5,v6,v7,v8,v9] T)):W.cell? (Ad g 0)=some v0/\W.cell? (Ad g 1)=some v1/\W.cell? (Ad g 2)=some v2/\W.cell? (Ad g 3)=some v3/\W.cell? (Ad g 4)=some v4/\W.cell? (Ad g 5)=some v5/\W.cell? (Ad g 6)=some v6/\W.cell? (Ad g 7)=some v7/\W.cell? (Ad g 8)=some v8/\W.cell? (Ad g 9)=some v9:=
 ⟨jI h,jI h,jI h,jI h,jI h,jI h,jI h,jI h,jI h,jI h⟩
theorem aul(b:Bool)(w:jk):Calls prog 25 #[.bool b] w λe w'=>e=.returned (Im (Hx.kW b))/\w'=w:=by
 cases b;all_goals
  go_enter func25,ntmps25;go_wp2;go_ret;exact⟨rfl,rfl⟩
theorem agC{P:Program}{w w':jk}{nm:String}{k:IntKind}{zs:List Int}(h:Lib.TabIs P w nm k zs)(hb:Below w.heap.size w w'):Lib.TabIs P w' nm k zs:=by
 unfold Lib.TabIs World.var? at *;cases hg:P.globalNamed nm with
 |none=>rw[hg]at h;cases h
 |some g=>
  rw[hg]at h;simp only[Option.bind_some]at h⊢;have hlt:g<w.heap.size:=by
   cases he:w.heap[g]?with
   |none=>rw[he]at h;cases h
   |some o=>exact(Array.getElem?_eq_some_iff.1 he).1
  rw[hb.block g hlt];exact h
def Pow(w:jk):Prop:=Lib.TabIs prog w "internal/strconv.uint64pow10" .u64 Lib.pow10Tab
theorem acE(n:Int)(h0: -9223372036854775808<=n)(h1:n<=9223372036854775807)(w:jk)(ht:Pow w):Calls prog 27 #[Im n] w λe w'=>e=.returned (.string ⟨(Lib.itoa n).toArray⟩)/\Below w.heap.size w w':=by
 refine(Tryz.strconv_Itoa n h0 h1 w ht).mono ?_;rintro e w' ⟨rfl,k,os,rfl⟩;refine⟨rfl,⟨rfl,rfl,rfl,?_,λj hj=>?_⟩⟩
 .simp[Sort.grow,World.drewN]
 .simp[Sort.grow,World.drewN,Array.getElem?_append_left hj]
def KW(w:jk)(s:ji)(b:Bool)(x0 x1 x2 x3 x4 x5 x6 x7 z0 z1 z2 z3 z4 z5 z6 z7:Int):Prop:=
 ∀y,Below w.heap.size w y->Calls prog 26 #[.string s,.bool b,.agg #[Nl,Nl,Nl],.agg #[Im x0,Im x1,Im x2,Im x3,Im x4,Im x5,Im x6,Im x7]] y λe w'=>∃a c,e=.returned (.tuple #[.agg #[.int .u8 0,.slice a 0 c,Im z0,Im z1,Im z2,Im z3,Im z4,Im z5,Im z6,Im z7],.bool true])/\Below y.heap.size y w'
theorem qx{W W':jk}{B:Nat}{o:Obj}(h:W.heap[B]? =some o)(hb:Below W.heap.size W W'):W'.heap[B]? =some o:=by
 have:=(Array.getElem?_eq_some_iff.1 h).1;rw[hb.block B this,h]
theorem wH(W:jk)(o:Obj):Below W.heap.size W (W.alloc o):=Below.Vx (ah _ _ none)
theorem ah6(W:jk)(o:Obj):(W.alloc o).heap.size=W.heap.size+1:=eY ..
theorem I4(W:jk)(o:Obj):(W.alloc o).heap[W.heap.size]? =some o:=Array.getElem?_push_size ..
theorem ah7(W:jk)(o p:Obj):((W.alloc o).alloc p).heap[W.heap.size+1]? =some p:=by
 have:=I4 (W.alloc o) p
 rwa [ah6]at this
theorem ZY{B:Nat}{w W W':jk}(h:Below B w W)(hB:B<=W.heap.size)(h':Below W.heap.size W W'):Below B w W':=h.trans (h'.mono hB)
theorem Fp{w W:jk}(h:Below w.heap.size w W)(o:Obj):Below w.heap.size w (W.alloc o):=ZY h h.size (wH W o)
theorem I7{w W W':jk}(h:Below w.heap.size w W)(h':Below W.heap.size W W'):Below w.heap.size w W':=ZY h h.size h'
theorem aap{W:jk}{g:Nat}{T:jo}{v0 v1 v2 v3 v4 v5 v6 v7:jm}(h:W.heap[g]? =some (.cells #[v0,v1,v2,v3,v4,v5,v6,v7] T)):W.cell? (Ad g 0)=some v0/\W.cell? (Ad g 1)=some v1/\W.cell? (Ad g 2)=some v2/\W.cell? (Ad g 3)=some v3/\W.cell? (Ad g 4)=some v4/\W.cell? (Ad g 5)=some v5/\W.cell? (Ad g 6)=some v6/\W.cell? (Ad g 7)=some v7:=
 ⟨jI h,jI h,jI h,jI h,jI h,jI h,jI h,jI h⟩
theorem aqK(a b k c d:Int)(ha: -9223372036854775808<=a/\a<=9223372036854775807)(hk: -9223372036854775808<=k/\k<=9223372036854775807)(hc:0<=c/\c<1000000000000000000)(hd:0<=d/\d<1000000000)(z0 z1 z2 z3 z4 z5 z6 z7 y0 y1 y2 y3 y4 y5 y6 y7:Int)(ns ms:ji)(hns:(⟨(Lib.itoa c).toArray⟩:ji)=ns)(hms:(⟨(Lib.itoa d).toArray⟩:ji)=ms)(abZ:ns.size<=18)(hm18:ms.size<=18)
 (ab2:Pow w)(hpk:Ez k 1000000000000000000=c)(hpa:Ez a 1000000000=d)
 (e0:wrap64 (a+b)=z0)(e1:wrap64 (a-b)=z1)(e2:wrap64 (a * b)=z2)(hz:∃β:Bool,(b==0)=β/\(b !=0)= !β/\(β=false->b≠0)/\z3=(bif β then 0 else wrap64 (a.tdiv b))/\z4=(bif β then 0 else a.tmod b))(e5:wrap64 (-a)=z5)(e6:wrap64 (wrap64 (wrap64 (wrap64 (wrap64 (Hx.kW (decide (a<b))+wrap64 (2 * Hx.kW (decide (a<=b))))+wrap64 (4 * Hx.kW (a==b)))+wrap64 (8 * Hx.kW (decide (b<a))))+wrap64 (16 * Hx.kW (decide (b<=a))))+wrap64 (32 * Hx.kW (a !=b)))=z6)(e7:b=z7)
 (f0:wrap64 (c * d)=y0)(hy:∃β:Bool,(d==5)=β/\(d !=5)= !β/\(β=false->d≠5)/\y1=(bif β then 0 else wrap64 (-c.tdiv (d-5))))(f2:c%7+3=y2)(fr:y3=0/\y4=3/\y5=0/\y6=0/\y7=0)
 (h1:∀s,s=kH->KW w s false a 0 0 0 0 0 0 b z0 z1 z2 z3 z4 z5 z6 z7)(h2:∀s,s=kH->KW w s true a 0 0 0 0 0 0 b z0 z1 z2 z3 z4 z5 z6 z7)
 (h3:∀s,s=(⟨#[82,48,32,61,32]⟩++ns++⟨#[32,42,32]⟩++ms++⟨#[59,32,82,49,32,61,32,45]⟩++ns++⟨#[32,47,32,40]⟩++ms++⟨#[32,45,32,53,41,59,32,82,50,32,61,32]⟩++ns++⟨#[32,37,32,55,32,43,32,49,32,45,32,45,50,59,32,105,102,32,33,40,49,32,60,32,50,32,38,38,32]⟩++ns++⟨#[32,62,61,32,48,41,32,124,124,32,49,32,61,61,32,50,32,123,32,82,51,32,61,32,49,59,32,125,32,101,108,115,101,32,123,32,82,52,32,61,32,51,59,32,125]⟩:ji)->KW w s false 0 0 0 0 0 0 0 0 y0 y1 y2 y3 y4 y5 y6 y7)(h4:∀s,s=(⟨#[82,48,32,61,32]⟩++ns++⟨#[32,42,32]⟩++ms++⟨#[59,32,82,49,32,61,32,45]⟩++ns++⟨#[32,47,32,40]⟩++ms++⟨#[32,45,32,53,41,59,32,82,50,32,61,32]⟩++ns++⟨#[32,37,32,55,32,43,32,49,32,45,32,45,50,59,32,105,102,32,33,40,49,32,60,32,50,32,38,38,32]⟩++ns++⟨#[32,62,61,32,48,41,32,124,124,32,49,32,61,61,32,50,32,123,32,82,51,32,61,32,49,59,32,125,32,101,108,115,101,32,123,32,82,52,32,61,32,51,59,32,125]⟩:ji)->KW w s true 0 0 0 0 0 0 0 0 y0 y1 y2 y3 y4 y5 y6 y7):
 Calls prog 5 #[Im a,Im b,Im k] w λe w'=>e=.returned (.bool true)/\Below w.heap.size w w':=by
 obtain⟨rfl,rfl,rfl,rfl,rfl⟩:=fr;have HA:=jA ha;have HK:=jA hk;have HC:=jA hc;have HD:=jA hd;have HR1:=jA h1;have HR2:=jA h2;have HR3:=jA h3;have HR4:=jA h4;have HP:=jA ab2;have Zm:=jA hpk;have Zl:=jA hpa;have HNS:=jA hns;have HMS:=jA hms;have HE:Hid (∀u v T,some (Obj.cells #[Im (wrap64 (a+b)),Im (wrap64 (a-b)),Im (wrap64 (a * b)),u,v,Im (wrap64 (-a)),Im (wrap64 (wrap64 (wrap64 (wrap64 (wrap64 (Hx.kW (decide (a<b))+wrap64 (2 * Hx.kW (decide (a<=b))))+wrap64 (4 * Hx.kW (a==b)))+wrap64 (8 * Hx.kW (decide (b<a))))+wrap64 (16 * Hx.kW (decide (b<=a))))+wrap64 (32 * Hx.kW (a !=b)))),Im b] T)=some (Obj.cells #[Im z0,Im z1,Im z2,u,v,Im z5,Im z6,Im z7] T)):=λu v T=>by rw[e0,e1,e2,e5,e6,<-e7]
 have HF:Hid (∀u T,some (Obj.cells #[Im (wrap64 (c * d)),u,Im (c%7+3),Im 0,Im 3,Im 0,Im 0,Im 0] T)=some (Obj.cells #[Im y0,u,Im y2,Im 0,Im 3,Im 0,Im 0,Im 0] T)):=λu T=>by rw[f0,f2]
 clear h1 h2 h3 h4 ab2 hpk hpa hns hms e0 e1 e2 e5 e6 e7 f0 f2 ha hk;obtain⟨β,d1,d2,hb,g3,g4⟩:=hz;obtain⟨γ,d3,d4,hd5,g5⟩:=hy;cases β;all_goals cases γ
 all_goals
  simp only[cond_false,cond_true,jc,Bool.not_false]at d2 g3 g4 d4 g5;have HZ3:=jA g3;have Zu:=jA g4;have HY:=jA g5;clear g3 g4 g5;try have hb:=hb rfl
  try have hd5:=hd5 rfl
  go_enter func5,ntmps5;go_wp2_with (go_at_call 25;refine(aul _ _).mono ?_;rintro e w' ⟨rfl,hw⟩;replace hw:=hw.symm;subst hw);refine(HR1.out _ (by kernel_rfl) _ (wH _ _)).mono ?_;rintro e w1 ⟨a1,c1,rfl,g1⟩;have HB1:Hid (w1.heap[w.heap.size]? =some (.cells #[Im z0,Im z1,Im z2,Im z3,Im z4,Im z5,Im z6,Im z7] 26)):=by
   unfold Hid;rw[HZ3.out,Zu.out];exact(qx (I4 _ _) g1).trans (HE.out _ _ _)
  have pR:=jA (I7 (wH _ _) g1);clear g1 HR1 HE;go_wp2_with fail;refine(HR2.out _ (by kernel_rfl) _ (Fp pR.out _)).mono ?_;rintro e w2 ⟨a2,c2,rfl,g2⟩;have HB2:=jA (qx (qx HB1.out (wH _ _)) g2);have HC2:=jA (qx (I4 _ _) g2);have HG2:=jA (I7 (Fp pR.out _) g2);clear g2 HB1 pR HR2;go_wp2_with (go_at_call 28;refine(VO _ _ _ HK.out (by omega) (by omega)).mono ?_;rintro e w' ⟨rfl,hw⟩;replace hw:=hw.symm;subst hw);rw[Zm.out];refine(acE c (by omega) (by omega) _ (agC HP.out (Fp HG2.out _))).mono ?_;rintro e w3 ⟨rfl,g3⟩;rw[HNS.out];have HB3:=jA (qx (qx HB2.out (wH _ _)) g3);have Y1:=jA (qx (qx HC2.out (wH _ _)) g3);have HD3:=jA (qx (I4 _ _) g3);have yJ:=jA (I7 (Fp HG2.out _) g3);clear g3 HB2 HG2 HC2;go_wp2_with (go_at_call 28;refine(VO _ _ _ HA.out (by omega) (by omega)).mono ?_;rintro e w' ⟨rfl,hw⟩;replace hw:=hw.symm;subst hw);rw[Zl.out];refine(acE d (by omega) (by omega) _ (agC HP.out yJ.out)).mono ?_;rintro e w4 ⟨rfl,g4⟩;rw[HMS.out];have HB4:=jA (qx HB3.out g4);have Y2:=jA (qx Y1.out g4);have HD4:=jA (qx HD3.out g4);have wF:=jA (I7 yJ.out g4);clear g4 HB3 yJ Y1 HD3;go_wp2_with fail;refine(HR3.out _ rfl _ wF.out).mono ?_;rintro e w5 ⟨a3,c3,rfl,g5⟩;have NW:=jA (qx HB4.out g5);have Y3:=jA (qx Y2.out g5);have HD5:=jA (qx HD4.out g5);have RH:=jA (I7 wF.out g5);clear g5 HB4 wF Y2 HD4 HR3;go_wp2_with fail;refine(HR4.out _ rfl _ (Fp RH.out _)).mono ?_;rintro e w6 ⟨a4,c4,rfl,g6⟩;have YZ:=jA (qx (qx NW.out (wH _ _)) g6);have Y4:=jA (qx (qx Y3.out (wH _ _)) g6)
  have HD6:=jA (qx (qx HD5.out (wH _ _)) g6);have Y6:=jA (qx (I4 _ _) g6);have Za:=jA (I7 (Fp RH.out _) g6);clear g6 NW RH Y3 HD5 HR4;go_upto_region 21 with(go_at_call 28;refine(VO _ _ _ (by first|exact HK.out|exact HA.out) (by omega) (by omega)).mono ?_;rintro e w' ⟨rfl,hw⟩;replace hw:=hw.symm;subst hw;first|rw[Zm.out]|rw[Zl.out]);first
  |(obtain⟨W,HW⟩:∃W,Hid (World.alloc (World.alloc w6 (.cells #[.int .u8 0,.slice a4 0 c4,Im y0,Im y1,Im y2,Im 0,Im 3,Im 0,Im 0,Im 0] 35)) (.cells #[Im (wrap64 (c * d)),Im (0),Im (c%7+3),Im 0,Im 3,Im 0,Im 0,Im 0] 26)=W):=⟨_,rfl⟩;rw[HW.out])
  |(obtain⟨W,HW⟩:∃W,Hid (World.alloc (World.alloc w6 (.cells #[.int .u8 0,.slice a4 0 c4,Im y0,Im y1,Im y2,Im 0,Im 3,Im 0,Im 0,Im 0] 35)) (.cells #[Im (wrap64 (c * d)),Im (wrap64 (-c.tdiv (d-5))),Im (c%7+3),Im 0,Im 3,Im 0,Im 0,Im 0] 26)=W):=⟨_,rfl⟩;rw[HW.out])
  have GW:Hid (Below w.heap.size w W):=by unfold Hid;rw[<-HW.out];exact Fp (Fp Za.out _) _
  have q0:W.heap[w.heap.size]? =some (.cells #[Im z0,Im z1,Im z2,Im z3,Im z4,Im z5,Im z6,Im z7] 26):=by rw[<-HW.out];exact qx (qx YZ.out (wH _ _)) (wH _ _)
  have q1:W.heap[w1.heap.size]? =some (.cells #[.int .u8 0,.slice a1 0 c1,Im z0,Im z1,Im z2,Im z3,Im z4,Im z5,Im z6,Im z7] 35):=by rw[<-HW.out];exact qx (qx Y4.out (wH _ _)) (wH _ _)
  have q2:W.heap[w2.heap.size]? =some (.cells #[.int .u8 0,.slice a2 0 c2,Im z0,Im z1,Im z2,Im z3,Im z4,Im z5,Im z6,Im z7] 35):=by rw[<-HW.out];exact qx (qx HD6.out (wH _ _)) (wH _ _)
  have q3:W.heap[w5.heap.size]? =some (.cells #[.int .u8 0,.slice a3 0 c3,Im y0,Im y1,Im y2,Im 0,Im 3,Im 0,Im 0,Im 0] 35):=by rw[<-HW.out];exact qx (qx Y6.out (wH _ _)) (wH _ _)
  have q4:W.heap[w6.heap.size]? =some (.cells #[.int .u8 0,.slice a4 0 c4,Im y0,Im y1,Im y2,Im 0,Im 3,Im 0,Im 0,Im 0] 35):=by rw[<-HW.out];exact qx (I4 _ _) (wH _ _)
  have q5:W.heap[w6.heap.size+1]? =some (.cells #[Im y0,Im y1,Im y2,Im 0,Im 3,Im 0,Im 0,Im 0] 26):=by rw[<-HW.out,HY.out];exact(ah7 _ _ _).trans (HF.out _ _)
  obtain⟨k00,k01,k02,k03,k04,k05,k06,k07⟩:=aap q0;obtain⟨k10,k11,k12,k13,k14,k15,k16,k17,k18,k19⟩:=Ov q1;obtain⟨k20,k21,k22,k23,k24,k25,k26,k27,k28,k29⟩:=Ov q2;obtain⟨k30,k31,k32,k33,k34,k35,k36,k37,k38,k39⟩:=Ov q3;obtain⟨k40,k41,k42,k43,k44,k45,k46,k47,k48,k49⟩:=Ov q4;obtain⟨k50,k51,k52,k53,k54,k55,k56,k57⟩:=aap q5;have e8:=λw=>aaY w z0 z1 z2 z3 z4 z5 z6 z7;have e9:=λw=>aaY w y0 y1 y2 0 3 0 0 0;clear q0 q1 q2 q3 q4 q5 YZ Y4 HD6 Y6 Za HW HZ3 Zu HY HF;go_wp2_with fail;go_ret;exact⟨rfl,GW.out⟩
end
end
section
open Hx
theorem aaJ:∀(l:List UInt8)(acc n d:Nat)(b:UInt8),Lib.decFrom acc l=some n->Lib.digitVal b=some d->Lib.decFrom acc (l++[b])=some (n * 10+d)
 |[],acc,n,d,b,h,hd=>by
  simp only[Lib.decFrom,bJ]at h;subst h;simp[Lib.decFrom,hd]
 |c::l,acc,n,d,b,h,hd=>by
  cases hc:Lib.digitVal c with
  |none=>simp[Lib.decFrom,hc]at h
  |some e=>
   simp only[Lib.decFrom,hc,bZ]at h⊢;exact aaJ l _ n d b h hd
theorem Tt{i:Nat}(h:i<10):Lib.digitVal (UInt8.ofNat (48+i))=some i/\mZ (UInt8.ofNat (48+i)).toNat=true:=by
 have e:∀i:Fin 10,Lib.digitVal (UInt8.ofNat (48+i.val))=some i.val/\mZ (UInt8.ofNat (48+i.val)).toNat=true:=by decide+kernel
 exact e ⟨i,h⟩
theorem aaL:∀(k u:Nat),u<10^(k+1)->(∀c∈Lib.decDigits u,mZ c.toNat=true)/\0<(Lib.decDigits u).length/\(Lib.decDigits u).length<=k+1/\Lib.decFrom 0 (Lib.decDigits u)=some u
 |0,u,h=>by
  have h10:u<10:=by simpa using h
  obtain⟨v1,v2⟩:=Tt h10;rw[Lib.decDigits,dif_pos h10];refine⟨λc hc=>?_,by simp,by simp,by rw[Lib.decFrom,v1];show Lib.decFrom (0 * 10+u) []=some u;rw[Lib.decFrom];congr 1;omega⟩;rw[cO]at hc;subst hc;exact v2
 |k+1,u,h=>by
  by_cases h10:u<10
  .obtain⟨v1,v2⟩:=Tt h10;rw[Lib.decDigits,dif_pos h10];refine⟨λc hc=>?_,by simp,by simp,by rw[Lib.decFrom,v1];show Lib.decFrom (0 * 10+u) []=some u;rw[Lib.decFrom];congr 1;omega⟩;rw[cO]at hc;subst hc;exact v2
  .have hq:u/10<10^(k+1):=by
    rw[iV]at h;omega
   obtain⟨a1,a2,a3,a4⟩:=aaL k (u/10) hq;obtain⟨v1,v2⟩:=Tt (Nat.mod_lt u (by omega:0<10));rw[Lib.decDigits,dif_neg h10];refine⟨λc hc=>?_,by simp,by simp;omega,?_⟩
   .rcases List.mem_append.1 hc with hc|hc
    .exact a1 c hc
    .rw[cO]at hc;subst hc;exact v2
   .rw[aaJ _ 0 _ _ _ a4 v1]
    congr 1
    omega
theorem acF{c:Int}(h0:0<=c)(h1:c<1000000000000000000):(∀x∈Lib.itoa c,mZ x.toNat=true)/\0<(Lib.itoa c).length/\(Lib.itoa c).length<=18/\Lib.atoi (Lib.itoa c)=some c:=by
 obtain⟨u,rfl⟩:=bI h0;obtain⟨a1,a2,a3,a4⟩:=aaL 17 u (by omega);have e:Lib.itoa (u:Int)=Lib.decDigits u:=by
  unfold Lib.itoa;rw[jg (by omega)];simp
 rw[e];refine⟨a1,a2,a3,?_⟩;generalize Lib.decDigits u=l at *
 match l,a1,a2,a4 with
 |b::r,a1,_,a4=>
  have hb:=a1 b (aW ..);unfold mZ at hb;simp only[dD,decide_eq_true_eq]at hb;have n1:(b==45)=false:=by
   rw[beq_eq_false_iff_ne];rintro rfl
   revert hb
   decide
  have n2:(b==43)=false:=by
   rw[beq_eq_false_iff_ne];rintro rfl
   revert hb
   decide
  simp only[Lib.atoi,n1,n2,aH,cZ,Lib.decNat,a4]
  rfl
end
end Go.Proofs.YthllhabjfchgiaaGreatDoor
