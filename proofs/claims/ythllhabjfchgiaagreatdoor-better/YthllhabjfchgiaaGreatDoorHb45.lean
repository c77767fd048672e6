import Derived.Test.YthllhabjfchgiaaGreatDoorHb44
import Derived.Test.YthllhabjfchgiaaGreatDoorTie
import Derived.Test.YthllhabjfchgiaaGreatDoorHb17
import Derived.LaidMore
import Derived.ShutString
import Derived.ChangeOld
import Derived.Stop.Joined
import Derived.Stop.LaidErr
import Derived.Lib.LaidTab
import Derived.SevenTiedAt
set_option maxRecDepth 100000
set_option maxHeartbeats 8000000
set_option linter.unusedSimpArgs false
namespace Go.Proofs.YthllhabjfchgiaaGreatDoor
open _root_.Go.Proofs.Tryz
section
open Go.RowKit
open Hx (Rd Pk Vw St Mc jO Out Ls kT)
attribute [local go_sem ↓] Go.wp_at_zero Go.wp_at_succ
attribute [local go_sem] kL
section
variable {w w':jo}{x:Raw}{x0 x1 x2 x3 x4 x5 x6 x7 z0 z1 z2 z3 z4 z5 z6 z7 sa:Int}{n:Nat}{nK:List (Int×Int)}
theorem aif(s:jm)(hsz:s.size+3<=9223372036854775807)(hT:rW w)(hone:1<w.heap.size)(hn:nK.length=n)(hn2:n<=256)(hsa:sa=0\/sa=1\/sa=3)(hlong:3990<=s.size)(h1:I7 w x x0 x1 x2 x3 x4 x5 x6 x7 s false sa n z0 z1 z2 z3 z4 z5 z6 z7 nK)(h2:I7 w x x0 x1 x2 x3 x4 x5 x6 x7 s true sa n z0 z1 z2 z3 z4 z5 z6 z7 nK)(h3:KU x x0 x1 x2 x3 x4 x5 x6 x7 (kT s) false):
 Calls prog 7 #[.string s,.agg #[.slice x.ar x.nr x.cr,.slice x.af x.nf x.cf,.slice x.aa x.na x.ca],.agg #[Im x0,Im x1,Im x2,Im x3,Im x4,Im x5,Im x6,Im x7]] w λe w'=>e=.returned (.bool true)/\Below w.heap.size w w':=by
 have Sr:Hid (sa=0\/sa=1\/sa=3):=hsa;have HR1:=jB h1;have HR2:=jB h2;have HR3:=jB h3;clear h1 h2 h3 hsa;have dl:decide ((s.size:Int)<3990)=false:=by simp;omega
 have hq1:¬(9223372036854775807<s.size+3):=by omega
 have hq2:decide (9223372036854775807<s.size+3)=false:=by simp;omega
 clear hsz;go_enter func7,ntmps7;go_wp2_with fail;have a0:=Tf w x x0 x1 x2 x3 x4 x5 x6 x7;refine(Vh (hT.later a0.below hone) (by have:=a0.lt;omega)).mono ?_;rintro e w1 ⟨rfl,hb1⟩;have a1:=a0.later hb1;obtain⟨q0,q1,q2,r0,r1,r2,r3,r4,r5,r6,r7⟩:=a1.cells;have HA1:=jB a1;clear a0 hb1 a1 hT;go_wp2_with fail;refine(HR1.out _ HA1.out.below).mono ?_;rintro e w2 ⟨e1,c1,rfl,ND,hb2⟩;have a2:=HA1.out.later hb2;obtain⟨q0,q1,q2,r0,r1,r2,r3,r4,r5,r6,r7⟩:=a2.cells;obtain⟨n0,n1,m0,m1⟩:=a2.Ey;have HA2:=jB a2;have KQ:Hid (w2.ownsRow w1.heap.size 76 2 (.slice e1 n c1) n (oK nK)):=ND;clear ND;have sH:=jB HA1.out.lt;clear hb2 a2 HR1;go_wp2_with fail;have CS:Below w2.heap.size w2 (w2.alloc (.cells #[.int .u8 sa,.slice e1 n c1,Im z0,Im z1,Im z2,Im z3,Im z4,Im z5,Im z6,Im z7] 35)):=Below.wY (ah _ _ none);refine(HR2.out _ (HA2.out.later CS).below).mono ?_;rintro e w3 ⟨e2,c2,rfl,NG,hb3⟩;have a3:=(HA2.out.later CS).later hb3;obtain⟨q0,q1,q2,r0,r1,r2,r3,r4,r5,r6,r7⟩:=a3.cells;obtain⟨n0,n1,m0,m1⟩:=a3.Ey;have E5:=jB a3;have HB3:Hid (Below (w2.alloc (.cells #[.int .u8 sa,.slice e1 n c1,Im z0,Im z1,Im z2,Im z3,Im z4,Im z5,Im z6,Im z7] 35)).heap.size (w2.alloc (.cells #[.int .u8 sa,.slice e1 n c1,Im z0,Im z1,Im z2,Im z3,Im z4,Im z5,Im z6,Im z7] 35)) w3):=hb3;clear CS;have KR:Hid (w3.ownsRow (w2.alloc (.cells #[.int .u8 sa,.slice e1 n c1,Im z0,Im z1,Im z2,Im z3,Im z4,Im z5,Im z6,Im z7] 35)).heap.size 76 2 (.slice e2 n c2) n (oK nK)):=NG;clear NG;clear hb3 a3 HR2;go_wp2_with fail
 have D6:Below w3.heap.size w3 (w3.alloc (.cells #[.int .u8 sa,.slice e2 n c2,Im z0,Im z1,Im z2,Im z3,Im z4,Im z5,Im z6,Im z7] 35)):=Below.wY (ah _ _ none);refine(HR3.out _).mono ?_;rintro e w4 ⟨rfl,hb4⟩;have a4:=(E5.out.later D6).later hb4;obtain⟨q0,q1,q2,r0,r1,r2,r3,r4,r5,r6,r7⟩:=a4.cells;obtain⟨n0,n1,m0,m1⟩:=a4.Ey;have GL:=jB a4;have HB4:Hid (Below (w3.alloc (.cells #[.int .u8 sa,.slice e2 n c2,Im z0,Im z1,Im z2,Im z3,Im z4,Im z5,Im z6,Im z7] 35)).heap.size (w3.alloc (.cells #[.int .u8 sa,.slice e2 n c2,Im z0,Im z1,Im z2,Im z3,Im z4,Im z5,Im z6,Im z7] 35)) w4):=hb4;clear D6;clear hb4 a4 HR3;have HI4:Hid (GI w w4 w2.heap.size w3.heap.size w3.heap.size e1 e2 e2 n c1 c2 c2 sa z0 z1 z2 z3 z4 z5 z6 z7 nK):=by
  have L1:=sH.out;have L2:=HA2.out.lt;have L3:=HB3.out;have L4:=HB4.out;have WR:(w2.alloc (.cells #[.int .u8 sa,.slice e1 n c1,Im z0,Im z1,Im z2,Im z3,Im z4,Im z5,Im z6,Im z7] 35)).heap.size=w2.heap.size+1:=eY ..;have WS:(w3.alloc (.cells #[.int .u8 sa,.slice e2 n c2,Im z0,Im z1,Im z2,Im z3,Im z4,Im z5,Im z6,Im z7] 35)).heap.size=w3.heap.size+1:=eY ..;have g3:=L3.size;have g4:=L4.size;have u2:Below w2.heap.size w2 (w2.alloc (.cells #[.int .u8 sa,.slice e1 n c1,Im z0,Im z1,Im z2,Im z3,Im z4,Im z5,Im z6,Im z7] 35)):=Below.wY (ah _ _ none);have u3:Below w3.heap.size w3 (w3.alloc (.cells #[.int .u8 sa,.slice e2 n c2,Im z0,Im z1,Im z2,Im z3,Im z4,Im z5,Im z6,Im z7] 35)):=Below.wY (ah _ _ none);have t3:Below w2.heap.size w2 w3:=u2.trans (L3.mono (by omega));have t4:Below w3.heap.size w3 w4:=u3.trans (L4.mono (by omega));have A3:w3.heap[w2.heap.size]? =some (.cells #[.int .u8 sa,.slice e1 n c1,Im z0,Im z1,Im z2,Im z3,Im z4,Im z5,Im z6,Im z7] 35):=(L3.block _ (by omega)).trans (aY w2 _);have A4:w4.heap[w2.heap.size]? =some (.cells #[.int .u8 sa,.slice e1 n c1,Im z0,Im z1,Im z2,Im z3,Im z4,Im z5,Im z6,Im z7] 35):=(t4.block _ (by omega)).trans A3;have B4:w4.heap[w3.heap.size]? =some (.cells #[.int .u8 sa,.slice e2 n c2,Im z0,Im z1,Im z2,Im z3,Im z4,Im z5,Im z6,Im z7] 35):=(L4.block _ (by omega)).trans (aY w3 _);have Ra:=EJ (EJ (Dq KQ.out (b':=w.heap.size) (by omega)) t3) t4;have Rb:=EJ (Dq KR.out (b':=w.heap.size) (by omega)) t4;exact⟨GL.out.below,A4,B4,B4,Ra,Rb,Rb⟩
 have RY:Hid (w2.heap.size<w3.heap.size/\w3.heap.size<w4.heap.size):=by
  have g3:=HB3.out.size;have g4:=HB4.out.size;have WR:(w2.alloc (.cells #[.int .u8 sa,.slice e1 n c1,Im z0,Im z1,Im z2,Im z3,Im z4,Im z5,Im z6,Im z7] 35)).heap.size=w2.heap.size+1:=eY ..;have WS:(w3.alloc (.cells #[.int .u8 sa,.slice e2 n c2,Im z0,Im z1,Im z2,Im z3,Im z4,Im z5,Im z6,Im z7] 35)).heap.size=w3.heap.size+1:=eY ..;exact⟨by omega,by omega⟩
 clear HA1 HA2 E5 GL HB3 HB4 KQ KR sH n0 n1 m0 m1;obtain⟨V,HV⟩:∃V,Hid (w4.alloc (.cells #[.int .u8 0,Nl,Im 0,Im 0,Im 0,Im 0,Im 0,Im 0,Im 0,Im 0] 35)=V):=⟨_,rfl⟩;have HG:Hid (w4.grownBy V none):=by rw[<-HV.out];exact ah w4 _ none
 have HJ:Hid (GI w V w2.heap.size w3.heap.size w3.heap.size e1 e2 e2 n c1 c2 c2 sa z0 z1 z2 z3 z4 z5 z6 z7 nK/\V.heap[w4.heap.size]? =some (.cells #[.int .u8 0,Nl,Im 0,Im 0,Im 0,Im 0,Im 0,Im 0,Im 0,Im 0] 35)):=by
  have hg:=HG.out;refine⟨HI4.out.grow hg,?_⟩;rw[<-HV.out];exact aY w4 _
 go_upto_region 7 with fail;rw[HV.out];clear HV;obtain⟨ja0,ja1,ja2,ja3,ja4,ja5,ja6,ja7,ja8,ja9⟩:=FM HJ.out.1.a;obtain⟨jc0,jc1,jc2,jc3,jc4,jc5,jc6,jc7,jc8,jc9⟩:=FM HJ.out.2;have jf:∀j,V.frozen? (Ad w4.heap.size j)=false:=λj=>oh HJ.out.2;obtain⟨W,HW,HI⟩:∃W,Hid ((((((((((V.setCell (Ad w4.heap.size 0) (.int .u8 sa)).setCell (Ad w4.heap.size 1) (.slice e1 n c1)).setCell (Ad w4.heap.size 2) (Im z0)).setCell (Ad w4.heap.size 3) (Im z1)).setCell (Ad w4.heap.size 4) (Im z2)).setCell (Ad w4.heap.size 5) (Im z3)).setCell (Ad w4.heap.size 6) (Im z4)).setCell (Ad w4.heap.size 7) (Im z5)).setCell (Ad w4.heap.size 8) (Im z6)).setCell (Ad w4.heap.size 9) (Im z7)=W)/\Hid (GI w W w2.heap.size w3.heap.size w4.heap.size e1 e2 e1 n c1 c2 c1 sa z0 z1 z2 z3 z4 z5 z6 z7 nK):=by
  refine⟨_,rfl,?_⟩;obtain⟨k1,k2⟩:=QZ V w4.heap.size 35 _ _ _ _ _ _ _ _ _ _ (.int .u8 sa) (.slice e1 n c1) (Im z0) (Im z1) (Im z2) (Im z3) (Im z4) (Im z5) (Im z6) (Im z7) HJ.out.2;have hg:=HG.out;have hgz:=hg.size;have hW:w4.grownBy _ none:=⟨k2.os.trans hg.os,k2.tape.trans hg.tape,k2.output.trans hg.output,dH hg.size k2.size,λk hk _=>(k2.block k (by omega) (by simp;omega)).trans (hg.block k hk (by simp))⟩;have hB:=HI4.out.grow hW;exact⟨hB.below,hB.a,hB.b,k1,hB.ra,hB.rb,hB.ra⟩
 clear HG HJ HI4;go_upto_region 13 with fail;rw[HW.out];clear HW RY;obtain⟨ka0,ka1,ka2,ka3,ka4,ka5,ka6,ka7,ka8,ka9⟩:=FM HI.out.a;obtain⟨kb0,kb1,kb2,kb3,kb4,kb5,kb6,kb7,kb8,kb9⟩:=FM HI.out.b;obtain⟨kc0,kc1,kc2,kc1,kc4,kc5,kc6,kc7,kc8,kc9⟩:=FM HI.out.c;have e8:=λw=>TQ w z0 z1 z2 z3 z4 z5 z6 z7;have HI0:=jB HI.out;clear HI;go_wp2_with fail;go_loopg [14] n (λgg i wr=>∃k:Nat,k+gg=n/\i=Im k/\GI w wr w2.heap.size w3.heap.size w4.heap.size e1 e2 e1 n c1 c2 c1 sa z0 z1 z2 z3 z4 z5 z6 z7 nK)
 case atStart=>exact⟨0,by omega,rfl,HI0.out⟩
 case round=>
  obtain⟨k,hk,rfl,hI⟩:=hrel;clear HI0;have ca:wr.cell? (Ad w2.heap.size 1)=some (.slice e1 n c1):=jH hI.a;have cb:wr.cell? (Ad w3.heap.size 1)=some (.slice e2 n c2):=jH hI.b;have cc:wr.cell? (Ad w4.heap.size 1)=some (.slice e1 n c1):=jH hI.c;by_cases hlt:k<n
  .have d1:decide ((k:Int)<(n:Int))=true:=by simp;omega
   have hget:nK[k]? =some nK[k]:=by simp
   obtain⟨c2',c3'⟩:=Tc nK k _ hget;obtain⟨g1,h1,_,_,hcs1⟩:=Iu hI.ra c2';obtain⟨g2,h2,_,_,hcs2⟩:=Iu hI.rb c2';obtain⟨g3,h3,_,_,hcs3⟩:=Iu hI.rc c2';have p1:=hcs1 _ _ c2';have p2:=hcs2 _ _ c2';have p3:=hcs3 _ _ c2';have s1:=hcs1 _ _ c3';have s2:=hcs2 _ _ c3';have s3:=hcs3 _ _ c3';generalize nK[k].1=ro at *;generalize nK[k].2=sq at *;have HI2:=jB hI;have i3:(0:Int)<=(k:Int):=by omega
   have j3:(k:Int)<(n:Int):=by omega
   obtain⟨g',hg'⟩:∃g',gk=g'+1:=⟨gk-1,by omega⟩;rw[h1]at ca;rw[h2]at cb;rw[h3]at cc;clear hI hget hcs1 hcs2 hcs3 h1 h2 h3 c2' c3';go_wp2_with fail;go_quiet (fail);go_wp2_with fail;go_roundg g'
   case measure=>omega
   case rel=>exact⟨k+1,by omega,by go_num,HI2.out.grow (lH _ _)⟩
  .have d1:decide ((k:Int)<(n:Int))=false:=by simp;omega
   have st:wr.cell? (Ad w2.heap.size 0)=some (.int .u8 sa):=jH hI.a;have HF:Hid (Below w.heap.size w wr):=hI.below;clear hI;rcases Sr.out with e|e|e
   .subst e;go_wp2_with fail;go_ret;exact⟨rfl,HF.out⟩
   .subst e;go_wp2_with fail;go_ret;exact⟨rfl,HF.out⟩
   .subst e;go_wp2_with fail;go_ret;exact⟨rfl,HF.out⟩
end
end
section
open Go.RowKit
open Hx (Rd Pk Vw St Mc jO Out Ls kT)
section
variable {w w':jo}{x:Raw}{x0 x1 x2 x3 x4 x5 x6 x7:Int}
theorem aps(s:jm)(b:Bool)(h:(lV s).2.1=0)(v:Vw):(qE s b v x0 x1 x2 x3 x4 x5 x6 x7).jP.length<=256:=by
 have ht:=(Wp s h).1 b;unfold qE;cases hv:AO v with
 |true=>
  rcases(ad5 v hv _ ht (lX (tq s b).1.data.toList).jD x0 x1 x2 x3 x4 x5 x6 x7).1 with⟨_,h2⟩|⟨_,_,h3⟩
  .exact h2.len
  .rw[h3];simp
 |false=>
  have f:∀bs fu,ru v bs fu x0 x1 x2 x3 x4 x5 x6 x7=⟨3,[x0,x1,x2,x3,x4,x5,x6,x7],[]⟩:=λbs fu=>by
   unfold ru Az;rw[hv,jk (by simp)]
  rw[f];simp
theorem aie(s:jm)(hsz:s.size+3<=9223372036854775807)(v:Vw)(hv:wu w.heap.size w x.ar x.af x.aa x.nr x.nf x.na v)(hT:rW w)(hone:1<w.heap.size)(hx:∀x∈[x0,x1,x2,x3,x4,x5,x6,x7],jO x):
 Calls prog 7 #[.string s,.agg #[.slice x.ar x.nr x.cr,.slice x.af x.nf x.cf,.slice x.aa x.na x.ca],.agg #[Im x0,Im x1,Im x2,Im x3,Im x4,Im x5,Im x6,Im x7]] w λe w'=>e=.returned (.bool true)/\Below w.heap.size w w':=by
 by_cases h:(lV s).2.1=0
 .obtain⟨h1,h2⟩:=(Wp s h).2 v x0 x1 x2 x3 x4 x5 x6 x7 hv.Gl hx;have h256:=aps (x0:=x0) (x1:=x1) (x2:=x2) (x3:=x3) (x4:=x4) (x5:=x5) (x6:=x6) (x7:=x7) s false h v;rcases dG 4000 (s.size+3)with hl|hl
  .exact aif s hsz hT hone rfl h256 h2 (by omega) (NI s s false v h (CO.refl _) hv hT hone hx) (NI s s true v h h1 hv hT hone hx) (QW _ _ (acS _ (by rw[Dt];omega)))
  .obtain⟨p1,p2⟩:=aap s hl;have hp:qE (kT s) false v x0 x1 x2 x3 x4 x5 x6 x7=qE s false v x0 x1 x2 x3 x4 x5 x6 x7:=by unfold qE;rw[p2 h]
   exact aic s hsz hT hone rfl h256 h2 (NI s s false v h (CO.refl _) hv hT hone hx) (NI s s true v h h1 hv hT hone hx) (NI s (kT s) false v (p1.2 h) (by rw[hp];exact CO.refl _) hv hT hone hx)
 .refine aii s hsz hT hone (QW _ _ h) (QW _ _ h) (QW _ _ ?_);rcases dG 4000 (s.size+3)with hl|hl
  .exact acS _ (by rw[Dt];omega)
  .exactλe=>h ((aap s hl).1.1 e)
end
end
section
open Go.ChangeShapes Go.WideShapes Go.ChangeAt Go.RowKit
open Go.ChangeMaps (open_string shut_string)
theorem ZA:prog.globalNamed "math/bits.deBruijn64tab"=some 1:=by kernel_rfl
theorem ahA:(prog.globals[1]?).map (·.type)=some 306:=by kernel_rfl
theorem ah2(os:Os)(args:Array jr):laidMetH prog Rows.betterRow.laid ((World.doorLaid prog 62 os).forCall (λ_ _=>0) ⟨#[],args,[]⟩).memory:=
 laidMetH_of_parts3 (fuel:=8) (laidMet_of_run' 8 (by kernel_rfl) (by kernel_rfl)) (by kernel_rfl) (by kernel_rfl)
theorem ah9{W:jo}(h:laidMetH prog Rows.betterRow.laid W):rW W/\1<W.heap.size:=by
 rw[MakeChecks.laidMetH_plain _ _ _ (by kernel_rfl)]at h;have t:laidMet prog (("math/bits.deBruijn64tab",Lib.tabData .u8 (Lib.deBruijn64tab.map λ(n:Nat)=>(n:Int)))::Rows.betterRow.laid.drop 2) W:=laidMet.tail h;have u:=Lib.tabIs_of_head ZA ahA Tryz.underlying306 Tryz.underlying5 (by kernel_rfl) (by kernel_rfl) t;have v:rW W:=λj hj=>by
  have hl:Lib.deBruijn64tab.length=64:=by decide+kernel
  have hj':j<Lib.deBruijn64tab.length:=by omega
  have c:=u.cell ZA j (by simpa using hj');rw[c];simp[List.getD,bU hj']
 exact⟨v,World.block_lt_of_cell? W _ (v 0 (by omega))⟩
theorem ah5(os:Os)(started:os.Started)(H:Type)(enc:jv×jr->H):
 ReturnsInHanded {} Tryz.checked os 7 .any (λw args=>(Rows.betterSpec.pre enc prog Tryz.f7 [] false w args/\laidMetH prog Rows.betterRow.laid w)/\sizedMet enc prog Tryz.f7 (OpenSpec.ofChange Rows.betterSpec) false w args)
  (Rows.betterSpec.post enc prog Tryz.f7 false true false false):=by
 refine returnsInHanded_of_change_and (C:=Tryz.checked) (X:=λw _=>laidMetH prog Rows.betterRow.laid w) (λ_ _ _ hh h=>h.of_heap hh) ake started (by kernel_rfl) func7
  (ChangeSpec.witness_shaped (enc:=enc) (C:=Tryz.checked) (os:=os) (X:=λw _=>laidMetH prog Rows.betterRow.laid w) false (World.doorLaid prog 62 os) #[.string ByteArray.empty,.agg #[Nl,Nl,Nl],.agg #[Im 0,Im 0,Im 0,Im 0,Im 0,Im 0,Im 0,Im 0]] 8 rfl (World.shaped_of_RefB (by kernel_rfl) (by kernel_rfl)) (by kernel_rfl) (by kernel_rfl) (by kernel_rfl) (ah2 os _)) ?_
 intro W base args ds gs before hval0 hW _ abU hL _;have hval:∀(j:Nat) t v,Tryz.f7.params[j]? =some t->args[j]? =some v->Value.okWide prog W .any base t v:=hval0;have hW':=hW;obtain⟨p,q,hA0,hV,rfl,hfz,hnd⟩:=hW;have hA:DataW.TrodAll enc prog W 0 (λ_=>true) true Tryz.f7.params.toList args.toList ds p:=hA0;have hwt:(DataW.weightsEach prog (Tryz.f7.params.toList++Rows.betterSpec.plain.varTypes prog) (ds++gs)).all (· <=reachBytes)=true:=abU;rw[Tryz.params7]at hA hval hwt;obtain⟨v0,YI,d0,ds0,p0,q0,hargs,rfl,rfl,h0,r0⟩:=trodAll_cons hA;obtain⟨v1,vs1,d1,ds1,p1,q1,rfl,rfl,rfl,h1,r1⟩:=trodAll_cons r0;obtain⟨v2,vs2,d2,ds2,p2,q2,rfl,rfl,rfl,h2,r2⟩:=trodAll_cons r1;obtain⟨rfl,rfl,rfl⟩:=trodAll_nil r2;obtain rfl:args=#[v0,v1,v2]:=by cases args;simp_all
 obtain⟨rfl,rfl⟩:=trodVars_none hV;obtain⟨s,rfl,rfl,rfl,ws⟩:=open_string Tryz.underlying9 (hval 0 9 v0 rfl rfl) h0;obtain⟨cs,rfl,hcs⟩:=okWide_struct Tryz.underlying25 (hval 1 25 v1 rfl rfl);obtain⟨rs,rfl,hrs⟩:=anO Tryz.underlying26 (hval 2 26 v2 rfl rfl);have k1:=h1;have lt1:∀x∈p1,x.block<W.heap.size:=by obtain⟨m,hm⟩:=k1;exact DataW.trod_lt m _ _ _ hm
 have k2:=h2;have lt2:∀x∈p2,x.block<W.heap.size:=by obtain⟨m,hm⟩:=k2;exact DataW.trod_lt m _ _ _ hm
 obtain⟨n1,t1⟩:=h1;obtain⟨n2,t2⟩:=h2;obtain⟨ar,af,aa,nr,cr,nf,cf,na,ca,v,hc1,hv,hnr⟩:=arO Tryz.underlying25 (by kernel_rfl) (by kernel_rfl) rfl rfl rfl Tryz.underlying22 Tryz.underlying74 (by kernel_rfl) (by kernel_rfl) Tryz.underlying3 Tryz.underlying3 Tryz.underlying3 Tryz.underlying3 Tryz.underlying4 Tryz.underlying23 Tryz.underlying72 (by kernel_rfl) (by kernel_rfl) Tryz.underlying3 Tryz.underlying3 Tryz.underlying3 t1;obtain⟨zs,hc2,hzl,hz⟩:=ale Tryz.underlying26 Tryz.underlying3 (by kernel_rfl) (by kernel_rfl) t2;simp only[Value.cells]at hc1 hc2;obtain rfl:cs=#[.slice ar nr cr,.slice af nf cf,.slice aa na ca]:=by cases cs;simp_all
 obtain⟨x0,x1,x2,x3,x4,x5,x6,x7,rfl⟩:∃x0 x1 x2 x3 x4 x5 x6 x7,zs=[x0,x1,x2,x3,x4,x5,x6,x7]:=by
  match zs,hzl with
  |[x0,x1,x2,x3,x4,x5,x6,x7],_=>exact⟨x0,x1,x2,x3,x4,x5,x6,x7,rfl⟩
 obtain rfl:rs=#[Im x0,Im x1,Im x2,Im x3,Im x4,Im x5,Im x6,Im x7]:=by cases rs;simp_all
 obtain⟨hT,hone⟩:=ah9 hL;have hsz:s.size+3<=9223372036854775807:=by
  have hm:=List.all_eq_true.1 hwt s.data.toList.length (by simp[DataW.weightsEach,DataW.weights]);have hm2:s.data.toList.length<=0x7ffffffff000:=of_decide_eq_true hm;rw[yD]at hm2;omega
 clear hA0 hval0 abU hwt;refine(aie (x:=⟨ar,af,aa,nr,cr,nf,cf,na,ca⟩) s hsz v hv hT hone hz).mono λe W' ⟨he,bel⟩=>?_;subst he;exact⟨_,rfl,_,_,_,[],_,[],hW',trodAll_mk1 (shut_bool Tryz.underlying4 _),(trodAll_cons_mk (shut_string Tryz.underlying9 ws) (trodAll_cons_mk (Below.trod Uw (by kernel_rfl) (of_decide_eq_true (by kernel_rfl)) k1 bel lt1) (trodAll_cons_mk (Below.trod Uw (by kernel_rfl) (of_decide_eq_true (by kernel_rfl)) k2 bel lt2) trodAll_mk0))),rfl,bel.frame _,λh=>by cases h⟩
theorem ah8:Rows.BetterSaid:=
 OpenClaim.holds_of_wide 7 Tryz.f7 rfl rfl rfl rfl rfl rfl rfl ⟨rfl,rfl,rfl,rfl,rfl⟩ rfl rfl rfl rfl rfl ZJ func7 ah1
  (of_decide_eq_true (by kernel_rfl)) (by unfold Func.isWrapper;first|(rw[jl (by decide+kernel)];kernel_rfl)|(rw[jk (by decide+kernel)];exact⟨rfl,rfl⟩))
  (λos started H enc _=>ah5 os started H enc)
theorem better_holds : Rows.BetterCardSaid :=
 Claim7.holds_tied_plain_at .later [] [.data,.data,.data,.sentinel,.sentinel] true Rows.betterCard.stood.harness true
  ah8 (λ_ h=>by cases h) aib (λ_ h=>by cases h) better_row_tie rfl ⟨rfl,rfl⟩ aj9 rfl
  (λf fn hf hfn=>by
    obtain rfl:f=7:=(fZ (ZJ.symm.trans hf)).symm;obtain rfl:fn=Tryz.f7:=(fZ (func7.symm.trans hfn)).symm;exact⟨aj8,λj t ht=>by
     rw[Tryz.params7]at ht;have hm:t∈[9,25,26]:=by simpa using Array.mem_of_getElem? ht
     have hall:([9,25,26].all λu=>!prog.wantsStandIn u)=true:=by kernel_rfl
     exact(show prog.wantsStandIn t=false by simpa using List.all_eq_true.1 hall t hm)⟩)
  ah3
end
end Go.Proofs.YthllhabjfchgiaaGreatDoor
