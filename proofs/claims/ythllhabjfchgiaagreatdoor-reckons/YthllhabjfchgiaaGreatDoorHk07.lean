import Derived.Test.YthllhabjfchgiaaGreatDoorHk03
import Derived.BigRegion
import Derived.StillTailTactics
set_option maxRecDepth 100000
set_option maxHeartbeats 8000000
set_option linter.unusedSimpArgs false
namespace Go.Proofs.YthllhabjfchgiaaGreatDoor
open _root_.Go.Proofs.Tryz
section
open Go.RowKit
open Hx (Rd Pk Vw St Mc jJ)
section
variable {B C:Nat}{w:jk}{M SB:Nat}{v:Vw}{m:Mc}
theorem aeQ(hm:kQ B C w M SB v m)(i j:Int)(hj:j<=9223372036854775807)(hl:m.jO.length<=256):
 Calls prog 54 #[Pt M 0,Im i,Im j] w λe w'=>e=.returned (.bool (Hx.push v i j m).isSome)/\(∀m',Hx.push v i j m=some m'->kQ B C w' M SB v m')/\Below B w w':=by
 cases hr:v.sN i with
 |none=>
  refine(aeS hm i j hj (jf hr)).mono ?_;rintro e w' ⟨rfl,rfl⟩;have e1:Hx.push v i j m=some m:=by simp[Hx.push,hr]
  rw[e1];exact⟨rfl,λm' h=>by cases h;exact hm,dK _ _⟩
 |some r=>
  cases hp:v.uM j with
  |none=>
   refine(aeS hm i j hj (je hp)).mono ?_;rintro e w' ⟨rfl,rfl⟩;have e1:Hx.push v i j m=some m:=by simp[Hx.push,hr,hp]
   rw[e1];exact⟨rfl,λm' h=>by cases h;exact hm,dK _ _⟩
  |some p=>
   by_cases hf:m.jO.length=256
   .refine(apR hm i j r p hj hr hp hf).mono ?_;rintro e w' ⟨rfl,rfl⟩;have e1:Hx.push v i j m=none:=by simp[Hx.push,hr,hp,hf]
    rw[e1];exact⟨rfl,λm' h=>(by cases h),dK _ _⟩
   .refine(apS hm i j r p hj hr hp (by omega)).mono ?_;rintro e w' ⟨rfl,h1,h2⟩;have e1:Hx.push v i j m=some {m with jO:=m.jO++[(r.id,p.seq)]}:=by simp[Hx.push,hr,hp,hf]
    rw[e1];exact⟨rfl,λm' h=>(by cases h;exact h1),h2⟩
def vk(status:Int)(va:jm)(jF:List Int):jm:=
 .agg #[.int .u8 status,va,Im (jF.getD 0 0),Im (jF.getD 1 0),Im (jF.getD 2 0),Im (jF.getD 3 0),Im (jF.getD 4 0),Im (jF.getD 5 0),Im (jF.getD 6 0),Im (jF.getD 7 0)]
theorem asf(w:jk)(n:Nat)(x:Addr)(u:jm):(w.drewN n).setCell x u=(w.setCell x u).drewN n:=rfl
attribute [local go_sem] asf
theorem run_arrayAt(P:Program)(t n:Nat)(e:jo)(h:P.underlying t=some (.array n e))(a:Option Addr)(len cap:Nat)(hl:n<=len)(w:jk):
 (Instr.arrayAt t (.slice a len cap)).run P w=.ok (.pointer a) w:=by
 have hl':¬len<n:=by omega
 simp[Instr.arrayAt,go_sem,run_underlying h,hl']
theorem aj3(hm:kQ B C w M SB v m)(h8:8<=m.jD.length):
 Calls prog 51 #[Pt M 0] w λe w'=>∃va,e=.returned (vk 0 va m.jD)/\w'.ownsRow C 76 2 va m.jO.length (sD m.jO)/\Below B w w':=by
 obtain⟨va,hva,hown⟩:=hm.jO;have h0:=hm.size;have h1:=hm.cS;have h2:=hm.cM;have h3:=hm.bM;have HO:Hid (∀(o:Obj)(n:Nat),((w.alloc o).drewN n).ownsRow C 76 2 va m.jO.length (sD m.jO)/\Below B w ((w.alloc o).drewN n)):=λo n=>
  ⟨(hown.alloc o).kept (w':=(w.alloc o).drewN n) (row:=none) ⟨rfl,rfl,rfl,aj _,λ_ _ _=>rfl⟩ (by cases va.ownBlock<;>simp),below_drewN ((dK _ _).alloc (by omega) o) n⟩
 obtain⟨aa,cap,hval⟩:∃aa cap,va=.slice aa m.jO.length cap:=by
  obtain⟨h1,h2⟩:=hown;rcases h2 with⟨h3,h4⟩|⟨g,cap,cur,h3,h4⟩
  .exact⟨none,0,by rw[h3,h4]⟩
  .exact⟨_,_,h3⟩
 subst hval;have hs:=hm.jD;have c0:=hm.slot 0 (by omega);have c1:=hm.slot 1 (by omega);have c2:=hm.slot 2 (by omega);have c3:=hm.slot 3 (by omega);have c4:=hm.slot 4 (by omega);have c5:=hm.slot 5 (by omega);have c6:=hm.slot 6 (by omega);have c7:=hm.slot 7 (by omega);have n1:¬SB=w.heap.size:=by omega
 have n2:¬M=w.heap.size:=by omega
 have FP:SB<w.heap.size:=by omega
 have hM:M<w.heap.size:=by omega
 have h8':(8:Int)<=(m.jD.length:Int):=by omega
 unfold vk;clear hm h0 h1 h2 h3 hown;generalize sD m.jO=cells at *;generalize m.jO.length=na at *;generalize m.jD.getD 0 0=x0 at *;generalize m.jD.getD 1 0=x1 at *;generalize m.jD.getD 2 0=x2 at *;generalize m.jD.getD 3 0=x3 at *;generalize m.jD.getD 4 0=x4 at *;generalize m.jD.getD 5 0=x5 at *;generalize m.jD.getD 6 0=x6 at *;generalize m.jD.getD 7 0=x7 at *;generalize m.jD.length=len at *;have ka:=λ(w:jk)=>run_arrayAt prog 26 8 3 Tryz.underlying26 (some (Ad SB 0)) len len (by omega) w;go_enter func51,ntmps51;go_wp2_with fail;refine nP 11 (by kernel_rfl) (by kernel_rfl) ?_;simp only[aC,aO,aG,aQ];repeat (go_big_quiet_step (fail))
 refine bF ?_;intro _ hw';obtain⟨n3,hw''⟩:=hw';subst hw'';go_wp2;exact cu (v:=.agg #[.int .u8 0,.slice aa na cap,Im x0,Im x1,Im x2,Im x3,Im x4,Im x5,Im x6,Im x7]) (by simp[results,Tryz.results51,go_sem]) rfl ⟨_,rfl,HO.out _ _⟩
end
section
variable {B C:Nat}{w:jk}{M SB:Nat}{v:Vw}{m:Mc}
theorem ai9(hm:kQ B C w M SB v m)(b o:Nat)(q l x:Int)(c:Nat)(d:Int)(dp:Nat)(t:Int)(hst:zG w b o ⟨q,l,x,c,d,dp,t⟩)(hc:c<m.jD.length)(hd:dp<8):
 Calls prog 52 #[Pt M 0,Pt b o] w λe w'=>e=.returned (.tuple #[])/\kQ B C w' M SB v (Hx.rP v ⟨q,l,x,c,d,dp,t⟩ m)/\Below B w w':=by
 have HP:Hid (∀n,kQ B C ((w.drewN n).setCell (Ad M (4+dp)) (.int .u64 (Hx.pY (bits .and .i64 (m.jD.getD c 0) (v.all l))))) M SB v (Hx.rP v ⟨q,l,x,c,d,dp,t⟩ m)/\
  Below B w ((w.drewN n).setCell (Ad M (4+dp)) (.int .u64 (Hx.pY (bits .and .i64 (m.jD.getD c 0) (v.all l)))))):=λn=>by
  refine⟨?_,(below_drewN (dK _ _) n).setCell (p:=(Ad M (4+dp))) hm.bM _⟩;have:=(hm.drewN n).lX hd (Hx.EL (bits .and .i64 (m.jD.getD c 0) (v.all l)));simpa [Hx.rP,Hx.Mc.get]using this
 have HV:=jA (λn=>(hm.drewN n).view);have hs:=hm.jD;have cc:=hm.slot c hc;have cl:=hm.left dp hd;have fl:=hm.Jw dp hd;obtain⟨s0,s1,s2,s3,s4,s5,s6⟩:=hst;simp only at s0 s1 s2 s3 s4 s5;clear hm s6 s4 s2 s0;generalize Hx.rP v ⟨q,l,x,c,d,dp,t⟩ m=m' at HP⊢;generalize m.jD.getD c 0=xc at *;generalize m.left.getD dp 0=xl at *;generalize hy:Hx.pY (bits .and .i64 xc (v.all l))=y at HP;have HY:Hid (IntKind.u64.wrap (bits .and .i64 xc (v.all l))=y):=hy;clear hy;generalize m.jD.length=len at *;have i3:(0:Int)<=(c:Int):=by omega
 have j3:(c:Int)<(len:Int):=by omega
 have i4:(0:Int)<=(dp:Int):=by omega
 have j4:(dp:Int)<8:=by omega
 go_enter func52,ntmps52;go_wp2_with fail;go_quiet (fail);go_wp2_with fail;refine CO 14 (by kernel_rfl) (by kernel_rfl) ?_;simp only[aC,aO,aG,aQ];repeat (go_big_quiet_step ((go_at_call 95;exact dN (ZE B M l v _ (HV.out _)))))
 refine bF ?_;intro _ hw';obtain⟨n2,hw''⟩:=hw';subst hw'';rw[HY.out];go_wp2;go_end0;exact⟨rfl,HP.out _⟩
theorem atz(hm:kQ B C w M SB v m)(b o n cap:Nat)(k:Nat)(q l x c d:Int)(dp:Nat)(t:Int)(hk:k<n)(hst:zG w b (o+k * 7) ⟨q,l,x,c,d,dp,t⟩)(hd:dp<8)(hz:m.left.getD dp 0=0):
 Calls prog 53 #[Pt M 0,.slice (some (Ad b o)) n cap,Im k] w λe w'=>e=.returned (Im t)/\kQ B C w' M SB v m/\Below B w w':=by
 have HP:Hid (∀n,kQ B C (w.drewN n) M SB v m/\Below B w (w.drewN n)):=λn=>⟨hm.drewN n,below_drewN (dK _ _) n⟩;have cl:=hm.left dp hd;rw[hz]at cl;obtain⟨s0,s1,s2,s3,s4,s5,s6⟩:=hst;simp only at s0 s1 s2 s3 s4 s5 s6;clear hm s4 s2 s0 s3 s1 hz;have i4:(0:Int)<=(dp:Int):=by omega
 have j4:(dp:Int)<8:=by omega
 have i5:(0:Int)<=(k:Int):=by omega
 have j5:(k:Int)<(n:Int):=by omega
 go_enter func53,ntmps53;go_wp2_with fail;go_quiet (fail);go_wp2_with fail;go_ret;exact⟨rfl,HP.out _⟩
theorem aty(hm:kQ B C w M SB v m)(b o n cap:Nat)(k:Nat)(q l:Int)(x:Nat)(c d:Int)(dp:Nat)(t:Int)(hb:b<B)(hk:k<n)(hn:n<=1000000)(hst:zG w b (o+k * 7) ⟨q,l,x,c,d,dp,t⟩)(hx:x<m.jD.length)(hd:dp<8)(hz:¬m.left.getD dp 0=0):
 Calls prog 53 #[Pt M 0,.slice (some (Ad b o)) n cap,Im k] w λe w'=>e=.returned (Im (k+1))/\
  kQ B C w' M SB v ((m.put x (Hx.tz (m.left.getD dp 0))).lX dp (bits .and .u64 (m.left.getD dp 0) (IntKind.u64.wrap (m.left.getD dp 0-1))))/\Below B w w':=by
 have htz:=Hx.agV _ (hm.G9 dp).1 (hm.G9 dp).2
 have HP:Hid (∀n1 n2,kQ B C ((((w.drewN n1).setCell (Ad SB x) (Im (Hx.tz (m.left.getD dp 0)))).drewN n2).setCell (Ad M (4+dp)) (.int .u64 (bits .and .u64 (m.left.getD dp 0) (IntKind.u64.wrap (m.left.getD dp 0-1))))) M SB v
       ((m.put x (Hx.tz (m.left.getD dp 0))).lX dp (bits .and .u64 (m.left.getD dp 0) (IntKind.u64.wrap (m.left.getD dp 0-1))))/\
  Below B w ((((w.drewN n1).setCell (Ad SB x) (Im (Hx.tz (m.left.getD dp 0)))).drewN n2).setCell (Ad M (4+dp)) (.int .u64 (bits .and .u64 (m.left.getD dp 0) (IntKind.u64.wrap (m.left.getD dp 0-1)))))):=λn1 n2=>by
  refine⟨?_,(below_drewN ((below_drewN (dK _ _) n1).setCell (p:=(Ad SB x)) hm.bS _) n2).setCell (p:=(Ad M (4+dp))) hm.bM _⟩;refine(((hm.drewN n1).put hx ?_).drewN n2).lX hd ?_
  .exact⟨by omega,by omega⟩
  .exact⟨bits_lo_u64 _ _ _,by have:=bits_hi_u64 .and (m.left.getD dp 0) (IntKind.u64.wrap (m.left.getD dp 0-1));omega⟩
 have HT:=jA (λn=>(hm.drewN n).J8);have hs:=hm.jD;have cx:=hm.slot x hx;have fx:=hm.CB x hx;have cl:=hm.left dp hd;have fl:=hm.Jw dp hd;have ne1:¬SB=M:=λe=>hm.ne e.symm;have ne2:¬b=SB:=by have:=hm.bS;omega
 have ne3:¬SB=b:=λe=>ne2 e.symm;have il:=hm.G9 dp;obtain⟨s0,s1,s2,s3,s4,s5,s6⟩:=hst;simp only at s0 s1 s2 s3 s4 s5 s6;clear hm s4 s0 s3 s1 s6 htz;generalize ((m.put x (Hx.tz (m.left.getD dp 0))).lX dp (bits .and .u64 (m.left.getD dp 0) (IntKind.u64.wrap (m.left.getD dp 0-1))))=m' at HP⊢;generalize m.left.getD dp 0=xl at *;generalize m.jD.getD x 0=xx at *;obtain⟨il0,il1⟩:=il;have hz':(xl==0)=false:=by simpa using hz
 have HL:=jA (jd il0 il1);clear hz il1;generalize m.jD.length=len at *;have i3:(0:Int)<=(x:Int):=by omega
 have j3:(x:Int)<(len:Int):=by omega
 have i4:(0:Int)<=(dp:Int):=by omega
 have j4:(dp:Int)<8:=by omega
 have i5:(0:Int)<=(k:Int):=by omega
 have j5:(k:Int)<(n:Int):=by omega
 go_enter func53,ntmps53;go_wp2_with fail;go_quiet (fail);go_wp2_with fail;refine CO 12 (by kernel_rfl) (by kernel_rfl) ?_;simp only[aC,aO,aG,aQ];repeat (go_big_quiet_step ((go_at_call 96;exact dN (agU xl HL.out.1 HL.out.2 _ (HT.out _)))))
 refine bF ?_;intro _ hw';obtain⟨n2,hw''⟩:=hw';subst hw'';go_wp2_with fail;refine nP 12 (by kernel_rfl) (by kernel_rfl) ?_;simp only[aC,aO,aG,aQ];repeat (go_big_quiet_step (fail))
 refine bF ?_;intro _ hw';obtain⟨n3,hw''⟩:=hw';subst hw'';go_wp2;go_ret;exact⟨rfl,HP.out _ _⟩
theorem Xd(hm:kQ B C w M SB v m)(b o n cap:Nat)(k:Nat)(s:St)(hb:b<B)(hk:k<n)(hn:n<=1000000)(hst:zG w b (o+k * 7) s)(hx:St.slot m.jD.length s.b)(hd:0<=s.depth/\s.depth<8):
 Calls prog 53 #[Pt M 0,.slice (some (Ad b o)) n cap,Im k] w λe w'=>e=.returned (Im (Hx.kS s k m).2)/\kQ B C w' M SB v (Hx.kS s k m).1/\Below B w w':=by
 obtain⟨q,a,x,c,d,dp,t⟩:=s;obtain⟨hx0,hx⟩:=hx;simp only at hx0 hx hd;obtain⟨x,rfl⟩:=bI hx0;obtain⟨dp,rfl⟩:=bI hd.1;by_cases hz:m.left.getD dp 0=0
 .refine(atz hm b o n cap k q a x c d dp t hk hst (by omega) hz).mono ?_;rintro e w' ⟨rfl,h2,h3⟩;have e1:Hx.kS ⟨q,a,x,c,d,dp,t⟩ k m=(m,t):=by
   unfold Hx.kS;rw[jh];simpa [Hx.Mc.ni]using hz
  rw[e1];exact⟨rfl,h2,h3⟩
 .refine(aty hm b o n cap k q a x c d dp t hb hk hn hst (by omega) (by omega) hz).mono ?_;rintro e w' ⟨rfl,h2,h3⟩;have e1:Hx.kS ⟨q,a,x,c,d,dp,t⟩ k m=((m.put x (Hx.tz (m.left.getD dp 0))).lX dp (bits .and .u64 (m.left.getD dp 0) (IntKind.u64.wrap (m.left.getD dp 0-1))),(k:Int)+1):=by
   unfold Hx.kS;rw[jg]
   .simp[Hx.Mc.ni]
   .simpa [Hx.Mc.ni]using hz
  rw[e1];exact⟨rfl,h2,h3⟩
theorem ap7(hm:kQ B C w M SB v m){a b:Nat}{x y:Int}(ha:a<m.jD.length)(hb:b<m.jD.length)(hx:jJ x)(hy:jJ y)(o:Obj)(n:Nat):
 kQ B C ((((w.alloc o).drewN n).setCell (Ad SB a) (Im x)).setCell (Ad SB b) (Im y)) M SB v ((m.put a x).put b y)/\
 Below B w ((((w.alloc o).drewN n).setCell (Ad SB a) (Im x)).setCell (Ad SB b) (Im y)):=by
 refine⟨(((hm.alloc o).drewN n).put ha hx).put (by simpa [Hx.Mc.put]using hb) hy,?_⟩;have:=hm.bS;have h0:=hm.size;have h1:=hm.cS;exact((below_drewN ((dK _ _).alloc (by omega) o) n).setCell (p:=(Ad SB a)) this _).setCell (p:=(Ad SB b)) this _
theorem ajO(hm:kQ B C w M SB v m)(a b c d:Nat)(better:Bool)(ha:a<m.jD.length)(hb:b<m.jD.length)(hc:c<m.jD.length)(hd:d<m.jD.length)
 (Pj:better=true\/m.jD.getD a 0= -1):
 Calls prog 99 #[Pt M 0,.agg #[Im a,Im b,Im c,Im d],.bool better] w λe w'=>e=.returned (.tuple #[])/\kQ B C w' M SB v ((m.put a (m.jD.getD c 0)).put b (m.jD.getD d 0))/\Below B w w':=by
 have HP:Hid (∀o n,kQ B C ((((w.alloc o).drewN n).setCell (Ad SB a) (Im (m.jD.getD c 0))).setCell (Ad SB b) (Im (m.jD.getD d 0))) M SB v ((m.put a (m.jD.getD c 0)).put b (m.jD.getD d 0))/\
  Below B w ((((w.alloc o).drewN n).setCell (Ad SB a) (Im (m.jD.getD c 0))).setCell (Ad SB b) (Im (m.jD.getD d 0)))):=λo n=>ap7 hm ha hb (hm.Du c) (hm.Du d) o n
 have hs:=hm.jD;have ca:=hm.slot a ha;have cb:=hm.slot b hb;have cc:=hm.slot c hc;have cd:=hm.slot d hd;have fa:=hm.CB a ha;have fb:=hm.CB b hb;have h0:=hm.size;have h1:=hm.cS;have h2:=hm.cM;have n1:¬SB=w.heap.size:=by omega
 have n3:¬SB=M:=λe=>hm.ne e.symm;have n2:¬M=w.heap.size:=by omega
 have FP:SB<w.heap.size:=by omega
 have hM:M<w.heap.size:=by omega
 generalize hm1:(m.put a (m.jD.getD c 0)).put b (m.jD.getD d 0)=m' at HP⊢;clear hm1 hm h0 h1 h2;generalize m.jD.getD a 0=xa at *;generalize m.jD.getD b 0=xb at *;generalize m.jD.getD c 0=xc at *;generalize m.jD.getD d 0=xd at *;generalize m.jD.length=len at *;have i1:(0:Int)<=(a:Int):=by omega
 have i2:(0:Int)<=(b:Int):=by omega
 have i3:(0:Int)<=(c:Int):=by omega
 have i4:(0:Int)<=(d:Int):=by omega
 have j1:(a:Int)<(len:Int):=by omega
 have j2:(b:Int)<(len:Int):=by omega
 have j3:(c:Int)<(len:Int):=by omega
 have j4:(d:Int)<(len:Int):=by omega
 have akZ:better=true\/better=false/\xa= -1:=by
  cases better
  .exact je ⟨rfl,Pj.resolve_left (by simp)⟩
  .exact jf rfl
 clear Pj;rcases akZ with rfl|⟨rfl,rfl⟩;all_goals
  by_cases hab:a=b
  .subst hab;go_enter func99,ntmps99;go_wp2_with fail;go_quiet (fail);go_wp2_with fail;go_quiet (fail);go_wp2_with fail;go_region_held3 (λw'=>w'.cell? (Ad M 3)=some (.slice (some (Ad SB 0)) len len)/\w'.cell? (Ad w.heap.size 0)=some (Im a)/\w'.cell? (Ad w.heap.size 1)=some (Im a)) (go_keep) (fail);go_wp2;go_end0;exact⟨rfl,HP.out _ _⟩
  .have hba:¬b=a:=λh=>hab h.symm;go_enter func99,ntmps99;go_wp2_with fail;go_quiet (fail);go_wp2_with fail;go_quiet (fail);go_wp2_with fail;go_region_held3 (λw'=>w'.cell? (Ad M 3)=some (.slice (some (Ad SB 0)) len len)/\w'.cell? (Ad w.heap.size 0)=some (Im a)/\w'.cell? (Ad w.heap.size 1)=some (Im b)) (go_keep) (fail);go_wp2;go_end0;exact⟨rfl,HP.out _ _⟩
theorem ajM(hm:kQ B C w M SB v m)(a b c d:Nat)(ha:a<m.jD.length)(hc:c<m.jD.length)(hd:d<m.jD.length)
 (Pj:¬m.jD.getD a 0= -1):
 Calls prog 99 #[Pt M 0,.agg #[Im a,Im b,Im c,Im d],.bool false] w λe w'=>e=.returned (.tuple #[])/\kQ B C w' M SB v m/\Below B w w':=by
 have h0:=hm.size;have h1:=hm.cS;have h2:=hm.cM;have h3:=hm.bM;have HP:Hid (∀o n,kQ B C ((w.alloc o).drewN n) M SB v m/\Below B w ((w.alloc o).drewN n)):=λo n=>⟨(hm.alloc o).drewN n,below_drewN ((dK _ _).alloc (by omega) o) n⟩;have hs:=hm.jD;have ca:=hm.slot a ha;have cc:=hm.slot c hc;have cd:=hm.slot d hd;have n1:¬SB=w.heap.size:=by omega
 have n2:¬M=w.heap.size:=by omega
 have FP:SB<w.heap.size:=by omega
 have hM:M<w.heap.size:=by omega
 clear hm h0 h1 h2 h3;generalize m.jD.getD a 0=xa at *;generalize m.jD.getD c 0=xc at *;generalize m.jD.getD d 0=xd at *;generalize m.jD.length=len at *;have i1:(0:Int)<=(a:Int):=by omega
 have i3:(0:Int)<=(c:Int):=by omega
 have i4:(0:Int)<=(d:Int):=by omega
 have j1:(a:Int)<(len:Int):=by omega
 have j3:(c:Int)<(len:Int):=by omega
 have j4:(d:Int)<(len:Int):=by omega
 have hx:(xa== -1)=false:=by simpa using Pj
 go_enter func99,ntmps99;go_wp2_with fail;go_quiet (fail);go_wp2_with fail;go_quiet (fail);go_wp2;go_end0;exact⟨rfl,by rw[World.drewN_drewN];exact HP.out _ _⟩
theorem aaz(hm:kQ B C w M SB v m)(a b c d:Nat)(better:Bool)(ha:a<m.jD.length)(hb:b<m.jD.length)(hc:c<m.jD.length)(hd:d<m.jD.length):
 Calls prog 99 #[Pt M 0,.agg #[Im a,Im b,Im c,Im d],.bool better] w λe w'=>e=.returned (.tuple #[])/\
  kQ B C w' M SB v (Hx.choose ⟨0,a,b,c,d,0,0⟩ better m)/\Below B w w':=by
 by_cases h:better=true\/m.jD.getD a 0= -1
 .refine(ajO hm a b c d better ha hb hc hd h).mono ?_;rintro e w' ⟨rfl,h1,h2⟩;have hk:(better||m.get (a:Int)== -1)=true:=by
   rcases h with rfl|h
   .rfl
   .simp only[Hx.Mc.get,bK,h];simp
  refine⟨rfl,?_,h2⟩;unfold Hx.choose;rw[jh hk];simpa [Hx.Mc.get]using h1
 .have hb':better=false:=by
   cases better
   .rfl
   .exact jl (jf rfl) h
  subst hb';have hx:¬m.jD.getD a 0= -1:=λe=>h (je e);refine(ajM hm a b c d ha hc hd hx).mono ?_;rintro e w' ⟨rfl,h1,h2⟩;refine⟨rfl,?_,h2⟩;unfold Hx.choose;have hk:¬(false||m.get (a:Int)== -1)=true:=by
   simp only[Hx.Mc.get,bK,gZ,beq_iff_eq];exact hx
  rw[jg hk];exact h1
end
end
section
open Go.RowKit
open Hx (Rd Pk Vw St Mc jJ)
attribute [local go_sem ↓] Go.wp_at_zero Go.wp_at_succ
section
variable {B C:Nat}{w:jk}{M SB:Nat}{v:Vw}{m:Mc}
theorem ae0(hm:kQ B C w M SB v m){a:Nat}{x:Int}(ha:a<m.jD.length)(hx:jJ x)(o:Obj)(n:Nat):
 kQ B C (((w.alloc o).drewN n).setCell (Ad SB a) (Im x)) M SB v (m.put a x)/\
 Below B w (((w.alloc o).drewN n).setCell (Ad SB a) (Im x)):=by
 refine⟨((hm.alloc o).drewN n).put ha hx,?_⟩;have:=hm.bS;have h0:=hm.size;have h1:=hm.cS;exact(below_drewN ((dK _ _).alloc (by omega) o) n).setCell (p:=(Ad SB a)) this _
theorem S9(w:jk)(x:Addr)(u:jm)(c:Array jm)(t:jo)(i:Nat):((w.setCell x u).alloc (.cells c t)).cell? (Ad w.heap.size i)=c[i]? :=
 fQ _ _ _ _ (by simp)
theorem ae1(hm:kQ B C w M SB v m){a:Nat}{x:Int}(ha:a<m.jD.length)(hx:jJ x)(o:Obj)(n:Nat):
 kQ B C (((w.setCell (Ad SB a) (Im x)).alloc o).drewN n) M SB v (m.put a x)/\
 Below B w (((w.setCell (Ad SB a) (Im x)).alloc o).drewN n):=by
 refine⟨((hm.put ha hx).alloc o).drewN n,?_⟩;have:=hm.bS;have h0:=hm.size;have h1:=hm.cS;exact below_drewN (((dK _ _).setCell (p:=(Ad SB a)) this _).alloc (by simp;omega) o) n
theorem aug(hm:kQ B C w M SB v m)(b o:Nat)(a:Nat)(x c d dp t:Int)(hb:b<B)(hst:zG w b o ⟨6,a,x,c,d,dp,t⟩)(ha:a<m.jD.length)(hx:jJ x):
 Calls prog 55 #[Pt M 0,Pt b o] w λe w'=>e=.returned (.tuple #[])/\kQ B C w' M SB v (m.put a x)/\Below B w w':=by
 have HP:Hid (∀o n,kQ B C (((w.setCell (Ad SB a) (Im x)).alloc o).drewN n) M SB v (m.put a x)/\
  Below B w (((w.setCell (Ad SB a) (Im x)).alloc o).drewN n)):=λo n=>ae1 hm ha hx o n
 have kb:=λ(u:jm)(c:Array jm)(i:Nat)=>S9 w (Ad SB a) u c 123 i;have hs:=hm.jD;have ca:=hm.slot a ha;have fa:=hm.CB a ha;have h0:=hm.size;have h1:=hm.cS;have h2:=hm.cM;have h3:=hm.bM;have n1:¬SB=w.heap.size:=by omega
 have n3:¬SB=M:=λe=>hm.ne e.symm;have n2:¬M=w.heap.size:=by omega
 have n4:¬b=w.heap.size:=by omega
 have FP:SB<w.heap.size:=by omega
 have hM:M<w.heap.size:=by omega
 have hbs:b<w.heap.size:=by omega
 obtain⟨s0,s1,s2,s3,s4,s5,s6⟩:=hst;simp only at s0 s1 s2 s3 s4;clear hm h0 h1 h2 h3 s5 s6;generalize m.jD.getD a 0=xa at *;generalize m.jD.length=len at *;have i1:(0:Int)<=(a:Int):=by omega
 have j1:(a:Int)<(len:Int):=by omega
 go_enter func55,ntmps55;go_wp2_with fail;go_region_held3 (λw'=>w'.cell? (Ad M 3)=some (.slice (some (Ad SB 0)) len len)/\w'.cell? (Ad w.heap.size 0)=some (Im a)/\w'.cell? (Ad w.heap.size 1)=some (Im x)) (go_keep) (fail);go_wp2;go_end0;exact⟨rfl,HP.out _ 1⟩
theorem ah5(v:Vw)(l:Int):jJ (v.all l):=by
 unfold Hx.Vw.all Hx.tN;repeat' split
 all_goals exact Hx.Dv _
theorem aub(hm:kQ B C w M SB v m)(b o:Nat)(a:Nat)(l c d dp t:Int)(hb:b<B)(hst:zG w b o ⟨21,a,l,c,d,dp,t⟩)(ha:a<m.jD.length):
 Calls prog 55 #[Pt M 0,Pt b o] w λe w'=>e=.returned (.tuple #[])/\kQ B C w' M SB v (m.put a (v.all l))/\Below B w w':=by
 have HP:Hid (∀o n,kQ B C (((w.alloc o).drewN n).setCell (Ad SB a) (Im (v.all l))) M SB v (m.put a (v.all l))/\
  Below B w (((w.alloc o).drewN n).setCell (Ad SB a) (Im (v.all l)))):=λo n=>ae0 hm ha (ah5 v l) o n
 have kb:=λ(u:jm)(c:Array jm)(i:Nat)=>S9 w (Ad SB a) u c 123 i;have HV:Hid (∀o n,BI B ((w.alloc o).drewN n) M v):=λo n=>((hm.alloc o).drewN n).view;have ca:=hm.slot a ha;have fa:=hm.CB a ha;have hs:=hm.jD;have h0:=hm.size;have h1:=hm.cS;have h2:=hm.cM;have h3:=hm.bM;have n1:¬SB=w.heap.size:=by omega
 have n3:¬SB=M:=λe=>hm.ne e.symm;have n2:¬M=w.heap.size:=by omega
 have n4:¬b=w.heap.size:=by omega
 have FP:SB<w.heap.size:=by omega
 have hM:M<w.heap.size:=by omega
 have hbs:b<w.heap.size:=by omega
 obtain⟨s0,s1,s2,s3,s4,s5,s6⟩:=hst;simp only at s0 s1 s2 s3 s4;clear hm h0 h1 h2 h3 s5 s6;generalize m.jD.getD a 0=xa at *;generalize m.jD.length=len at *;have i1:(0:Int)<=(a:Int):=by omega
 have j1:(a:Int)<(len:Int):=by omega
 go_enter func55,ntmps55;go_wp2_with fail;go_region_held3 (λw'=>w'.cell? (Ad M 3)=some (.slice (some (Ad SB 0)) len len)/\w'.cell? (Ad w.heap.size 0)=some (Im a)/\w'.cell? (Ad w.heap.size 1)=some (Im l)) (go_keep)
  ((go_at_call 95;refine(ZE B M _ v _ (HV.out _ 1)).mono ?_;rintro e w' ⟨rfl,rfl⟩))
 go_wp2;go_end0;exact⟨rfl,HP.out _ 1⟩
theorem aud(hm:kQ B C w M SB v m)(b o:Nat)(a x:Nat)(c d dp t:Int)(hb:b<B)(hst:zG w b o ⟨22,a,x,c,d,dp,t⟩)(ha:a<m.jD.length)(hx:x<m.jD.length):
 Calls prog 55 #[Pt M 0,Pt b o] w λe w'=>e=.returned (.tuple #[])/\kQ B C w' M SB v (m.put a (Hx.vP (m.jD.getD a 0) (m.jD.getD x 0)))/\Below B w w':=by
 have HP:Hid (∀o n,kQ B C (((w.setCell (Ad SB a) (Im (Hx.vP (m.jD.getD a 0) (m.jD.getD x 0)))).alloc o).drewN n) M SB v (m.put a (Hx.vP (m.jD.getD a 0) (m.jD.getD x 0)))/\
  Below B w (((w.setCell (Ad SB a) (Im (Hx.vP (m.jD.getD a 0) (m.jD.getD x 0)))).alloc o).drewN n)):=λo n=>ae1 hm ha (Hx.Js _ _ _) o n
 have kb:=λ(u:jm)(c:Array jm)(i:Nat)=>S9 w (Ad SB a) u c 123 i;have ca:=hm.slot a ha;have fa:=hm.CB a ha;have cx:=hm.slot x hx;have hs:=hm.jD;have h0:=hm.size;have h1:=hm.cS;have h2:=hm.cM;have h3:=hm.bM;have n1:¬SB=w.heap.size:=by omega
 have n3:¬SB=M:=λe=>hm.ne e.symm;have n2:¬M=w.heap.size:=by omega
 have n4:¬b=w.heap.size:=by omega
 have FP:SB<w.heap.size:=by omega
 have hM:M<w.heap.size:=by omega
 have hbs:b<w.heap.size:=by omega
 obtain⟨s0,s1,s2,s3,s4,s5,s6⟩:=hst;simp only at s0 s1 s2 s3 s4;clear hm h0 h1 h2 h3 s5 s6;generalize hk:Hx.vP (m.jD.getD a 0) (m.jD.getD x 0)=kk at HP⊢;have HK:=hk.symm;clear hk;generalize m.jD.getD a 0=xa at *;generalize m.jD.getD x 0=xx at *;generalize m.jD.length=len at *;unfold Hx.vP Hx.pY at HK;subst HK;have i1:(0:Int)<=(a:Int):=by omega
 have j1:(a:Int)<(len:Int):=by omega
 have i2:(0:Int)<=(x:Int):=by omega
 have j2:(x:Int)<(len:Int):=by omega
 have u0:0<=IntKind.u64.wrap xx:=by rw[IntKind.wrap_u64];omega
 have u1:IntKind.u64.wrap xx%64<64:=by omega
 have u2:0<=IntKind.u64.wrap xx%64:=by omega
 go_enter func55,ntmps55;go_wp2_with fail;go_region;go_wp2;go_end0;exact⟨rfl,HP.out _ 1⟩
theorem ahe{P:Program}{id:Nat}{Q:Exit->Act->jk->Prop}{a:Act}{w:jk}{l:List Oper}(n:Nat)(hm:P.follows .mixedOrders=true)(hB:Region.lexTailB .any l.toArray n=true)
 (h:wpStill P l.toArray w.drew (λa'=>wpList P l.toArray Q (l.drop n) a' w.drew) (l.take n) a):(Code.region id l.toArray true).wp P Q a w:=
 wp_region_still_tail n hm hB h
theorem aue(hm:kQ B C w M SB v m)(b o:Nat)(a x c d:Nat)(dp t:Int)(hb:b<B)(hst:zG w b o ⟨25,a,x,c,d,dp,t⟩)(ha:a<m.jD.length)(hx:x<m.jD.length)(hc:c<m.jD.length)(hd:d<m.jD.length):
 Calls prog 55 #[Pt M 0,Pt b o] w λe w'=>e=.returned (.tuple #[])/\kQ B C w' M SB v (Hx.choose ⟨0,a,x,c,d,0,0⟩ (decide (m.jD.getD d 0<m.jD.getD x 0)) m)/\Below B w w':=by
 have HC:Hid (∀(o:Obj)(better:Bool),Calls prog 99 #[Pt M 0,.agg #[Im a,Im x,Im c,Im d],.bool better] ((w.alloc o).drew) λe w'=>e=.returned (.tuple #[])/\
  kQ B C w' M SB v (Hx.choose ⟨0,a,x,c,d,0,0⟩ better m)/\Below B ((w.alloc o).drew) w'):=λo better=>aaz ((hm.alloc o).drewN 1) a x c d better ha hx hc hd
 have HB:Hid (∀(o:Obj)(n:Nat),Below B w ((w.alloc o).drewN n)):=λo n=>below_drewN ((dK _ _).alloc (by have:=hm.size;have:=hm.cM;have:=hm.bM;omega) o) n;have cx:=hm.slot x hx;have cd:=hm.slot d hd;have hs:=hm.jD;have h0:=hm.size;have h1:=hm.cS;have h2:=hm.cM;have h3:=hm.bM;have n1:¬SB=w.heap.size:=by omega
 have n3:¬SB=M:=λe=>hm.ne e.symm;have n2:¬M=w.heap.size:=by omega
 have n4:¬b=w.heap.size:=by omega
 have FP:SB<w.heap.size:=by omega
 have hM:M<w.heap.size:=by omega
 have hbs:b<w.heap.size:=by omega
 obtain⟨s0,s1,s2,s3,s4,s5,s6⟩:=hst;simp only at s0 s1 s2 s3 s4;clear hm h0 h1 h2 h3 s5 s6;generalize m.jD.getD x 0=xx at *;generalize m.jD.getD d 0=xd at *;generalize m.jD.length=len at *;have i2:(0:Int)<=(x:Int):=by omega
 have j2:(x:Int)<(len:Int):=by omega
 have i4:(0:Int)<=(d:Int):=by omega
 have j4:(d:Int)<(len:Int):=by omega
 go_enter func55,ntmps55;go_wp2_with fail;refine ahe 19 (by kernel_rfl) (by kernel_rfl) ?_;simp only[aC,aO,aG,aQ];repeat still_step
 refine wpStill_nil ?_;go_wp2_with fail;refine(HC.out _ _).mono ?_;rintro e w1 ⟨rfl,hm1,hb1⟩;go_wp2;go_end0;exact⟨rfl,hm1,(HB.out _ 1).trans hb1⟩
theorem auf(hm:kQ B C w M SB v m)(b o:Nat)(a x c d:Nat)(dp t:Int)(hb:b<B)(hst:zG w b o ⟨26,a,x,c,d,dp,t⟩)(ha:a<m.jD.length)(hx:x<m.jD.length)(hc:c<m.jD.length)(hd:d<m.jD.length):
 Calls prog 55 #[Pt M 0,Pt b o] w λe w'=>e=.returned (.tuple #[])/\kQ B C w' M SB v (Hx.choose ⟨0,a,x,c,d,0,0⟩ (decide (m.jD.getD x 0<m.jD.getD d 0)) m)/\Below B w w':=by
 have HC:Hid (∀(o:Obj)(better:Bool),Calls prog 99 #[Pt M 0,.agg #[Im a,Im x,Im c,Im d],.bool better] ((w.alloc o).drew) λe w'=>e=.returned (.tuple #[])/\
  kQ B C w' M SB v (Hx.choose ⟨0,a,x,c,d,0,0⟩ better m)/\Below B ((w.alloc o).drew) w'):=λo better=>aaz ((hm.alloc o).drewN 1) a x c d better ha hx hc hd
 have HB:Hid (∀(o:Obj)(n:Nat),Below B w ((w.alloc o).drewN n)):=λo n=>below_drewN ((dK _ _).alloc (by have:=hm.size;have:=hm.cM;have:=hm.bM;omega) o) n;have cx:=hm.slot x hx;have cd:=hm.slot d hd;have hs:=hm.jD;have h0:=hm.size;have h1:=hm.cS;have h2:=hm.cM;have h3:=hm.bM;have n1:¬SB=w.heap.size:=by omega
 have n3:¬SB=M:=λe=>hm.ne e.symm;have n2:¬M=w.heap.size:=by omega
 have n4:¬b=w.heap.size:=by omega
 have FP:SB<w.heap.size:=by omega
 have hM:M<w.heap.size:=by omega
 have hbs:b<w.heap.size:=by omega
 obtain⟨s0,s1,s2,s3,s4,s5,s6⟩:=hst;simp only at s0 s1 s2 s3 s4;clear hm h0 h1 h2 h3 s5 s6;generalize m.jD.getD x 0=xx at *;generalize m.jD.getD d 0=xd at *;generalize m.jD.length=len at *;have i2:(0:Int)<=(x:Int):=by omega
 have j2:(x:Int)<(len:Int):=by omega
 have i4:(0:Int)<=(d:Int):=by omega
 have j4:(d:Int)<(len:Int):=by omega
 go_enter func55,ntmps55;go_wp2_with fail;refine ahe 19 (by kernel_rfl) (by kernel_rfl) ?_;simp only[aC,aO,aG,aQ];repeat still_step
 refine wpStill_nil ?_;go_wp2_with fail;refine(HC.out _ _).mono ?_;rintro e w1 ⟨rfl,hm1,hb1⟩;go_wp2;go_end0;exact⟨rfl,hm1,(HB.out _ 1).trans hb1⟩
end
end
section
open Go.RowKit
open Hx (Rd Pk Vw St Mc jJ)
section
variable {B C:Nat}{w:jk}{M SB:Nat}{v:Vw}{m:Mc}
theorem auh(hm:kQ B C w M SB v m)(b o:Nat)(q:Int)(a x c:Nat)(d dp t:Int)(hb:b<B)(hst:zG w b o ⟨q,a,x,c,d,dp,t⟩)(ha:a<m.jD.length)(hx:x<m.jD.length)(hc:c<m.jD.length)
 (q1:(q==6)=false)(q2:(q==21)=false)(q3:(q==22)=false)(q4:(q==25)=false)(q5:(q==26)=false)(hin:jJ (Hx.outcome v q (m.jD.getD x 0) (m.jD.getD c 0))):
 Calls prog 55 #[Pt M 0,Pt b o] w λe w'=>e=.returned (.tuple #[])/\kQ B C w' M SB v (m.put a (Hx.outcome v q (m.jD.getD x 0) (m.jD.getD c 0)))/\Below B w w':=by
 have HP:Hid (∀o n,kQ B C (((w.alloc o).drewN n).setCell (Ad SB a) (Im (Hx.outcome v q (m.jD.getD x 0) (m.jD.getD c 0)))) M SB v (m.put a (Hx.outcome v q (m.jD.getD x 0) (m.jD.getD c 0)))/\
  Below B w (((w.alloc o).drewN n).setCell (Ad SB a) (Im (Hx.outcome v q (m.jD.getD x 0) (m.jD.getD c 0))))):=λo n=>ae0 hm ha hin o n
 have HV:Hid (∀o n,BI B ((w.alloc o).drewN n) M v/\vJ ((w.alloc o).drewN n)):=λo n=>⟨((hm.alloc o).drewN n).view,((hm.alloc o).drewN n).J8⟩;have hxm:m.jD.getD x 0<=9223372036854775807:=(hm.Du x).2;have ca:=hm.slot a ha;have fa:=hm.CB a ha;have cx:=hm.slot x hx;have cc:=hm.slot c hc;have hs:=hm.jD;have h0:=hm.size;have h1:=hm.cS;have h2:=hm.cM;have h3:=hm.bM;have n1:¬SB=w.heap.size:=by omega
 have n3:¬SB=M:=λe=>hm.ne e.symm;have n2:¬M=w.heap.size:=by omega
 have n4:¬b=w.heap.size:=by omega
 have FP:SB<w.heap.size:=by omega
 have hM:M<w.heap.size:=by omega
 have hbs:b<w.heap.size:=by omega
 obtain⟨s0,s1,s2,s3,s4,s5,s6⟩:=hst;simp only at s0 s1 s2 s3 s4;clear hm h0 h1 h2 h3 s5 s6 hin;generalize m.jD.getD a 0=xa at *;generalize m.jD.getD x 0=xx at *;generalize m.jD.getD c 0=xc at *;generalize hy:Hx.outcome v q xx xc=y at HP⊢;have HY:Hid (Hx.outcome v q xx xc=y):=hy;clear hy;generalize m.jD.length=len at *;have i1:(0:Int)<=(a:Int):=by omega
 have j1:(a:Int)<(len:Int):=by omega
 have i2:(0:Int)<=(x:Int):=by omega
 have j2:(x:Int)<(len:Int):=by omega
 have i3:(0:Int)<=(c:Int):=by omega
 have j3:(c:Int)<(len:Int):=by omega
 go_enter func55,ntmps55;go_wp2_with fail;refine nP 29 (by kernel_rfl) (by kernel_rfl) ?_;simp only[aC,aO,aG,aQ];repeat (go_big_quiet_step ((go_at_call 100;exact Calls.quiet_of (apc B M q xx xc v _ (HV.out _ _).1 (HV.out _ _).2 hxm))))
 refine bF ?_;intro _ hw';obtain⟨nq,hw''⟩:=hw';subst hw'';rw[HY.out];go_wp2;go_end0;exact⟨rfl,HP.out _ _⟩
theorem auc(hm:kQ B C w M SB v m)(b o:Nat)(s:St)(hb:b<B)(hst:zG w b o s)(hs:s.Rw m.jD.length):
 Calls prog 55 #[Pt M 0,Pt b o] w λe w'=>e=.returned (.tuple #[])/\kQ B C w' M SB v (Hx.work v s m)/\Below B w w':=by
 obtain⟨q,a,x,c,d,dp,t⟩:=s;obtain⟨h1,⟨ha0,ha⟩,hs⟩:=hs;simp only at h1 ha0 ha hs;obtain⟨a,rfl⟩:=bI ha0;have ha':a<m.jD.length:=by omega
 by_cases q1:q=6
 .subst q1;refine(aug hm b o a x c d dp t hb hst ha' h1).mono ?_;rintro e w' ⟨rfl,h2,h3⟩;exact⟨rfl,by simpa [Hx.work]using h2,h3⟩
 by_cases q2:q=21
 .subst q2;refine(aub hm b o a x c d dp t hb hst ha').mono ?_;rintro e w' ⟨rfl,h2,h3⟩;exact⟨rfl,by simpa [Hx.work]using h2,h3⟩
 obtain⟨⟨hx0,hx⟩,hs2⟩:=(hs.resolve_left q1).resolve_left q2;clear hs;obtain⟨x,rfl⟩:=bI hx0;have hx':x<m.jD.length:=by omega
 by_cases q3:q=22
 .subst q3;refine(aud hm b o a x c d dp t hb hst ha' hx').mono ?_;rintro e w' ⟨rfl,h2,h3⟩;exact⟨rfl,by simpa [Hx.work,Hx.Mc.get]using h2,h3⟩
 obtain⟨⟨hc0,hc⟩,hs3⟩:=hs2.resolve_left q3;clear hs2;obtain⟨c,rfl⟩:=bI hc0;have hc':c<m.jD.length:=by omega
 by_cases q4:q=25
 .subst q4;obtain⟨hd0,hd⟩:=hs3 (jf rfl);obtain⟨d,rfl⟩:=bI hd0;refine(aue hm b o a x c d dp t hb hst ha' hx' hc' (by omega)).mono ?_;rintro e w' ⟨rfl,h2,h3⟩;exact⟨rfl,by simpa [Hx.work,Hx.choose,Hx.Mc.get]using h2,h3⟩
 by_cases q5:q=26
 .subst q5;obtain⟨hd0,hd⟩:=hs3 (je rfl);obtain⟨d,rfl⟩:=bI hd0;refine(auf hm b o a x c d dp t hb hst ha' hx' hc' (by omega)).mono ?_;rintro e w' ⟨rfl,h2,h3⟩;exact⟨rfl,by simpa [Hx.work,Hx.choose,Hx.Mc.get]using h2,h3⟩
 refine(auh hm b o q a x c d dp t hb hst ha' hx' hc' (by simpa using q1) (by simpa using q2) (by simpa using q3) (by simpa using q4) (by simpa using q5) (Hx.Uz hm.view.Ij _ _ _ (hm.Du x))).mono ?_;rintro e w' ⟨rfl,h2,h3⟩;exact⟨rfl,by simpa [Hx.work,Hx.Mc.get,q1,q2,q3,q4,q5]using h2,h3⟩
end
def uH:Int->List Rd->Bool
 |_,[]=>true
 |seen,r::rs=>if r.id<0\/8<=r.id\/Hx.Pg seen r.id=true then false else uH (bits .or .i64 seen (wrap64 (2^r.id.toNat))) rs
def zZ(v:Vw):Bool:=decide (v.pW.length<=8)&&decide (v.qK.length<=16)&&decide (v.qJ.length<=16)&&uH 0 v.pW
theorem ab8:∀(rs:List Rd)(seen:Int),uH seen rs=true->∀r∈rs,0<=r.id/\r.id<8
 |[],_,_,r,hr=>by cases hr
 |q::rs,seen,h,r,hr=>by
  unfold uH at h;split at h
  .cases h
  .rename_i hq;rcases dh.1 hr with rfl|hr
   .omega
   .exact ab8 rs _ h r hr
theorem YL{v:Vw}(h:zZ v=true):Good v:=by
 simp only[zZ,dD,decide_eq_true_eq]at h;exact⟨h.1.1.1,h.1.1.2,h.1.2,ab8 _ _ h.2⟩
theorem amq(ar af aa:Option Addr)(nr cr nf cf na ca:Nat)(w:jk)(hl:8<nr\/16<nf\/16<na):
 Calls prog 50 #[.agg #[.slice ar nr cr,.slice af nf cf,.slice aa na ca]] w λe w'=>e=.returned (.bool false)/\Below w.heap.size w w':=by
 by_cases h1:8<nr
 .have d1:decide ((8:Int)<(nr:Int))=true:=by simp;omega
  go_enter func50,ntmps50;go_wp2;go_ret;exact⟨rfl,(dK _ _).alloc (aj _) _⟩
 .have d1:decide ((8:Int)<(nr:Int))=false:=by simp;omega
  by_cases h2:16<nf
  .have d2:decide ((16:Int)<(nf:Int))=true:=by simp;omega
   go_enter func50,ntmps50;go_wp2;go_ret;exact⟨rfl,(dK _ _).alloc (aj _) _⟩
  .have d2:decide ((16:Int)<(nf:Int))=false:=by simp;omega
   have d3:decide ((16:Int)<(na:Int))=true:=by simp;omega
   go_enter func50,ntmps50;go_wp2;go_ret;exact⟨rfl,(dK _ _).alloc (aj _) _⟩
theorem amr(ar af aa:Option Addr)(nr cr nf cf na ca:Nat)(rs:List Rd)(w:jk)(hn:nr=rs.length)(h1:nr<=8)(h2:nf<=16)(h3:na<=16)(hr:IU w.heap.size w ar rs):
 Calls prog 50 #[.agg #[.slice ar nr cr,.slice af nf cf,.slice aa na ca]] w λe w'=>e=.returned (.bool (uH 0 rs))/\Below w.heap.size w w':=by
 have d1:decide ((8:Int)<(nr:Int))=false:=by simp;omega
 have d2:decide ((16:Int)<(nf:Int))=false:=by simp;omega
 have d3:decide ((16:Int)<(na:Int))=false:=by simp;omega
 have HN:=jA hn;clear hn;go_enter func50,ntmps50;go_wp2;go_loopw [3,25] (λsn i wr=>∃(k:Nat)(seen:Int),k<=nr/\i=Im k/\sn=Im seen/\Hid (uH 0 rs=uH seen (rs.drop k))/\Below w.heap.size w wr/\Hid (w.heap.size<wr.heap.size)) (λ_ i _=>nr-(intOf i).toNat)
 case atStart=>exact⟨0,0,bD _,rfl,rfl,rfl,(dK _ _).alloc (aj _) _,by show _<_;simp⟩
 case round=>
  obtain⟨k,seen,hk,rfl,rfl,HE,hb,HS⟩:=hrel;by_cases hlt:k<nr
  .have hkl:k<rs.length:=by have:=HN.out;omega
   have hget:rs[k]? =some rs[k]:=by simp
   obtain⟨b,o,rfl,hbb,b',o',e,c1,c2,c3,c4,c5⟩:=hr k _ hget;obtain⟨rfl,rfl⟩:b=b'/\o+k * 5=o':=by simpa using e
   have HD:Hid (rs.drop k=rs[k]::rs.drop (k+1)):=dA (by omega);generalize rs[k]=r at *;have w1:=(hb.cell (p:=(Ad b (o+k * 5))) hbb).trans c1;have w2:=(hb.cell (p:=(Ad b (o+k * 5+1))) hbb).trans c2;have w3:=(hb.cell (p:=(Ad b (o+k * 5+2))) hbb).trans c3;have w4:=(hb.cell (p:=(Ad b (o+k * 5+3))) hbb).trans c4;have w5:=(hb.cell (p:=(Ad b (o+k * 5+4))) hbb).trans c5;have HB:=jA (λo=>hb.alloc (by have:=HS.out;omega) o);have i1:(0:Int)<=(k:Int):=by omega
   have j1:(k:Int)<(nr:Int):=by omega
   clear hr hget e c1 c2 c3 c4 c5 hb hkl;by_cases t1:r.id<0
   .have t1':decide (r.id<0)=true:=by simpa using t1
    have HF:Hid (uH 0 rs=false):=by
     show uH 0 rs=false;rw[HE.out,HD.out];unfold uH;rw[jh (jf t1)]
    clear t1;go_wp2;go_ret;exact⟨Ba HF.out.symm,HB.out _⟩
   .have t1':decide (r.id<0)=false:=by simpa using t1
    by_cases t2:8<=r.id
    .have t2':decide (8<=r.id)=true:=by simpa using t2
     have HF:Hid (uH 0 rs=false):=by
      show uH 0 rs=false;rw[HE.out,HD.out];unfold uH;rw[jh (je (jf t2))]
     clear t1 t2;go_wp2;go_ret;exact⟨Ba HF.out.symm,HB.out _⟩
    .have t2':decide (8<=r.id)=false:=by simpa using t2
     have k0:0<=r.id:=by omega
     have k8:r.id<8:=by omega
     cases hbit:Hx.Pg seen r.id with
     |true=>
      have HF:Hid (uH 0 rs=false):=by
       show uH 0 rs=false;rw[HE.out,HD.out];unfold uH;rw[jh (je (je hbit))]
      have HC:Hid (∀w,Calls prog 94 #[Im seen,Im r.id] w λe w'=>e=.returned (.bool true)/\w'=w):=λw=>by rw[<-hbit];exact Uc seen r.id w k0 k8
      clear t1 t2 hbit;go_wp2_with (go_at_call 94;refine(HC.out _).mono ?_;rintro e w' ⟨rfl,rfl⟩);go_ret;exact⟨Ba HF.out.symm,HB.out _⟩
     |false=>
      have HF:Hid (uH 0 rs=uH (bits .or .i64 seen (wrap64 (2^r.id.toNat))) (rs.drop (k+1))):=by
       show uH 0 rs=_;rw[HE.out,HD.out];conv=>lhs;unfold uH
       rw[jg (by rw[hbit];simp;omega)]
      have HC:Hid (∀w,Calls prog 94 #[Im seen,Im r.id] w λe w'=>e=.returned (.bool false)/\w'=w):=λw=>by rw[<-hbit];exact Uc seen r.id w k0 k8
      clear t1 t2 hbit;go_wp2_with (go_at_call 94;refine(HC.out _).mono ?_;rintro e w' ⟨rfl,rfl⟩);go_roundw
      case rel=>exact⟨k+1,_,by omega,by go_num,rfl,HF,HB.out _,by have:=HS.out;show _<_;simp;omega⟩
      case measure=>simp[intOf];omega
  .have HF:Hid (uH 0 rs=true):=by
    rw[HE.out,List.drop_eq_nil_of_le (by have:=HN.out;omega)];rfl
   clear hr;go_wp2;go_ret;exact⟨Ba HF.out.symm,hb⟩
theorem IU.mono{B B':Nat}{w:jk}{a:Option Addr}{rs:List Rd}(h:IU B w a rs)(hB:B<=B'):IU B' w a rs:=λi r hr=>by
 obtain⟨b,o,e,hb,hp⟩:=h i r hr;exact⟨b,o,e,by omega,hp⟩
theorem amo{B:Nat}{w:jk}{ar af aa:Option Addr}{nr nf na:Nat}{v:Vw}(cr cf ca:Nat)(hv:yP B w ar af aa nr nf na v)(hB:B<=w.heap.size):
 Calls prog 50 #[.agg #[.slice ar nr cr,.slice af nf cf,.slice aa na ca]] w λe w'=>e=.returned (.bool (zZ v))/\Below w.heap.size w w':=by
 have e1:=hv.MZ;have e2:=hv.MW;have e3:=hv.MV;by_cases hl:8<nr\/16<nf\/16<na
 .refine(amq ar af aa nr cr nf cf na ca w hl).mono ?_;rintro e w' ⟨rfl,h⟩;refine⟨Ba ?_,h⟩;unfold zZ;rw[<-e1,<-e2,<-e3];rcases hl with hl|hl|hl
  .rw[dO (show¬nr<=8 by omega)];rfl
  .rw[dO (show¬nf<=16 by omega)];simp
  .rw[dO (show¬na<=16 by omega)];simp
 .refine(amr ar af aa nr cr nf cf na ca v.pW w e1 (by omega) (by omega) (by omega) (hv.pW.mono hB)).mono ?_;rintro e w' ⟨rfl,h⟩;refine⟨Ba ?_,h⟩;unfold zZ;rw[<-e1,<-e2,<-e3,dR (show nr<=8 by omega),dR (show nf<=16 by omega),dR (show na<=16 by omega)]
  rfl
end
end Go.Proofs.YthllhabjfchgiaaGreatDoor
