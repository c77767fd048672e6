import Derived.Deep.DrawnRows
import Derived.BigRegion
import Derived.StillTailTactics
import Derived.Test.YthllhabjfchgiaaGreatDoorHz02
set_option maxRecDepth 100000
set_option maxHeartbeats 8000000
namespace Go.Proofs.YthllhabjfchgiaaGreatDoor
open _root_.Go.Proofs.Tryz
section
open Go.RowKit
open Hx (Rd Pk Vw St Mc aZ)
section
variable {B C:Nat}{w:World}{M SB:Nat}{v:Vw}{m:Mc}
theorem agh(hm:cu B C w M SB v m){a b:Nat}{x y:Int}(ha:a<m.aF.length)(hb:b<m.aF.length)(hx:aZ x)(hy:aZ y)(o:Obj)(n:Nat):
 cu B C ((((w.alloc o).drewN n).setCell (Ad SB a) (Im x)).setCell (Ad SB b) (Im y)) M SB v ((m.put a x).put b y)/\
 Below B w ((((w.alloc o).drewN n).setCell (Ad SB a) (Im x)).setCell (Ad SB b) (Im y)):=by
 refine⟨(((hm.alloc o).drewN n).put ha hx).put (by simpa [Hx.Mc.put]using hb) hy,?_⟩;have:=hm.bS;have h0:=hm.size;have h1:=hm.cS;exact((below_drewN ((Below.refl _ _).alloc (by omega) o) n).setCell (p:=(Ad SB a)) this _).setCell (p:=(Ad SB b)) this _
theorem aaU(hm:cu B C w M SB v m)(a b c d:Nat)(better:Bool)(ha:a<m.aF.length)(hb:b<m.aF.length)(hc:c<m.aF.length)(hd:d<m.aF.length)
 (Ku:better=true\/m.aF.getD a 0= -1):
 Calls prog 99 #[Pt M 0,.agg #[Im a,Im b,Im c,Im d],.bool better] w fun e w'=>e=.returned (.tuple #[])/\cu B C w' M SB v ((m.put a (m.aF.getD c 0)).put b (m.aF.getD d 0))/\Below B w w':=by
 have HP:Hid (∀o n,cu B C ((((w.alloc o).drewN n).setCell (Ad SB a) (Im (m.aF.getD c 0))).setCell (Ad SB b) (Im (m.aF.getD d 0))) M SB v ((m.put a (m.aF.getD c 0)).put b (m.aF.getD d 0))/\
  Below B w ((((w.alloc o).drewN n).setCell (Ad SB a) (Im (m.aF.getD c 0))).setCell (Ad SB b) (Im (m.aF.getD d 0)))):=fun o n=>agh hm ha hb (hm.yM c) (hm.yM d) o n
 have hs:=hm.aF;have ca:=hm.slot a ha;have cb:=hm.slot b hb;have cc:=hm.slot c hc;have cd:=hm.slot d hd;have fa:=hm.xK a ha;have fb:=hm.xK b hb;have h0:=hm.size;have h1:=hm.cS;have h2:=hm.cM;have n1:¬SB=w.heap.size:=by omega
 have n3:¬SB=M:=fun e=>hm.ne e.symm;have n2:¬M=w.heap.size:=by omega
 have Ba:SB<w.heap.size:=by omega
 have hM:M<w.heap.size:=by omega
 generalize hm1:(m.put a (m.aF.getD c 0)).put b (m.aF.getD d 0)=m' at HP⊢;clear hm1 hm h0 h1 h2;generalize m.aF.getD a 0=xa at *;generalize m.aF.getD b 0=xb at *;generalize m.aF.getD c 0=xc at *;generalize m.aF.getD d 0=xd at *;generalize m.aF.length=len at *;have i1:(0:Int)<=(a:Int):=by omega
 have i2:(0:Int)<=(b:Int):=by omega
 have i3:(0:Int)<=(c:Int):=by omega
 have i4:(0:Int)<=(d:Int):=by omega
 have j1:(a:Int)<(len:Int):=by omega
 have j2:(b:Int)<(len:Int):=by omega
 have j3:(c:Int)<(len:Int):=by omega
 have j4:(d:Int)<(len:Int):=by omega
 have abW:better=true\/better=false/\xa= -1:=by
  cases better
  .exact Or.inr ⟨rfl,Ku.resolve_left (by simp)⟩
  .exact Or.inl rfl
 clear Ku;rcases abW with rfl|⟨rfl,rfl⟩;all_goals
  by_cases hab:a=b
  .subst hab;go_enter func99,ntmps99;go_wp2_with fail;go_quiet (fail);go_wp2_with fail;go_quiet (fail);go_wp2_with fail;go_region_held3 (fun w'=>w'.cell? (Ad M 3)=some (.slice (some (Ad SB 0)) len len)/\w'.cell? (Ad w.heap.size 0)=some (Im a)/\w'.cell? (Ad w.heap.size 1)=some (Im a)) (go_keep) (fail);go_wp2;go_end0;exact⟨rfl,HP.out _ _⟩
  .have hba:¬b=a:=fun h=>hab h.symm;go_enter func99,ntmps99;go_wp2_with fail;go_quiet (fail);go_wp2_with fail;go_quiet (fail);go_wp2_with fail;go_region_held3 (fun w'=>w'.cell? (Ad M 3)=some (.slice (some (Ad SB 0)) len len)/\w'.cell? (Ad w.heap.size 0)=some (Im a)/\w'.cell? (Ad w.heap.size 1)=some (Im b)) (go_keep) (fail);go_wp2;go_end0;exact⟨rfl,HP.out _ _⟩
theorem aaT(hm:cu B C w M SB v m)(a b c d:Nat)(ha:a<m.aF.length)(hc:c<m.aF.length)(hd:d<m.aF.length)
 (Ku:¬m.aF.getD a 0= -1):
 Calls prog 99 #[Pt M 0,.agg #[Im a,Im b,Im c,Im d],.bool false] w fun e w'=>e=.returned (.tuple #[])/\cu B C w' M SB v m/\Below B w w':=by
 have h0:=hm.size;have h1:=hm.cS;have h2:=hm.cM;have h3:=hm.bM;have HP:Hid (∀o n,cu B C ((w.alloc o).drewN n) M SB v m/\Below B w ((w.alloc o).drewN n)):=fun o n=>⟨(hm.alloc o).drewN n,below_drewN ((Below.refl _ _).alloc (by omega) o) n⟩;have hs:=hm.aF;have ca:=hm.slot a ha;have cc:=hm.slot c hc;have cd:=hm.slot d hd;have n1:¬SB=w.heap.size:=by omega
 have n2:¬M=w.heap.size:=by omega
 have Ba:SB<w.heap.size:=by omega
 have hM:M<w.heap.size:=by omega
 clear hm h0 h1 h2 h3;generalize m.aF.getD a 0=xa at *;generalize m.aF.getD c 0=xc at *;generalize m.aF.getD d 0=xd at *;generalize m.aF.length=len at *;have i1:(0:Int)<=(a:Int):=by omega
 have i3:(0:Int)<=(c:Int):=by omega
 have i4:(0:Int)<=(d:Int):=by omega
 have j1:(a:Int)<(len:Int):=by omega
 have j3:(c:Int)<(len:Int):=by omega
 have j4:(d:Int)<(len:Int):=by omega
 have hx:(xa== -1)=false:=by simpa using Ku
 go_enter func99,ntmps99;go_wp2_with fail;go_quiet (fail);go_wp2_with fail;go_quiet (fail);go_wp2;go_end0;exact⟨rfl,by rw[World.drewN_drewN];exact HP.out _ _⟩
theorem Tv(hm:cu B C w M SB v m)(a b c d:Nat)(better:Bool)(ha:a<m.aF.length)(hb:b<m.aF.length)(hc:c<m.aF.length)(hd:d<m.aF.length):
 Calls prog 99 #[Pt M 0,.agg #[Im a,Im b,Im c,Im d],.bool better] w fun e w'=>e=.returned (.tuple #[])/\
  cu B C w' M SB v (Hx.choose ⟨0,a,b,c,d,0,0⟩ better m)/\Below B w w':=by
 by_cases h:better=true\/m.aF.getD a 0= -1
 .refine(aaU hm a b c d better ha hb hc hd h).mono ?_;rintro e w' ⟨rfl,h1,h2⟩;have hk:(better||m.get (a:Int)== -1)=true:=by
   rcases h with rfl|h
   .rfl
   .simp only[Hx.Mc.get,Int.toNat_natCast,h];simp
  refine⟨rfl,?_,h2⟩;unfold Hx.choose;rw[if_pos hk];simpa [Hx.Mc.get]using h1
 .have hb':better=false:=by
   cases better
   .rfl
   .exact absurd (Or.inl rfl) h
  subst hb';have hx:¬m.aF.getD a 0= -1:=fun e=>h (Or.inr e);refine(aaT hm a b c d ha hc hd hx).mono ?_;rintro e w' ⟨rfl,h1,h2⟩;refine⟨rfl,?_,h2⟩;unfold Hx.choose;have hk:¬(false||m.get (a:Int)== -1)=true:=by
   simp only[Hx.Mc.get,Int.toNat_natCast,Bool.false_or,beq_iff_eq];exact hx
  rw[if_neg hk];exact h1
end
end
section
open Go.RowKit
open Hx (Rd Pk Vw St Mc aZ)
attribute [local go_sem ↓] Go.wp_at_zero Go.wp_at_succ
section
variable {B C:Nat}{w:World}{M SB:Nat}{v:Vw}{m:Mc}
theorem Xh(hm:cu B C w M SB v m){a:Nat}{x:Int}(ha:a<m.aF.length)(hx:aZ x)(o:Obj)(n:Nat):
 cu B C (((w.alloc o).drewN n).setCell (Ad SB a) (Im x)) M SB v (m.put a x)/\
 Below B w (((w.alloc o).drewN n).setCell (Ad SB a) (Im x)):=by
 refine⟨((hm.alloc o).drewN n).put ha hx,?_⟩;have:=hm.bS;have h0:=hm.size;have h1:=hm.cS;exact(below_drewN ((Below.refl _ _).alloc (by omega) o) n).setCell (p:=(Ad SB a)) this _
theorem NP(w:World)(x:Addr)(u:Value)(c:Array Value)(t:TypeId)(i:Nat):((w.setCell x u).alloc (.cells c t)).cell? (Ad w.heap.size i)=c[i]? :=
 World.cell?_alloc_at _ _ _ _ (by simp)
theorem Xi(hm:cu B C w M SB v m){a:Nat}{x:Int}(ha:a<m.aF.length)(hx:aZ x)(o:Obj)(n:Nat):
 cu B C (((w.setCell (Ad SB a) (Im x)).alloc o).drewN n) M SB v (m.put a x)/\
 Below B w (((w.setCell (Ad SB a) (Im x)).alloc o).drewN n):=by
 refine⟨((hm.put ha hx).alloc o).drewN n,?_⟩;have:=hm.bS;have h0:=hm.size;have h1:=hm.cS;exact below_drewN (((Below.refl _ _).setCell (p:=(Ad SB a)) this _).alloc (by simp;omega) o) n
theorem ajA(hm:cu B C w M SB v m)(b o:Nat)(a:Nat)(x c d dp t:Int)(hb:b<B)(hst:uD w b o ⟨6,a,x,c,d,dp,t⟩)(ha:a<m.aF.length)(hx:aZ x):
 Calls prog 55 #[Pt M 0,Pt b o] w fun e w'=>e=.returned (.tuple #[])/\cu B C w' M SB v (m.put a x)/\Below B w w':=by
 have HP:Hid (∀o n,cu B C (((w.setCell (Ad SB a) (Im x)).alloc o).drewN n) M SB v (m.put a x)/\
  Below B w (((w.setCell (Ad SB a) (Im x)).alloc o).drewN n)):=fun o n=>Xi hm ha hx o n
 have kb:=fun(u:Value)(c:Array Value)(i:Nat)=>NP w (Ad SB a) u c 123 i;have hs:=hm.aF;have ca:=hm.slot a ha;have fa:=hm.xK a ha;have h0:=hm.size;have h1:=hm.cS;have h2:=hm.cM;have h3:=hm.bM;have n1:¬SB=w.heap.size:=by omega
 have n3:¬SB=M:=fun e=>hm.ne e.symm;have n2:¬M=w.heap.size:=by omega
 have n4:¬b=w.heap.size:=by omega
 have Ba:SB<w.heap.size:=by omega
 have hM:M<w.heap.size:=by omega
 have hbs:b<w.heap.size:=by omega
 obtain⟨s0,s1,s2,s3,s4,s5,s6⟩:=hst;simp only at s0 s1 s2 s3 s4;clear hm h0 h1 h2 h3 s5 s6;generalize m.aF.getD a 0=xa at *;generalize m.aF.length=len at *;have i1:(0:Int)<=(a:Int):=by omega
 have j1:(a:Int)<(len:Int):=by omega
 go_enter func55,ntmps55;go_wp2_with fail;go_region_held3 (fun w'=>w'.cell? (Ad M 3)=some (.slice (some (Ad SB 0)) len len)/\w'.cell? (Ad w.heap.size 0)=some (Im a)/\w'.cell? (Ad w.heap.size 1)=some (Im x)) (go_keep) (fail);go_wp2;go_end0;exact⟨rfl,HP.out _ 1⟩
theorem ZT(v:Vw)(l:Int):aZ (v.all l):=by
 unfold Hx.Vw.all Hx.zF;repeat' split
 all_goals exact Hx.Ho _
theorem ajv(hm:cu B C w M SB v m)(b o:Nat)(a:Nat)(l c d dp t:Int)(hb:b<B)(hst:uD w b o ⟨21,a,l,c,d,dp,t⟩)(ha:a<m.aF.length):
 Calls prog 55 #[Pt M 0,Pt b o] w fun e w'=>e=.returned (.tuple #[])/\cu B C w' M SB v (m.put a (v.all l))/\Below B w w':=by
 have HP:Hid (∀o n,cu B C (((w.alloc o).drewN n).setCell (Ad SB a) (Im (v.all l))) M SB v (m.put a (v.all l))/\
  Below B w (((w.alloc o).drewN n).setCell (Ad SB a) (Im (v.all l)))):=fun o n=>Xh hm ha (ZT v l) o n
 have kb:=fun(u:Value)(c:Array Value)(i:Nat)=>NP w (Ad SB a) u c 123 i;have HV:Hid (∀o n,vJ B ((w.alloc o).drewN n) M v):=fun o n=>((hm.alloc o).drewN n).view;have ca:=hm.slot a ha;have fa:=hm.xK a ha;have hs:=hm.aF;have h0:=hm.size;have h1:=hm.cS;have h2:=hm.cM;have h3:=hm.bM;have n1:¬SB=w.heap.size:=by omega
 have n3:¬SB=M:=fun e=>hm.ne e.symm;have n2:¬M=w.heap.size:=by omega
 have n4:¬b=w.heap.size:=by omega
 have Ba:SB<w.heap.size:=by omega
 have hM:M<w.heap.size:=by omega
 have hbs:b<w.heap.size:=by omega
 obtain⟨s0,s1,s2,s3,s4,s5,s6⟩:=hst;simp only at s0 s1 s2 s3 s4;clear hm h0 h1 h2 h3 s5 s6;generalize m.aF.getD a 0=xa at *;generalize m.aF.length=len at *;have i1:(0:Int)<=(a:Int):=by omega
 have j1:(a:Int)<(len:Int):=by omega
 go_enter func55,ntmps55;go_wp2_with fail;go_region_held3 (fun w'=>w'.cell? (Ad M 3)=some (.slice (some (Ad SB 0)) len len)/\w'.cell? (Ad w.heap.size 0)=some (Im a)/\w'.cell? (Ad w.heap.size 1)=some (Im l)) (go_keep)
  ((go_at_call 95;refine(Sv B M _ v _ (HV.out _ 1)).mono ?_;rintro e w' ⟨rfl,rfl⟩))
 go_wp2;go_end0;exact⟨rfl,HP.out _ 1⟩
theorem ajx(hm:cu B C w M SB v m)(b o:Nat)(a x:Nat)(c d dp t:Int)(hb:b<B)(hst:uD w b o ⟨22,a,x,c,d,dp,t⟩)(ha:a<m.aF.length)(hx:x<m.aF.length):
 Calls prog 55 #[Pt M 0,Pt b o] w fun e w'=>e=.returned (.tuple #[])/\cu B C w' M SB v (m.put a (Hx.Dj (m.aF.getD a 0) (m.aF.getD x 0)))/\Below B w w':=by
 have HP:Hid (∀o n,cu B C (((w.setCell (Ad SB a) (Im (Hx.Dj (m.aF.getD a 0) (m.aF.getD x 0)))).alloc o).drewN n) M SB v (m.put a (Hx.Dj (m.aF.getD a 0) (m.aF.getD x 0)))/\
  Below B w (((w.setCell (Ad SB a) (Im (Hx.Dj (m.aF.getD a 0) (m.aF.getD x 0)))).alloc o).drewN n)):=fun o n=>Xi hm ha (Hx.EJ _ _ _) o n
 have kb:=fun(u:Value)(c:Array Value)(i:Nat)=>NP w (Ad SB a) u c 123 i;have ca:=hm.slot a ha;have fa:=hm.xK a ha;have cx:=hm.slot x hx;have hs:=hm.aF;have h0:=hm.size;have h1:=hm.cS;have h2:=hm.cM;have h3:=hm.bM;have n1:¬SB=w.heap.size:=by omega
 have n3:¬SB=M:=fun e=>hm.ne e.symm;have n2:¬M=w.heap.size:=by omega
 have n4:¬b=w.heap.size:=by omega
 have Ba:SB<w.heap.size:=by omega
 have hM:M<w.heap.size:=by omega
 have hbs:b<w.heap.size:=by omega
 obtain⟨s0,s1,s2,s3,s4,s5,s6⟩:=hst;simp only at s0 s1 s2 s3 s4;clear hm h0 h1 h2 h3 s5 s6;generalize hk:Hx.Dj (m.aF.getD a 0) (m.aF.getD x 0)=kk at HP⊢;have HK:=hk.symm;clear hk;generalize m.aF.getD a 0=xa at *;generalize m.aF.getD x 0=xx at *;generalize m.aF.length=len at *;unfold Hx.Dj Hx.ug at HK;subst HK;have i1:(0:Int)<=(a:Int):=by omega
 have j1:(a:Int)<(len:Int):=by omega
 have i2:(0:Int)<=(x:Int):=by omega
 have j2:(x:Int)<(len:Int):=by omega
 have u0:0<=IntKind.u64.wrap xx:=by rw[IntKind.wrap_u64];omega
 have u1:IntKind.u64.wrap xx%64<64:=by omega
 have u2:0<=IntKind.u64.wrap xx%64:=by omega
 go_enter func55,ntmps55;go_wp2_with fail;go_region;go_wp2;go_end0;exact⟨rfl,HP.out _ 1⟩
theorem YL{P:Program}{id:Nat}{Q:Exit->Act->World->Prop}{a:Act}{w:World}{l:List Oper}(n:Nat)(hm:P.follows .mixedOrders=true)(hB:Region.lexTailB .any l.toArray n=true)
 (h:wpStill P l.toArray w.drew (fun a'=>wpList P l.toArray Q (l.drop n) a' w.drew) (l.take n) a):(Code.region id l.toArray true).wp P Q a w:=
 wp_region_still_tail n hm hB h
theorem ajy(hm:cu B C w M SB v m)(b o:Nat)(a x c d:Nat)(dp t:Int)(hb:b<B)(hst:uD w b o ⟨25,a,x,c,d,dp,t⟩)(ha:a<m.aF.length)(hx:x<m.aF.length)(hc:c<m.aF.length)(hd:d<m.aF.length):
 Calls prog 55 #[Pt M 0,Pt b o] w fun e w'=>e=.returned (.tuple #[])/\cu B C w' M SB v (Hx.choose ⟨0,a,x,c,d,0,0⟩ (decide (m.aF.getD d 0<m.aF.getD x 0)) m)/\Below B w w':=by
 have HC:Hid (∀(o:Obj)(better:Bool),Calls prog 99 #[Pt M 0,.agg #[Im a,Im x,Im c,Im d],.bool better] ((w.alloc o).drew) fun e w'=>e=.returned (.tuple #[])/\
  cu B C w' M SB v (Hx.choose ⟨0,a,x,c,d,0,0⟩ better m)/\Below B ((w.alloc o).drew) w'):=fun o better=>Tv ((hm.alloc o).drewN 1) a x c d better ha hx hc hd
 have HB:Hid (∀(o:Obj)(n:Nat),Below B w ((w.alloc o).drewN n)):=fun o n=>below_drewN ((Below.refl _ _).alloc (by have:=hm.size;have:=hm.cM;have:=hm.bM;omega) o) n;have cx:=hm.slot x hx;have cd:=hm.slot d hd;have hs:=hm.aF;have h0:=hm.size;have h1:=hm.cS;have h2:=hm.cM;have h3:=hm.bM;have n1:¬SB=w.heap.size:=by omega
 have n3:¬SB=M:=fun e=>hm.ne e.symm;have n2:¬M=w.heap.size:=by omega
 have n4:¬b=w.heap.size:=by omega
 have Ba:SB<w.heap.size:=by omega
 have hM:M<w.heap.size:=by omega
 have hbs:b<w.heap.size:=by omega
 obtain⟨s0,s1,s2,s3,s4,s5,s6⟩:=hst;simp only at s0 s1 s2 s3 s4;clear hm h0 h1 h2 h3 s5 s6;generalize m.aF.getD x 0=xx at *;generalize m.aF.getD d 0=xd at *;generalize m.aF.length=len at *;have i2:(0:Int)<=(x:Int):=by omega
 have j2:(x:Int)<(len:Int):=by omega
 have i4:(0:Int)<=(d:Int):=by omega
 have j4:(d:Int)<(len:Int):=by omega
 go_enter func55,ntmps55;go_wp2_with fail;refine YL 19 (by kernel_rfl) (by kernel_rfl) ?_;simp only[List.take_succ_cons,List.take_zero,List.drop_succ_cons,List.drop_zero];repeat still_step
 refine wpStill_nil ?_;go_wp2_with fail;refine(HC.out _ _).mono ?_;rintro e w1 ⟨rfl,hm1,hb1⟩;go_wp2;go_end0;exact⟨rfl,hm1,(HB.out _ 1).trans hb1⟩
theorem ajz(hm:cu B C w M SB v m)(b o:Nat)(a x c d:Nat)(dp t:Int)(hb:b<B)(hst:uD w b o ⟨26,a,x,c,d,dp,t⟩)(ha:a<m.aF.length)(hx:x<m.aF.length)(hc:c<m.aF.length)(hd:d<m.aF.length):
 Calls prog 55 #[Pt M 0,Pt b o] w fun e w'=>e=.returned (.tuple #[])/\cu B C w' M SB v (Hx.choose ⟨0,a,x,c,d,0,0⟩ (decide (m.aF.getD x 0<m.aF.getD d 0)) m)/\Below B w w':=by
 have HC:Hid (∀(o:Obj)(better:Bool),Calls prog 99 #[Pt M 0,.agg #[Im a,Im x,Im c,Im d],.bool better] ((w.alloc o).drew) fun e w'=>e=.returned (.tuple #[])/\
  cu B C w' M SB v (Hx.choose ⟨0,a,x,c,d,0,0⟩ better m)/\Below B ((w.alloc o).drew) w'):=fun o better=>Tv ((hm.alloc o).drewN 1) a x c d better ha hx hc hd
 have HB:Hid (∀(o:Obj)(n:Nat),Below B w ((w.alloc o).drewN n)):=fun o n=>below_drewN ((Below.refl _ _).alloc (by have:=hm.size;have:=hm.cM;have:=hm.bM;omega) o) n;have cx:=hm.slot x hx;have cd:=hm.slot d hd;have hs:=hm.aF;have h0:=hm.size;have h1:=hm.cS;have h2:=hm.cM;have h3:=hm.bM;have n1:¬SB=w.heap.size:=by omega
 have n3:¬SB=M:=fun e=>hm.ne e.symm;have n2:¬M=w.heap.size:=by omega
 have n4:¬b=w.heap.size:=by omega
 have Ba:SB<w.heap.size:=by omega
 have hM:M<w.heap.size:=by omega
 have hbs:b<w.heap.size:=by omega
 obtain⟨s0,s1,s2,s3,s4,s5,s6⟩:=hst;simp only at s0 s1 s2 s3 s4;clear hm h0 h1 h2 h3 s5 s6;generalize m.aF.getD x 0=xx at *;generalize m.aF.getD d 0=xd at *;generalize m.aF.length=len at *;have i2:(0:Int)<=(x:Int):=by omega
 have j2:(x:Int)<(len:Int):=by omega
 have i4:(0:Int)<=(d:Int):=by omega
 have j4:(d:Int)<(len:Int):=by omega
 go_enter func55,ntmps55;go_wp2_with fail;refine YL 19 (by kernel_rfl) (by kernel_rfl) ?_;simp only[List.take_succ_cons,List.take_zero,List.drop_succ_cons,List.drop_zero];repeat still_step
 refine wpStill_nil ?_;go_wp2_with fail;refine(HC.out _ _).mono ?_;rintro e w1 ⟨rfl,hm1,hb1⟩;go_wp2;go_end0;exact⟨rfl,hm1,(HB.out _ 1).trans hb1⟩
end
end
section
open Go.RowKit
open Hx (Rd Pk Vw St Mc aZ)
section
variable {B C:Nat}{w:World}{M SB:Nat}{v:Vw}{m:Mc}
theorem ajB(hm:cu B C w M SB v m)(b o:Nat)(q:Int)(a x c:Nat)(d dp t:Int)(hb:b<B)(hst:uD w b o ⟨q,a,x,c,d,dp,t⟩)(ha:a<m.aF.length)(hx:x<m.aF.length)(hc:c<m.aF.length)
 (q1:(q==6)=false)(q2:(q==21)=false)(q3:(q==22)=false)(q4:(q==25)=false)(q5:(q==26)=false)(hin:aZ (Hx.outcome v q (m.aF.getD x 0) (m.aF.getD c 0))):
 Calls prog 55 #[Pt M 0,Pt b o] w fun e w'=>e=.returned (.tuple #[])/\cu B C w' M SB v (m.put a (Hx.outcome v q (m.aF.getD x 0) (m.aF.getD c 0)))/\Below B w w':=by
 have HP:Hid (∀o n,cu B C (((w.alloc o).drewN n).setCell (Ad SB a) (Im (Hx.outcome v q (m.aF.getD x 0) (m.aF.getD c 0)))) M SB v (m.put a (Hx.outcome v q (m.aF.getD x 0) (m.aF.getD c 0)))/\
  Below B w (((w.alloc o).drewN n).setCell (Ad SB a) (Im (Hx.outcome v q (m.aF.getD x 0) (m.aF.getD c 0))))):=fun o n=>Xh hm ha hin o n
 have HV:Hid (∀o n,vJ B ((w.alloc o).drewN n) M v/\mZ ((w.alloc o).drewN n)):=fun o n=>⟨((hm.alloc o).drewN n).view,((hm.alloc o).drewN n).aU⟩;have hxm:m.aF.getD x 0<=9223372036854775807:=(hm.yM x).2;have ca:=hm.slot a ha;have fa:=hm.xK a ha;have cx:=hm.slot x hx;have cc:=hm.slot c hc;have hs:=hm.aF;have h0:=hm.size;have h1:=hm.cS;have h2:=hm.cM;have h3:=hm.bM;have n1:¬SB=w.heap.size:=by omega
 have n3:¬SB=M:=fun e=>hm.ne e.symm;have n2:¬M=w.heap.size:=by omega
 have n4:¬b=w.heap.size:=by omega
 have Ba:SB<w.heap.size:=by omega
 have hM:M<w.heap.size:=by omega
 have hbs:b<w.heap.size:=by omega
 obtain⟨s0,s1,s2,s3,s4,s5,s6⟩:=hst;simp only at s0 s1 s2 s3 s4;clear hm h0 h1 h2 h3 s5 s6 hin;generalize m.aF.getD a 0=xa at *;generalize m.aF.getD x 0=xx at *;generalize m.aF.getD c 0=xc at *;generalize hy:Hx.outcome v q xx xc=y at HP⊢;have HY:Hid (Hx.outcome v q xx xc=y):=hy;clear hy;generalize m.aF.length=len at *;have i1:(0:Int)<=(a:Int):=by omega
 have j1:(a:Int)<(len:Int):=by omega
 have i2:(0:Int)<=(x:Int):=by omega
 have j2:(x:Int)<(len:Int):=by omega
 have i3:(0:Int)<=(c:Int):=by omega
 have j3:(c:Int)<(len:Int):=by omega
 go_enter func55,ntmps55;go_wp2_with fail;refine fC 29 (by kernel_rfl) (by kernel_rfl) ?_;simp only[List.take_succ_cons,List.take_zero,List.drop_succ_cons,List.drop_zero];repeat (go_big_quiet_step ((go_at_call 100;exact Calls.quiet_of (afA B M q xx xc v _ (HV.out _ _).1 (HV.out _ _).2 hxm))))
 refine wpQuiet_nil ?_;intro _ hw';obtain⟨nq,hw''⟩:=hw';subst hw'';rw[HY.out];go_wp2;go_end0;exact⟨rfl,HP.out _ _⟩
theorem ajw(hm:cu B C w M SB v m)(b o:Nat)(s:St)(hb:b<B)(hst:uD w b o s)(hs:s.ML m.aF.length):
 Calls prog 55 #[Pt M 0,Pt b o] w fun e w'=>e=.returned (.tuple #[])/\cu B C w' M SB v (Hx.work v s m)/\Below B w w':=by
 obtain⟨q,a,x,c,d,dp,t⟩:=s;obtain⟨h1,⟨ha0,ha⟩,hs⟩:=hs;simp only at h1 ha0 ha hs;obtain⟨a,rfl⟩:=Int.eq_ofNat_of_zero_le ha0;have ha':a<m.aF.length:=by omega
 by_cases q1:q=6
 .subst q1;refine(ajA hm b o a x c d dp t hb hst ha' h1).mono ?_;rintro e w' ⟨rfl,h2,h3⟩;exact⟨rfl,by simpa [Hx.work]using h2,h3⟩
 by_cases q2:q=21
 .subst q2;refine(ajv hm b o a x c d dp t hb hst ha').mono ?_;rintro e w' ⟨rfl,h2,h3⟩;exact⟨rfl,by simpa [Hx.work]using h2,h3⟩
 obtain⟨⟨hx0,hx⟩,hs2⟩:=(hs.resolve_left q1).resolve_left q2;clear hs;obtain⟨x,rfl⟩:=Int.eq_ofNat_of_zero_le hx0;have hx':x<m.aF.length:=by omega
 by_cases q3:q=22
 .subst q3;refine(ajx hm b o a x c d dp t hb hst ha' hx').mono ?_;rintro e w' ⟨rfl,h2,h3⟩;exact⟨rfl,by simpa [Hx.work,Hx.Mc.get]using h2,h3⟩
 obtain⟨⟨hc0,hc⟩,hs3⟩:=hs2.resolve_left q3;clear hs2;obtain⟨c,rfl⟩:=Int.eq_ofNat_of_zero_le hc0;have hc':c<m.aF.length:=by omega
 by_cases q4:q=25
 .subst q4;obtain⟨hd0,hd⟩:=hs3 (Or.inl rfl);obtain⟨d,rfl⟩:=Int.eq_ofNat_of_zero_le hd0;refine(ajy hm b o a x c d dp t hb hst ha' hx' hc' (by omega)).mono ?_;rintro e w' ⟨rfl,h2,h3⟩;exact⟨rfl,by simpa [Hx.work,Hx.choose,Hx.Mc.get]using h2,h3⟩
 by_cases q5:q=26
 .subst q5;obtain⟨hd0,hd⟩:=hs3 (Or.inr rfl);obtain⟨d,rfl⟩:=Int.eq_ofNat_of_zero_le hd0;refine(ajz hm b o a x c d dp t hb hst ha' hx' hc' (by omega)).mono ?_;rintro e w' ⟨rfl,h2,h3⟩;exact⟨rfl,by simpa [Hx.work,Hx.choose,Hx.Mc.get]using h2,h3⟩
 refine(ajB hm b o q a x c d dp t hb hst ha' hx' hc' (by simpa using q1) (by simpa using q2) (by simpa using q3) (by simpa using q4) (by simpa using q5) (Hx.U7 hm.view.DC _ _ _ (hm.yM x))).mono ?_;rintro e w' ⟨rfl,h2,h3⟩;exact⟨rfl,by simpa [Hx.work,Hx.Mc.get,q1,q2,q3,q4,q5]using h2,h3⟩
end
def nT:Int->List Rd->Bool
 |_,[]=>true
 |seen,r::rs=>if r.id<0\/8<=r.id\/Hx.Kr seen r.id=true then false else nT (bits .or .i64 seen (wrap64 (2^r.id.toNat))) rs
def BG(v:Vw):Bool:=decide (v.ah.length<=8)&&decide (v.aG.length<=16)&&decide (v.aJ.length<=16)&&nT 0 v.ah
theorem U2:∀(rs:List Rd)(seen:Int),nT seen rs=true->∀r∈rs,0<=r.id/\r.id<8
 |[],_,_,r,hr=>by cases hr
 |q::rs,seen,h,r,hr=>by
  unfold nT at h;split at h
  .cases h
  .rename_i hq;rcases List.mem_cons.1 hr with rfl|hr
   .omega
   .exact U2 rs _ h r hr
theorem ajh{v:Vw}(h:BG v=true):Good v:=by
 simp only[BG,Bool.and_eq_true,decide_eq_true_eq]at h;exact⟨h.1.1.1,h.1.1.2,h.1.2,U2 _ _ h.2⟩
theorem adv(ar af aa:Option Addr)(nr cr nf cf na ca:Nat)(w:World)(hl:8<nr\/16<nf\/16<na):
 Calls prog 50 #[.agg #[.slice ar nr cr,.slice af nf cf,.slice aa na ca]] w fun e w'=>e=.returned (.bool false)/\Below w.heap.size w w':=by
 by_cases h1:8<nr
 .have d1:decide ((8:Int)<(nr:Int))=true:=by simp;omega
  go_enter func50,ntmps50;go_wp2;go_ret;exact⟨rfl,(Below.refl _ _).alloc (Nat.le_refl _) _⟩
 .have d1:decide ((8:Int)<(nr:Int))=false:=by simp;omega
  by_cases h2:16<nf
  .have d2:decide ((16:Int)<(nf:Int))=true:=by simp;omega
   go_enter func50,ntmps50;go_wp2;go_ret;exact⟨rfl,(Below.refl _ _).alloc (Nat.le_refl _) _⟩
  .have d2:decide ((16:Int)<(nf:Int))=false:=by simp;omega
   have d3:decide ((16:Int)<(na:Int))=true:=by simp;omega
   go_enter func50,ntmps50;go_wp2;go_ret;exact⟨rfl,(Below.refl _ _).alloc (Nat.le_refl _) _⟩
theorem adw(ar af aa:Option Addr)(nr cr nf cf na ca:Nat)(rs:List Rd)(w:World)(hn:nr=rs.length)(h1:nr<=8)(h2:nf<=16)(h3:na<=16)(hr:Ce w.heap.size w ar rs):
 Calls prog 50 #[.agg #[.slice ar nr cr,.slice af nf cf,.slice aa na ca]] w fun e w'=>e=.returned (.bool (nT 0 rs))/\Below w.heap.size w w':=by
 have d1:decide ((8:Int)<(nr:Int))=false:=by simp;omega
 have d2:decide ((16:Int)<(nf:Int))=false:=by simp;omega
 have d3:decide ((16:Int)<(na:Int))=false:=by simp;omega
 have HN:Hid (nr=rs.length):=hn;clear hn;go_enter func50,ntmps50;go_wp2;go_loopw [3,25] (fun sn i wr=>∃(k:Nat)(seen:Int),k<=nr/\i=Im k/\sn=Im seen/\Hid (nT 0 rs=nT seen (rs.drop k))/\Below w.heap.size w wr/\Hid (w.heap.size<wr.heap.size)) (fun _ i _=>nr-(intOf i).toNat)
 case atStart=>exact⟨0,0,Nat.zero_le _,rfl,rfl,rfl,(Below.refl _ _).alloc (Nat.le_refl _) _,by show _<_;simp⟩
 case round=>
  obtain⟨k,seen,hk,rfl,rfl,HE,hb,HS⟩:=hrel;by_cases hlt:k<nr
  .have hkl:k<rs.length:=by have:=HN.out;omega
   have hget:rs[k]? =some rs[k]:=by simp
   obtain⟨b,o,rfl,hbb,b',o',e,c1,c2,c3,c4,c5⟩:=hr k _ hget;obtain⟨rfl,rfl⟩:b=b'/\o+k * 5=o':=by simpa using e
   have HD:Hid (rs.drop k=rs[k]::rs.drop (k+1)):=List.drop_eq_getElem_cons (by omega);generalize rs[k]=r at *;have w1:wr.cell? (Ad b (o+k * 5))=some (Im r.id):=(hb.cell (p:=(Ad b (o+k * 5))) hbb).trans c1;have w2:wr.cell? (Ad b (o+k * 5+1))=some (Im r.DF):=(hb.cell (p:=(Ad b (o+k * 5+1))) hbb).trans c2;have w3:wr.cell? (Ad b (o+k * 5+2))=some (Im r.cO):=(hb.cell (p:=(Ad b (o+k * 5+2))) hbb).trans c3;have w4:wr.cell? (Ad b (o+k * 5+3))=some (Im r.out):=(hb.cell (p:=(Ad b (o+k * 5+3))) hbb).trans c4;have w5:wr.cell? (Ad b (o+k * 5+4))=some (.bool r.nX):=(hb.cell (p:=(Ad b (o+k * 5+4))) hbb).trans c5;have HB:Hid (∀o,Below w.heap.size w (wr.alloc o)):=fun o=>hb.alloc (by have:=HS.out;omega) o;have i1:(0:Int)<=(k:Int):=by omega
   have j1:(k:Int)<(nr:Int):=by omega
   clear hr hget e c1 c2 c3 c4 c5 hb hkl;by_cases t1:r.id<0
   .have t1':decide (r.id<0)=true:=by simpa using t1
    have HF:Hid (nT 0 rs=false):=by
     show nT 0 rs=false;rw[HE.out,HD.out];unfold nT;rw[if_pos (Or.inl t1)]
    clear t1;go_wp2;go_ret;exact⟨wF HF.out.symm,HB.out _⟩
   .have t1':decide (r.id<0)=false:=by simpa using t1
    by_cases t2:8<=r.id
    .have t2':decide (8<=r.id)=true:=by simpa using t2
     have HF:Hid (nT 0 rs=false):=by
      show nT 0 rs=false;rw[HE.out,HD.out];unfold nT;rw[if_pos (Or.inr (Or.inl t2))]
     clear t1 t2;go_wp2;go_ret;exact⟨wF HF.out.symm,HB.out _⟩
    .have t2':decide (8<=r.id)=false:=by simpa using t2
     have k0:0<=r.id:=by omega
     have k8:r.id<8:=by omega
     cases hbit:Hx.Kr seen r.id with
     |true=>
      have HF:Hid (nT 0 rs=false):=by
       show nT 0 rs=false;rw[HE.out,HD.out];unfold nT;rw[if_pos (Or.inr (Or.inr hbit))]
      have HC:Hid (∀w,Calls prog 94 #[Im seen,Im r.id] w fun e w'=>e=.returned (.bool true)/\w'=w):=fun w=>by rw[<-hbit];exact Ol seen r.id w k0 k8
      clear t1 t2 hbit;go_wp2_with (go_at_call 94;refine(HC.out _).mono ?_;rintro e w' ⟨rfl,rfl⟩);go_ret;exact⟨wF HF.out.symm,HB.out _⟩
     |false=>
      have HF:Hid (nT 0 rs=nT (bits .or .i64 seen (wrap64 (2^r.id.toNat))) (rs.drop (k+1))):=by
       show nT 0 rs=_;rw[HE.out,HD.out];conv=>lhs;unfold nT
       rw[if_neg (by rw[hbit];simp;omega)]
      have HC:Hid (∀w,Calls prog 94 #[Im seen,Im r.id] w fun e w'=>e=.returned (.bool false)/\w'=w):=fun w=>by rw[<-hbit];exact Ol seen r.id w k0 k8
      clear t1 t2 hbit;go_wp2_with (go_at_call 94;refine(HC.out _).mono ?_;rintro e w' ⟨rfl,rfl⟩);go_roundw
      case rel=>exact⟨k+1,_,by omega,by go_num,rfl,HF,HB.out _,by have:=HS.out;show _<_;simp;omega⟩
      case measure=>simp[intOf];omega
  .have HF:Hid (nT 0 rs=true):=by
    show nT 0 rs=true;rw[HE.out,List.drop_eq_nil_of_le (by have:=HN.out;omega)];rfl
   clear hr;go_wp2;go_ret;exact⟨wF HF.out.symm,hb⟩
theorem Ce.mono{B B':Nat}{w:World}{a:Option Addr}{rs:List Rd}(h:Ce B w a rs)(hB:B<=B'):Ce B' w a rs:=fun i r hr=>by
 obtain⟨b,o,e,hb,hp⟩:=h i r hr;exact⟨b,o,e,by omega,hp⟩
theorem adu{B:Nat}{w:World}{ar af aa:Option Addr}{nr nf na:Nat}{v:Vw}(cr cf ca:Nat)(hv:ru B w ar af aa nr nf na v)(hB:B<=w.heap.size):
 Calls prog 50 #[.agg #[.slice ar nr cr,.slice af nf cf,.slice aa na ca]] w fun e w'=>e=.returned (.bool (BG v))/\Below w.heap.size w w':=by
 have e1:=hv.H8;have e2:=hv.H7;have e3:=hv.H6;by_cases hl:8<nr\/16<nf\/16<na
 .refine(adv ar af aa nr cr nf cf na ca w hl).mono ?_;rintro e w' ⟨rfl,h⟩;refine⟨wF ?_,h⟩;unfold BG;rw[<-e1,<-e2,<-e3];rcases hl with hl|hl|hl
  .rw[decide_eq_false (show¬nr<=8 by omega)];rfl
  .rw[decide_eq_false (show¬nf<=16 by omega)];simp
  .rw[decide_eq_false (show¬na<=16 by omega)];simp
 .refine(adw ar af aa nr cr nf cf na ca v.ah w e1 (by omega) (by omega) (by omega) (hv.ah.mono hB)).mono ?_;rintro e w' ⟨rfl,h⟩;refine⟨wF ?_,h⟩;unfold BG;rw[<-e1,<-e2,<-e3,decide_eq_true (show nr<=8 by omega),decide_eq_true (show nf<=16 by omega),decide_eq_true (show na<=16 by omega)]
  rfl
end
end Go.Proofs.YthllhabjfchgiaaGreatDoor
