import Derived.Test.YthllhabjfchgiaaGreatDoorHz20
import Derived.OwnWalk
import Derived.Maps.AppendAt
set_option maxRecDepth 100000
set_option maxHeartbeats 8000000
namespace Go.Proofs.YthllhabjfchgiaaGreatDoor
open _root_.Go.Proofs.Tryz
section
open Go.RowKit
open Hx (Tk)
attribute [local go_sem ↓] Go.wp_at_zero Go.wp_at_succ
attribute [local go_sem] bT
section
variable {w:World}{P:Nat}{s:ByteArray}{k:Tk}{dp en ea:Int}
theorem Gz(a c:Int)(b:ByteArray)(w:World):(Instr.field 249 (.agg #[Im a,.string b,Im c]) 1).run prog w=.ok (.string b) w:=by kernel_rfl
theorem Gy(a c:Int)(b:ByteArray)(w:World):(Instr.field 249 (.agg #[Im a,.string b,Im c]) 2).run prog w=.ok (Im c) w:=by kernel_rfl
theorem J5(w:World)(a b c d:Obj):((((w.alloc a).alloc b).alloc c).alloc d).drew.heap[w.heap.size+1+1+1]? =some d/\w.grownBy ((((w.alloc a).alloc b).alloc c).alloc d).drew none:=by
 constructor
 .have e:((((w.alloc a).alloc b).alloc c).alloc d).drew.heap=(((w.heap.push a).push b).push c).push d:=rfl;rw[e,Array.getElem?_push,if_pos (by simp)]
 .exact(World.grownBy_alloc w a none).trans ((World.grownBy_alloc _ b none).trans ((World.grownBy_alloc _ c none).trans ((World.grownBy_alloc _ d none).trans ⟨rfl,rfl,rfl,Nat.le_refl _,fun _ _ _=>rfl⟩)))
end
section
variable {w:World}{P:Nat}{s:ByteArray}{k k':Tk}{dp en ea:Int}{E:World->Nat->Value->Prop}
def Reads(fn:FuncId)(more:List Value)(P:Nat)(s:ByteArray)(k k':Tk)(dp en ea:Int)(E:World->Nat->Value->Prop):Prop:=
 ∀x:World,bK x P s k dp en ea->Calls prog fn (Pt P 0::more).toArray x fun e w'=>∃v,e=.returned v/\E w' x.heap.size v/\bK w' P s k' dp en ea/\x.grownBy w' (some P)
def RX(at' n:Int)(w:World)(B:Nat)(v:Value):Prop:=
 ∃A,v=.iface 405 (Pt A 0)/\B<=A/\w.heap[A]? =some (.cells #[Im at',Im 1,Im 1,Im n] 407)
theorem abK(w:World)(e:TypeId)(t:ByteArray):w.grownBy (Lib.bytesWorld w e t) none:=⟨rfl,rfl,rfl,by rw[Lib.bytesWorld_size];omega,fun j hj _=>Lib.bytesWorld_at_old w e t j hj⟩
theorem aeX(hs:s.size<=4000)(hk:Gn s k)(n:Int)(hsz:k.text.size<=18)(ha:Lib.atoi k.text.data.toList=some n)(hk3:E8 s k=k'):
 Reads 273 [] P s k k' dp en ea (RX k.at' n):=by
 intro w h;have HN:Hid (Calls prog 236 #[Pt P 0] w fun e w'=>e=.returned (lY k)/\bK w' P s k' dp en ea/\w.grownBy w' (some P)):=by
  rw[<-hk3];exact PN h hk hs
 have HA:Hid (∀w,Calls prog 276 #[.string k.text] w fun e w'=>e=.returned (.tuple #[Im n,.nilIface])/\w.grownBy w' none):=fun w=>by
  refine(Tryz.strconv_Atoi k.text n hsz ha w).mono ?_;rintro e w' ⟨h1,t,rfl⟩;exact⟨h1,abK _ _ _⟩
 clear h ha;show Calls prog 273 #[Pt P 0] w _;go_enter func273,ntmps273;go_wp2_with fail;refine HN.out.mono ?_;rintro e w1 ⟨rfl,p1,q1⟩;have bP:Hid (bK w1 P s k' dp en ea/\w.grownBy w1 (some P)):=⟨p1,q1⟩;clear p1 q1 HN;unfold lY;go_wp2_with fail;refine(HA.out _).mono ?_;rintro e w2 ⟨rfl,g2⟩;have hb2:w2.heap[w1.heap.size]? =some (.cells #[Im k.kind,.string k.text,Im k.at'] 249):=(g2.block _ (by simp) (by simp)).trans (heap_alloc_new w1 _);have b2:w2.cell? (Ad w1.heap.size 2)=some (Im k.at'):=aA hb2;have HG2:Hid (w1.grownBy w2 none):=(World.grownBy_alloc w1 _ none).trans g2;clear hb2 g2 HA;go_wp2_with fail;refine(uO k.at' (Nl) [] ⟨fun _ h=>(List.not_mem_nil h).elim,by simp,Or.inl ⟨rfl,rfl⟩⟩).mono ?_;rintro e w3 ⟨rfl,g3⟩;have xY:Hid (w1.grownBy w3 none):=HG2.out.trans g3;have hpc:bD []=1:=by decide
 rw[hpc];clear g3 HG2 b2;have HF:Hid (∀o,o=Obj.cells #[Im k.at',Im 1,Im 1,Im n] 407->RX k.at' n (w3.alloc o) w.heap.size (.iface 405 (Pt w3.heap.size 0))/\bK (w3.alloc o) P s k' dp en ea/\w.grownBy (w3.alloc o) (some P)):=by
  intro o ho;subst ho;have hg:=xY.out.trans (World.grownBy_alloc w3 (Obj.cells #[Im k.at',Im 1,Im 1,Im n] 407) none);exact⟨⟨w3.heap.size,rfl,by have:=bP.out.2.size;have:=xY.out.size;omega,heap_alloc_new _ _⟩,bP.out.1.grow hg,bP.out.2.trans (hg.but _)⟩
 go_wp2_with fail;go_ret;exact⟨_,rfl,HF.out _ rfl⟩
theorem agR(h:bK w P s k dp en ea)(hs:s.size<=4000)(hk:Gn s k)(c:Int)(hsz:1<k.text.size)(hc:(k.text[1].toNat:Int)=48+c)(h0:0<=c)(h1:c<=7):
 Calls prog 235 #[Pt P 0] w fun e w'=>e=.returned (Im c)/\bK w' P s (E8 s k) dp en ea/\w.grownBy w' (some P):=by
 have HN:Hid (Calls prog 236 #[Pt P 0] w fun e w'=>e=.returned (lY k)/\bK w' P s (E8 s k) dp en ea/\w.grownBy w' (some P)):=PN h hk hs;have hft:=Gz k.kind k.at' k.text;have i1:(1:Int)<(k.text.size:Int):=by omega
 clear h;go_enter func235,ntmps235;go_wp2_with fail;refine HN.out.mono ?_;rintro e w1 ⟨rfl,p1,q1⟩;have bP:Hid (bK w1 P s (E8 s k) dp en ea/\w.grownBy w1 (some P)):=⟨p1,q1⟩;clear p1 q1 HN;unfold lY;go_wp2_with fail;go_ret;exact⟨tX (by omega),bP.out⟩
theorem PX(w:World)(T:TypeId)(c:Int)(h0:0<=c)(h1:c<=1000001):xW (w.alloc (.cells #[Im c] T)) (.slice (some (Ad w.heap.size 0)) 1 1) [c]:=by
 refine⟨by simp;omega,by simp,Or.inr ⟨_,_,rfl,fun i y hy=>?_⟩⟩
 match i,hy with
 |0,hy=>
  cases hy;exact aA (heap_alloc_new w _)
theorem DU(w:World)(T:TypeId)(c d:Int)(h0:0<=c)(h1:c<=1000001)(h2:0<=d)(h3:d<=1000001):xW (w.alloc (.cells #[Im c,Im d] T)) (.slice (some (Ad w.heap.size 0)) 2 2) [c,d]:=by
 refine⟨by simp;omega,by simp,Or.inr ⟨_,_,rfl,fun i y hy=>?_⟩⟩
 match i,hy with
 |0,hy=>cases hy;exact aA (heap_alloc_new w _)
 |1,hy=>cases hy;exact aA (heap_alloc_new w _)
end
section
variable {w:World}{P:Nat}{s:ByteArray}{k k':Tk}{dp en ea:Int}{E E1 E2:World->Nat->Value->Prop}
theorem adi:(prog.info? 192).map (fun i=>(i.zero,i.size,i.bytes))=some (some .nilIface,1,16):=by kernel_rfl
end
end
namespace Hx
open Go.RowKit
structure Ps where
 k:Tk
 dp:Int
 en:Int
 ea:Int
def zH(k:Tk):Tk:=⟨0,⟨#[]⟩,k.at'⟩
def Ps.fail(p:Ps):Ps:=⟨zH p.k,p.dp,if p.en=0 then 1 else p.en,if p.en=0 then p.k.at' else p.ea⟩
def Ps.is(p:Ps)(t:List UInt8):Bool:=p.k.text.data.toList==t
def Ps.next(s:ByteArray)(p:Ps):Ps:={p with k:=E8 s p.k}
def Ps.expect(s:ByteArray)(t:List UInt8)(p:Ps):Ps:=if p.is t then p.next s else p.fail
def Ps.CO(p:Ps):Ps:={p with dp:=wrap64 (p.dp+1)}
def Ps.Ov(p:Ps):Ps:={p with dp:=wrap64 (p.dp-1)}
def Ps.open'(s:ByteArray)(t:List UInt8)(p:Ps):Ps:=if p.dp=20 then p.fail else (p.expect s t).CO
def Ps.close(s:ByteArray)(t:List UInt8)(p:Ps):Ps:=(p.expect s t).Ov
structure Wd where
 text:ByteArray
 at':Int
def Ps.name(s:ByteArray)(p:Ps):Wd×Ps:=if p.k.kind=2 then (⟨p.k.text,p.k.at'⟩,p.next s)else (⟨⟨#[]⟩,0⟩,p.fail)
structure Sj(k:Tk):Prop where
 number:k.kind=3->1<=k.text.size/\k.text.size<=18/\∀b∈k.text.data.toList,pR b.toNat=true
 register:k.kind=4->∃x:UInt8,k.text.data.toList=[82,x]/\48<=x.toNat/\x.toNat<=55
 name:k.kind=2->1<=k.text.size
theorem TQ(s:ByteArray)(k n:Nat):(s.extract k (k+n)).data.toList=(s.data.toList.drop k).take n:=by
 rw[ByteArray.data_extract,Array.toList_extract,List.extract_eq_take_drop]
 congr 1
 omega
theorem aiN(p:Int->Bool)(l:List UInt8):∀b∈l.take (span p l),p b.toNat=true:=by
 intro b hb;have h:l.take (span p l)=l.takeWhile fun c=>p c.toNat:=((List.prefix_iff_eq_take.1 (List.takeWhile_prefix _)).symm);rw[h]at hb;exact List.all_eq_true.1 (List.all_takeWhile (l:=l) (p:=fun c=>p c.toNat)) b hb
theorem XE(s:ByteArray)(i:Nat)(hi:i<=s.size):Sj (scan s i):=by
 have h1:=Qv yN (s.data.toList.drop i);have hl:(s.data.toList.drop i).length=s.size-i:=by rw[List.length_drop,Array.length_toList];rfl
 rw[hl]at h1;unfold scan;generalize span yN (s.data.toList.drop i)=n at *;unfold DI;split
 .exact⟨fun h=>absurd h (by simp),fun h=>absurd h (by simp),fun h=>absurd h (by simp)⟩
 rename_i hne;have hz:(s.extract (i+n) s.size).size=s.size-(i+n):=by rw[ByteArray.size_extract];omega
 have hL:(s.extract (i+n) s.size).data.toList=s.data.toList.drop (i+n):=by
  have:=TQ s (i+n) (s.size-(i+n));rw[show i+n+(s.size-(i+n))=s.size by omega]at this;rw[this,List.take_of_length_le];rw[List.length_drop,Array.length_toList];exact Nat.le_refl _
 obtain⟨b1,b2⟩:=NG (s.extract (i+n) s.size) (by omega);rw[hz]at b2;have hT:∀m:Nat,(m:Int)=(oM (s.extract (i+n) s.size)).2->(s.extract (i+n) (i+n+(oM (s.extract (i+n) s.size)).2.toNat)).data.toList=(s.extract (i+n) s.size).data.toList.take m:=by
  intro m hm;rw[hL,<-hm];exact TQ s (i+n) m
 have hS:(s.extract (i+n) (i+n+(oM (s.extract (i+n) s.size)).2.toNat)).size=(oM (s.extract (i+n) s.size)).2.toNat:=by rw[ByteArray.size_extract];omega
 generalize s.extract (i+n) s.size=t at *;have ht1:1<=t.size:=by omega
 generalize s.extract (i+n) (i+n+(oM t).2.toNat)=u at *;clear hL h1 hl;unfold oM JC at *;constructor
 .intro h3;simp only at h3⊢;split at h3
  .unfold yC Ap at h3;split at h3
   .cases h3
   .split at h3<;>cases h3
  split at h3
  .rename_i hd hdg;rw[if_neg hd,if_pos hdg]at hT hS;unfold yB numberOf at *;split at h3
   .cases h3
   .rename_i h18;rw[if_neg h18]at hT hS;have e:=hT (1+span pR (t.data.toList.drop 1)) rfl;refine⟨by rw[hS];simp only;omega,by rw[hS];simp only;omega,?_⟩;rw[e];intro b hb;cases hl:t.data.toList with
    |nil=>rw[hl]at hb;simp at hb
    |cons a r=>
     rw[hl]at hb hdg;rw[Nat.add_comm,List.take_succ_cons]at hb;rcases List.mem_cons.1 hb with rfl|hb
     .exact hdg
     .exact aiN pR r b (by simpa using hb)
  split at h3
  .unfold vN at h3;repeat' split at h3
   all_goals cases h3
  .unfold wY at h3;repeat' split at h3
   all_goals cases h3
 .intro h4;simp only at h4⊢;split at h4
  .unfold yC Ap at h4;split at h4
   .cases h4
   .split at h4<;>cases h4
  split at h4
  .unfold yB numberOf at h4;split at h4<;>cases h4
  split at h4
  .rename_i hd hdg hcap;rw[if_neg hd,if_neg hdg,if_pos hcap]at hT;unfold vN at *;split at h4
   .rename_i He;rw[if_pos He]at hT;have e:=hT 2 rfl;rw[e];simp only[Bool.and_eq_true,decide_eq_true_eq,zX,beq_iff_eq]at He;obtain⟨r1,⟨r2,r3⟩,r4⟩:=He;have hlen:t.data.toList.length=t.size:=by rw[Array.length_toList];rfl
    match hl:t.data.toList,hlen with
    |[],hlen=>simp at hlen;omega
    |[_],hlen=>simp at hlen;omega
    |a::b::r,_=>
     rw[hl]at r2 r3 r4;simp only[List.getD_cons_zero,List.getD_cons_succ]at r2 r3 r4;refine⟨b,?_,by omega,by omega⟩;have h82:(82:UInt8).toNat=82:=rfl;have ha:a=82:=UInt8.toNat_inj.1 (by omega);rw[ha]
     rfl
   .repeat' split at h4
    all_goals cases h4
  .unfold wY at h4;repeat' split at h4
   all_goals cases h4
 .intro h2;simp only at h2⊢;rw[hS];split at h2
  .rename_i hd;rw[if_pos hd];unfold yC Ap at *;split at h2
   .cases h2
   .split at h2
    .cases h2
    .rename_i n1 n2;rw[if_neg n1,if_neg n2];simp only;omega
  split at h2
  .unfold yB numberOf at h2;split at h2<;>cases h2
  split at h2
  .unfold vN at h2;repeat' split at h2
   all_goals cases h2
  .unfold wY at h2;repeat' split at h2
   all_goals cases h2
structure Ps.Ok(s:ByteArray)(p:Ps):Prop where
 tok:Gn s p.k
 dp:aZ p.dp
 kinds:Sj p.k
theorem TJ:(⟨#[]⟩:ByteArray).size=0:=rfl
theorem Qq(s:ByteArray)(i:Nat)(hi:i<=s.size):Gn s (scan s i)/\(i:Int)<=(scan s i).at':=by
 have h1:=Qv yN (s.data.toList.drop i);have hl:(s.data.toList.drop i).length=s.size-i:=by rw[List.length_drop,Array.length_toList];rfl
 rw[hl]at h1;unfold scan;generalize span yN (s.data.toList.drop i)=n at *;unfold DI;split
 .rename_i h;exact⟨⟨by simp only;omega,by simp only[TJ];omega⟩,by simp only;omega⟩
 .rename_i h;have hz:(s.extract (i+n) s.size).size=s.size-(i+n):=by rw[ByteArray.size_extract];omega
  obtain⟨b1,b2⟩:=NG (s.extract (i+n) s.size) (by omega);rw[hz]at b2;refine⟨⟨by simp only;omega,?_⟩,by simp only;omega⟩;simp only[ByteArray.size_extract];omega
theorem Ps.Ok.next{s:ByteArray}{p:Ps}(h:p.Ok s):(p.next s).Ok s:=⟨(Qq s _ h.tok.bd).1,h.dp,XE s _ h.tok.bd⟩
theorem Ps.Ok.fail{s:ByteArray}{p:Ps}(h:p.Ok s):p.fail.Ok s:=⟨⟨h.tok.l9,by have:=h.tok.bd;simp only[Ps.fail,zH,TJ];omega⟩,h.dp,⟨fun h=>absurd h (by simp[Ps.fail,zH]),fun h=>absurd h (by simp[Ps.fail,zH]),fun h=>absurd h (by simp[Ps.fail,zH])⟩⟩
theorem Ps.Ok.expect{s:ByteArray}{p:Ps}(h:p.Ok s)(t:List UInt8):(p.expect s t).Ok s:=by
 unfold Ps.expect;split
 .exact h.next
 .exact h.fail
theorem U5(n:Int):aZ (wrap64 n):=by unfold aZ wrap64;omega
theorem Ps.Ok.open'{s:ByteArray}{p:Ps}(h:p.Ok s)(t:List UInt8):(p.open' s t).Ok s:=by
 unfold Ps.open';split
 .exact h.fail
 .exact⟨(h.expect t).tok,U5 _,(h.expect t).kinds⟩
theorem Ps.Ok.close{s:ByteArray}{p:Ps}(h:p.Ok s)(t:List UInt8):(p.close s t).Ok s:=⟨(h.expect t).tok,U5 _,(h.expect t).kinds⟩
end Hx
section
open Go.RowKit
open Hx (Tk Ps Wd zH)
attribute [local go_sem ↓] Go.wp_at_zero Go.wp_at_succ
attribute [local go_sem] bT
section
def aC(w:World)(P:Nat)(s:ByteArray)(p:Ps):Prop:=bK w P s p.k p.dp p.en p.ea
def dP(P:Nat)(s:ByteArray)(w:World)(v:Value)(p:Ps)(e:Ending)(w':World):Prop:=e=.returned v/\aC w' P s p/\w.grownBy w' (some P)
variable {w:World}{P:Nat}{s:ByteArray}{p:Ps}
theorem aC.lt(h:aC w P s p):P<w.heap.size:=bK.lt h
theorem aC.grow(h:aC w P s p){w':World}(hg:w.grownBy w' none):aC w' P s p:=bK.grow h hg
theorem zL(h:aC w P s p):Calls prog 142 #[Pt P 0] w (dP P s w (.tuple #[]) p.fail):=by
 obtain⟨k,dp,en,ea⟩:=p;have h:bK w P s k dp en ea:=h;have HH:Hid (bK w P s k dp en ea):=h;have c1:=h.c1;have c2:=h.c2;have c3:=h.c3;have c5:=h.c5;have c6:=h.c6;have ff:=h.fr;have DJ:∀(w1:World)(en' vP:Int),bK w1 P s k dp en' vP->w.grownBy w1 (some P)->bK (((w1.setCell (Ad P 1) (Im 0)).setCell (Ad P 2) (.string ⟨#[]⟩)).setCell (Ad P 3) (Im k.at')) P s (zH k) dp en' vP/\w.grownBy (((w1.setCell (Ad P 1) (Im 0)).setCell (Ad P 2) (.string ⟨#[]⟩)).setCell (Ad P 3) (Im k.at')) (some P):=fun w1 en' vP h1 hg=>by
  have a1:=h1.set 1 (Im 0) ⟨0,k.text,k.at'⟩ dp en' vP (by omega) rfl rfl rfl rfl rfl rfl;have a2:=a1.set 2 (.string ⟨#[]⟩) ⟨0,⟨#[]⟩,k.at'⟩ dp en' vP (by omega) rfl rfl rfl rfl rfl rfl;have a3:=a2.set 3 (Im k.at') ⟨0,⟨#[]⟩,k.at'⟩ dp en' vP (by omega) rfl rfl rfl rfl rfl rfl;exact⟨a3,yH (yH (yH hg _ _) _ _) _ _⟩
 have HS:Hid (∀(w1:World)(en' vP:Int),bK w1 P s k dp en' vP->w.grownBy w1 (some P)->bK (((w1.setCell (Ad P 1) (Im 0)).setCell (Ad P 2) (.string ⟨#[]⟩)).setCell (Ad P 3) (Im k.at')) P s (zH k) dp en' vP/\w.grownBy (((w1.setCell (Ad P 1) (Im 0)).setCell (Ad P 2) (.string ⟨#[]⟩)).setCell (Ad P 3) (Im k.at')) (some P)):=DJ;clear DJ h;by_cases he:en=0
 .subst he;go_enter func142,ntmps142;go_wp2;go_end0;have a1:=HH.out.set 5 (Im 1) k dp 1 ea (by omega) rfl rfl rfl rfl rfl rfl;have a2:=a1.set 6 (Im k.at') k dp 1 k.at' (by omega) rfl rfl rfl rfl rfl rfl;exact⟨rfl,HS.out _ _ _ a2 (yH (yH (World.grownBy.refl w (some P)) _ _) _ _)⟩
 .have b5:(en==0)=false:=by simp[he]
  have e1:(⟨k,dp,en,ea⟩:Ps).fail=⟨zH k,dp,en,ea⟩:=by simp[Hx.Ps.fail,he]
  rw[e1];clear he e1;go_enter func142,ntmps142;go_wp2;go_end0;exact⟨rfl,HS.out _ _ _ HH.out (World.grownBy.refl w (some P))⟩
theorem Dh(h:aC w P s p)(l:List UInt8):Calls prog 242 #[Pt P 0,.string ⟨l.toArray⟩] w fun e w'=>e=.returned (.bool (p.is l))/\w'=w:=
 ady h l _ (by rw[ByteArray.toList_eq];rfl)
theorem qQ(h:aC w P s p)(ok:p.Ok s)(hs:s.size<=4000):Calls prog 236 #[Pt P 0] w (dP P s w (lY p.k) (p.next s)):=PN h ok.tok hs
theorem zK(h:aC w P s p)(ok:p.Ok s)(hs:s.size<=4000)(l:List UInt8):
 Calls prog 239 #[Pt P 0,.string ⟨l.toArray⟩] w (dP P s w (.tuple #[]) (p.expect s l)):=by
 have HI:Hid (Calls prog 242 #[Pt P 0,.string ⟨l.toArray⟩] w fun e w'=>e=.returned (.bool (p.is l))/\w'=w):=Dh h l;have HN:Hid (Calls prog 236 #[Pt P 0] w (dP P s w (lY p.k) (p.next s))):=qQ h ok hs;have HF:Hid (Calls prog 142 #[Pt P 0] w (dP P s w (.tuple #[]) p.fail)):=zL h;have he:Hid (p.expect s l=if p.is l then p.next s else p.fail):=rfl;generalize p.expect s l=q at *;generalize p.fail=pf at *;generalize p.next s=pn at *;generalize p.is l=b at *;generalize ByteArray.mk l.toArray=t at *;clear h ok hs;cases b with
 |true=>
  have hq:q=pn:=by simpa using he.out
  subst hq;clear he HF;go_enter func239,ntmps239;go_wp2_with fail;refine HI.out.mono ?_;rintro e w1 ⟨rfl,rfl⟩;go_wp2_with fail;refine HN.out.mono ?_;rintro e w2 ⟨rfl,h1,h2⟩;have HQ:Hid (aC w2 P s q/\w1.grownBy w2 (some P)):=⟨h1,h2⟩;clear h1 h2 HN HI;go_wp2_with fail;go_end0;exact⟨rfl,HQ.out⟩
 |false=>
  have hq:q=pf:=by simpa using he.out
  subst hq;clear he HN;go_enter func239,ntmps239;go_wp2_with fail;refine HI.out.mono ?_;rintro e w1 ⟨rfl,rfl⟩;go_wp2_with fail;refine HF.out.mono ?_;rintro e w2 ⟨rfl,h1,h2⟩;have HQ:Hid (aC w2 P s q/\w1.grownBy w2 (some P)):=⟨h1,h2⟩;clear h1 h2 HF HI;go_wp2_with fail;go_end0;exact⟨rfl,HQ.out⟩
theorem Iu(h:aC w P s p)(ok:p.Ok s)(hs:s.size<=4000)(l:List UInt8):
 Calls prog 237 #[Pt P 0,.string ⟨l.toArray⟩] w (dP P s w (.tuple #[]) (p.open' s l)):=by
 have c4:=bK.c4 h;have HN:Hid (Calls prog 239 #[Pt P 0,.string ⟨l.toArray⟩] w (dP P s w (.tuple #[]) (p.expect s l))):=zK h ok hs l;have HF:Hid (Calls prog 142 #[Pt P 0] w (dP P s w (.tuple #[]) p.fail)):=zL h;have hdp:(p.expect s l).dp=p.dp:=by unfold Hx.Ps.expect;split<;>rfl
 have he:Hid (p.open' s l=if p.dp=20 then p.fail else (p.expect s l).CO):=rfl;generalize p.open' s l=q at *;generalize p.fail=pf at *;generalize p.expect s l=pn at *;generalize p.dp=dp at *;generalize ByteArray.mk l.toArray=t at *;clear h ok hs;by_cases hd:dp=20
 .have hq:q=pf:=by simpa [hd]using he.out
  subst hq hd;clear he HN hdp;go_enter func237,ntmps237;go_wp2_with fail;refine HF.out.mono ?_;rintro e w2 ⟨rfl,h1,h2⟩;have HQ:Hid (aC w2 P s q/\w.grownBy w2 (some P)):=⟨h1,h2⟩;clear h1 h2 HF;go_wp2_with fail;go_end0;exact⟨rfl,HQ.out⟩
 .have hq:q=pn.CO:=by simpa [hd]using he.out
  subst hq;have hb:(dp==20)=false:=by simp[hd]
  clear he HF hd;go_enter func237,ntmps237;go_wp2_with fail;refine HN.out.mono ?_;rintro e w2 ⟨rfl,h1,h2⟩;have d4:=bK.c4 h1;rw[hdp]at d4;have ff:=bK.fr h1;have HQ:Hid (aC (w2.setCell (Ad P 4) (Im (wrap64 (dp+1)))) P s pn.CO/\w.grownBy (w2.setCell (Ad P 4) (Im (wrap64 (dp+1)))) (some P)):=by
   refine⟨?_,yH h2 _ _⟩;have a1:=bK.set h1 4 (Im (wrap64 (dp+1))) pn.k (wrap64 (dp+1)) pn.en pn.ea (by omega) rfl rfl rfl rfl rfl rfl;unfold aC Hx.Ps.CO;rw[hdp];exact a1
  clear h1 h2 HN hdp;go_wp2_with fail;go_end0;exact⟨rfl,HQ.out⟩
theorem Gv(h:aC w P s p)(ok:p.Ok s)(hs:s.size<=4000)(l:List UInt8):
 Calls prog 240 #[Pt P 0,.string ⟨l.toArray⟩] w (dP P s w (.tuple #[]) (p.close s l)):=by
 have HN:Hid (Calls prog 239 #[Pt P 0,.string ⟨l.toArray⟩] w (dP P s w (.tuple #[]) (p.expect s l))):=zK h ok hs l;have he:p.close s l=(p.expect s l).Ov:=rfl;rw[he];clear he;generalize p.expect s l=pn at *;generalize ByteArray.mk l.toArray=t at *;clear h ok hs;go_enter func240,ntmps240;go_wp2_with fail;refine HN.out.mono ?_;rintro e w2 ⟨rfl,h1,h2⟩;have d4:=bK.c4 h1;have ff:=bK.fr h1;have HQ:Hid (aC (w2.setCell (Ad P 4) (Im (wrap64 (pn.dp-1)))) P s pn.Ov/\w.grownBy (w2.setCell (Ad P 4) (Im (wrap64 (pn.dp-1)))) (some P)):=
  ⟨bK.set h1 4 (Im (wrap64 (pn.dp-1))) pn.k (wrap64 (pn.dp-1)) pn.en pn.ea (by omega) rfl rfl rfl rfl rfl rfl,yH h2 _ _⟩
 clear h1 h2 HN;go_wp2_with fail;go_end0;exact⟨rfl,HQ.out⟩
def BI(d:Wd):Value:=.agg #[.string d.text,Im d.at']
theorem VU(tmps:Array Value)(w:World)(g:Nat)(d:Wd)(h2:tmps[2]? =some (Pt g 0))(h:w.heap[g]? =some (.cells #[.string d.text,Im d.at'] 316)):
 (results Tryz.f232 tmps).run prog w=.ok (BI d) w:=by
 have q0:w.cell? (Ad g 0)=some (.string d.text):=aA h;have q1:w.cell? (Ad g 1)=some (Im d.at'):=aA h;simp[results,Tryz.results232,go_sem,h2,q0,q1,BI]
theorem yV(w:World)(g:Nat)(T:TypeId)(a0 a1 v0 v1:Value)(h:w.heap[g]? =some (.cells #[a0,a1] T)):
 ((w.setCell (Ad g 0) v0).setCell (Ad g 1) v1).heap[g]? =some (.cells #[v0,v1] T):=by
 have h0:(w.setCell (Ad g 0) v0).heap[g]? =some (.cells #[v0,a1] T):=heap_setCell_same _ _ _ _ _ _ h;exact heap_setCell_same _ _ _ _ _ _ h0
theorem aC.yX(h:aC w P s p){g:Nat}(hne:P≠g)(j:Nat)(v:Value):aC (w.setCell (Ad g j) v) P s p:=bK.lK h (dV w g j v) hne
theorem EP(h:aC w P s p)(ok:p.Ok s)(hs:s.size<=4000):Calls prog 232 #[Pt P 0] w (dP P s w (BI (p.name s).1) (p.name s).2):=by
 have hne:P≠w.heap.size:=by have:=h.lt;omega
 have ga:w.grownBy (w.alloc (.cells #[.string ⟨#[]⟩,Im 0] 316)) none:=World.grownBy_alloc w _ none;have ha:=h.grow ga;have hbox:(w.alloc (.cells #[.string ⟨#[]⟩,Im 0] 316)).heap[w.heap.size]? =some (.cells #[.string ⟨#[]⟩,Im 0] 316):=heap_alloc_new w _;have c1:=bK.c1 h;have HF:Hid (Calls prog 142 #[Pt P 0] (w.alloc (.cells #[.string ⟨#[]⟩,Im 0] 316)) (dP P s (w.alloc (.cells #[.string ⟨#[]⟩,Im 0] 316)) (.tuple #[]) p.fail)):=zL ha;have HN:Hid (Calls prog 236 #[Pt P 0] (w.alloc (.cells #[.string ⟨#[]⟩,Im 0] 316)) (dP P s (w.alloc (.cells #[.string ⟨#[]⟩,Im 0] 316)) (lY p.k) (p.next s))):=qQ ha ok hs;have HB:Hid (∀w1,(w.alloc (.cells #[.string ⟨#[]⟩,Im 0] 316)).grownBy w1 (some P)->w1.heap[w.heap.size]? =some (.cells #[.string ⟨#[]⟩,Im 0] 316)/\w.grownBy w1 (some P)):=fun w1 hg=>
  ⟨(hg.block _ (dS hbox) (by simpa using Ne.symm hne)).trans hbox,(ga.but _).trans hg⟩
 have hlt:P<w.heap.size:=h.lt;have n1:¬P=w.heap.size:=hne;have n2:¬w.heap.size=P:=fun e=>hne e.symm;clear h ha hbox ga;by_cases hk:p.k.kind=2
 .have e1:p.name s=(⟨p.k.text,p.k.at'⟩,p.next s):=by unfold Hx.Ps.name;rw[if_pos hk]
  rw[e1];rw[hk]at c1;have hkv:lY p.k=.agg #[Im p.k.kind,.string p.k.text,Im p.k.at']:=rfl;rw[hkv]at HN;clear e1 hkv HF hk;generalize p.k.kind=kk at *;generalize p.k.text=kt at *;generalize p.k.at'=ka at *;generalize p.next s=pn at *;go_enter func232,ntmps232;go_wp2_with fail;refine HN.out.mono ?_;rintro e w1 ⟨rfl,h1,h2⟩;obtain⟨b1,b2⟩:=HB.out w1 h2;have q0:w1.cell? (Ad w.heap.size 0)=some (.string ⟨#[]⟩):=aA b1;have q1:w1.cell? (Ad w.heap.size 1)=some (Im 0):=aA b1;have rf:∀j,w1.frozen? (Ad w.heap.size j)=false:=fun j=>eu b1;have hs1:w.heap.size<w1.heap.size:=dS b1;have n3:¬w.heap.size=w1.heap.size:=by omega
  have HQ:Hid (aC w1 P s pn/\w.grownBy w1 (some P)/\w1.heap[w.heap.size]? =some (.cells #[.string ⟨#[]⟩,Im 0] 316)):=⟨h1,b2,b1⟩;clear h1 h2 b1 b2 HN HB;go_wp2_with fail;obtain⟨x1,x2,x3⟩:=HQ.out;have y3:=yV w1 w.heap.size _ _ _ (.string kt) (Im ka) x3;have y2:w.grownBy ((w1.setCell (Ad w.heap.size 0) (.string kt)).setCell (Ad w.heap.size 1) (Im ka)) (some P):=kP (kP x2 (Nat.le_refl _) _ _) (Nat.le_refl _) _ _;have y1:aC ((w1.setCell (Ad w.heap.size 0) (.string kt)).setCell (Ad w.heap.size 1) (Im ka)) P s pn:=(x1.yX hne _ _).yX hne _ _;refine bodyPost_ret (VU _ _ w.heap.size ⟨kt,ka⟩ rfl ((Below.heap_alloc _ _ _ (dS y3)).trans y3)) rfl ⟨rfl,y1.grow (World.grownBy_alloc _ _ none),y2.trans ((World.grownBy_alloc _ _ none).but _)⟩
 .have e1:p.name s=(⟨⟨#[]⟩,0⟩,p.fail):=by unfold Hx.Ps.name;rw[if_neg hk]
  rw[e1];have hb:(p.k.kind==2)=false:=by simp[hk]
  have hb2:(p.k.kind !=2)=true:=by simp[hk]
  clear e1 HN hk;generalize p.k.kind=kk at *;generalize p.fail=pn at *;go_enter func232,ntmps232;go_wp2_with fail;refine HF.out.mono ?_;rintro e w1 ⟨rfl,h1,h2⟩;obtain⟨b1,b2⟩:=HB.out w1 h2;have q0:w1.cell? (Ad w.heap.size 0)=some (.string ⟨#[]⟩):=aA b1;have q1:w1.cell? (Ad w.heap.size 1)=some (Im 0):=aA b1;have rf:∀j,w1.frozen? (Ad w.heap.size j)=false:=fun j=>eu b1;have HQ:Hid (aC w1 P s pn/\w.grownBy w1 (some P)/\w1.heap[w.heap.size]? =some (.cells #[.string ⟨#[]⟩,Im 0] 316)):=⟨h1,b2,b1⟩;clear h1 h2 b1 b2 HF HB;go_wp2_with fail;obtain⟨x1,x2,x3⟩:=HQ.out;have y3:=yV w1 w.heap.size _ _ _ (.string ⟨#[]⟩) (Im 0) x3;refine bodyPost_ret (VU _ _ w.heap.size ⟨⟨#[]⟩,0⟩ rfl y3) rfl ⟨rfl,(x1.yX hne _ _).yX hne _ _,kP (kP x2 (Nat.le_refl _) _ _) (Nat.le_refl _) _ _⟩
end
end
namespace Hx
def lI(u:List UInt8):Int:=if u==[124,124]then 0 else if u==[38,38]then 1 else if u==[61,61]then 2 else if u==[33,61]then 2 else if u==[60]then 3 else if u==[60,61]then 3 else if u==[62]then 3 else if u==[62,61]then 3 else if u==[43]then 4 else if u==[45]then 4 else if u==[42]then 5 else if u==[47]then 5 else if u==[37]then 5 else 6
def lX(u:List UInt8):Int×Int:=if u==[124,124]then (2,2)else if u==[38,38]then (2,2)else if u==[61,61]then (0,2)else if u==[33,61]then (0,2)else if u==[60]then (1,2)else if u==[60,61]then (1,2)else if u==[62]then (1,2)else if u==[62,61]then (1,2)else (1,1)
def lU(u:List UInt8):Int×Int:=if u==[105,100]then (3,1)else if u==[114,116,116]then (3,1)else if u==[99,119,110,100]then (3,1)else if u==[111,117,116]then (3,1)else if u==[108,111,115,115,121]then (3,2)else if u==[115,101,113]then (4,1)else if u==[115,105,122,101]then (4,1)else (0,0)
def uS(u:List UInt8):Int:=if u==[105,100]then 28 else if u==[114,116,116]then 29 else if u==[99,119,110,100]then 30 else if u==[111,117,116]then 31 else if u==[108,111,115,115,121]then 32 else if u==[115,101,113]then 33 else 34
def qW(u:List UInt8):Int:=if u==[43]then 10 else if u==[45]then 11 else if u==[42]then 12 else if u==[47]then 13 else if u==[37]then 14 else if u==[60]then 15 else if u==[60,61]then 16 else if u==[61,61]then 17 else if u==[33,61]then 18 else if u==[38,38]then 19 else 20
end Hx
section
open Go.RowKit Hx
theorem Vt(t:ByteArray)(w:World):Calls prog 266 #[.string t] w fun e w'=>e=.returned (Im (lI t.data.toList))/\w'=w:=by
 rw[<-ByteArray.toList_eq];cases h0:(t.toList==[124,124])with
 |true=>
  go_enter func266,ntmps266;go_wp2;go_ret;exact⟨by simp[lI,h0],rfl⟩
 |false=>
  cases h1:(t.toList==[38,38])with
  |true=>
   go_enter func266,ntmps266;go_wp2;go_ret;exact⟨by simp[lI,h0,h1],rfl⟩
  |false=>
   cases h2:(t.toList==[61,61])with
   |true=>
    go_enter func266,ntmps266;go_wp2;go_ret;exact⟨by simp[lI,h0,h1,h2],rfl⟩
   |false=>
    cases h3:(t.toList==[33,61])with
    |true=>
     go_enter func266,ntmps266;go_wp2;go_ret;exact⟨by simp[lI,h0,h1,h2,h3],rfl⟩
    |false=>
     cases h4:(t.toList==[60])with
     |true=>
      go_enter func266,ntmps266;go_wp2;go_ret;exact⟨by simp[lI,h0,h1,h2,h3,h4],rfl⟩
     |false=>
      cases h5:(t.toList==[60,61])with
      |true=>
       go_enter func266,ntmps266;go_wp2;go_ret;exact⟨by simp[lI,h0,h1,h2,h3,h4,h5],rfl⟩
      |false=>
       cases h6:(t.toList==[62])with
       |true=>
        go_enter func266,ntmps266;go_wp2;go_ret;exact⟨by simp[lI,h0,h1,h2,h3,h4,h5,h6],rfl⟩
       |false=>
        cases h7:(t.toList==[62,61])with
        |true=>
         go_enter func266,ntmps266;go_wp2;go_ret;exact⟨by simp[lI,h0,h1,h2,h3,h4,h5,h6,h7],rfl⟩
        |false=>
         cases h8:(t.toList==[43])with
         |true=>
          go_enter func266,ntmps266;go_wp2;go_ret;exact⟨by simp[lI,h0,h1,h2,h3,h4,h5,h6,h7,h8],rfl⟩
         |false=>
          cases h9:(t.toList==[45])with
          |true=>
           go_enter func266,ntmps266;go_wp2;go_ret;exact⟨by simp[lI,h0,h1,h2,h3,h4,h5,h6,h7,h8,h9],rfl⟩
          |false=>
           cases h10:(t.toList==[42])with
           |true=>
            go_enter func266,ntmps266;go_wp2;go_ret;exact⟨by simp[lI,h0,h1,h2,h3,h4,h5,h6,h7,h8,h9,h10],rfl⟩
           |false=>
            cases h11:(t.toList==[47])with
            |true=>
             go_enter func266,ntmps266;go_wp2;go_ret;exact⟨by simp[lI,h0,h1,h2,h3,h4,h5,h6,h7,h8,h9,h10,h11],rfl⟩
            |false=>
             cases h12:(t.toList==[37])with
             |true=>
              go_enter func266,ntmps266;go_wp2;go_ret;exact⟨by simp[lI,h0,h1,h2,h3,h4,h5,h6,h7,h8,h9,h10,h11,h12],rfl⟩
             |false=>
              go_enter func266,ntmps266;go_wp2;go_ret;exact⟨by simp[lI,h0,h1,h2,h3,h4,h5,h6,h7,h8,h9,h10,h11,h12],rfl⟩
theorem XU(t:ByteArray)(w:World):Calls prog 267 #[.string t] w fun e w'=>e=.returned (.tuple #[Im (lX t.data.toList).1,Im (lX t.data.toList).2])/\w'=w:=by
 rw[<-ByteArray.toList_eq];cases h0:(t.toList==[124,124])with
 |true=>
  go_enter func267,ntmps267;go_wp2;go_ret2;exact⟨by simp[lX,h0],rfl⟩
 |false=>
  cases h1:(t.toList==[38,38])with
  |true=>
   go_enter func267,ntmps267;go_wp2;go_ret2;exact⟨by simp[lX,h0,h1],rfl⟩
  |false=>
   cases h2:(t.toList==[61,61])with
   |true=>
    go_enter func267,ntmps267;go_wp2;go_ret2;exact⟨by simp[lX,h0,h1,h2],rfl⟩
   |false=>
    cases h3:(t.toList==[33,61])with
    |true=>
     go_enter func267,ntmps267;go_wp2;go_ret2;exact⟨by simp[lX,h0,h1,h2,h3],rfl⟩
    |false=>
     cases h4:(t.toList==[60])with
     |true=>
      go_enter func267,ntmps267;go_wp2;go_ret2;exact⟨by simp[lX,h0,h1,h2,h3,h4],rfl⟩
     |false=>
      cases h5:(t.toList==[60,61])with
      |true=>
       go_enter func267,ntmps267;go_wp2;go_ret2;exact⟨by simp[lX,h0,h1,h2,h3,h4,h5],rfl⟩
      |false=>
       cases h6:(t.toList==[62])with
       |true=>
        go_enter func267,ntmps267;go_wp2;go_ret2;exact⟨by simp[lX,h0,h1,h2,h3,h4,h5,h6],rfl⟩
       |false=>
        cases h7:(t.toList==[62,61])with
        |true=>
         go_enter func267,ntmps267;go_wp2;go_ret2;exact⟨by simp[lX,h0,h1,h2,h3,h4,h5,h6,h7],rfl⟩
        |false=>
         go_enter func267,ntmps267;go_wp2;go_ret2;exact⟨by simp[lX,h0,h1,h2,h3,h4,h5,h6,h7],rfl⟩
theorem WX(t:ByteArray)(w:World):Calls prog 272 #[.string t] w fun e w'=>e=.returned (.tuple #[Im (lU t.data.toList).1,Im (lU t.data.toList).2])/\w'=w:=by
 rw[<-ByteArray.toList_eq];cases h0:(t.toList==[105,100])with
 |true=>
  go_enter func272,ntmps272;go_wp2;go_ret2;exact⟨by simp[lU,h0],rfl⟩
 |false=>
  cases h1:(t.toList==[114,116,116])with
  |true=>
   go_enter func272,ntmps272;go_wp2;go_ret2;exact⟨by simp[lU,h0,h1],rfl⟩
  |false=>
   cases h2:(t.toList==[99,119,110,100])with
   |true=>
    go_enter func272,ntmps272;go_wp2;go_ret2;exact⟨by simp[lU,h0,h1,h2],rfl⟩
   |false=>
    cases h3:(t.toList==[111,117,116])with
    |true=>
     go_enter func272,ntmps272;go_wp2;go_ret2;exact⟨by simp[lU,h0,h1,h2,h3],rfl⟩
    |false=>
     cases h4:(t.toList==[108,111,115,115,121])with
     |true=>
      go_enter func272,ntmps272;go_wp2;go_ret2;exact⟨by simp[lU,h0,h1,h2,h3,h4],rfl⟩
     |false=>
      cases h5:(t.toList==[115,101,113])with
      |true=>
       go_enter func272,ntmps272;go_wp2;go_ret2;exact⟨by simp[lU,h0,h1,h2,h3,h4,h5],rfl⟩
      |false=>
       cases h6:(t.toList==[115,105,122,101])with
       |true=>
        go_enter func272,ntmps272;go_wp2;go_ret2;exact⟨by simp[lU,h0,h1,h2,h3,h4,h5,h6],rfl⟩
       |false=>
        go_enter func272,ntmps272;go_wp2;go_ret2;exact⟨by simp[lU,h0,h1,h2,h3,h4,h5,h6],rfl⟩
theorem afV(t:ByteArray)(w:World):Calls prog 372 #[.string t] w fun e w'=>e=.returned (.int .u8 (uS t.data.toList))/\w'=w:=by
 rw[<-ByteArray.toList_eq];cases h0:(t.toList==[105,100])with
 |true=>
  go_enter func372,ntmps372;go_wp2;go_ret;exact⟨by simp[uS,h0],rfl⟩
 |false=>
  cases h1:(t.toList==[114,116,116])with
  |true=>
   go_enter func372,ntmps372;go_wp2;go_ret;exact⟨by simp[uS,h0,h1],rfl⟩
  |false=>
   cases h2:(t.toList==[99,119,110,100])with
   |true=>
    go_enter func372,ntmps372;go_wp2;go_ret;exact⟨by simp[uS,h0,h1,h2],rfl⟩
   |false=>
    cases h3:(t.toList==[111,117,116])with
    |true=>
     go_enter func372,ntmps372;go_wp2;go_ret;exact⟨by simp[uS,h0,h1,h2,h3],rfl⟩
    |false=>
     cases h4:(t.toList==[108,111,115,115,121])with
     |true=>
      go_enter func372,ntmps372;go_wp2;go_ret;exact⟨by simp[uS,h0,h1,h2,h3,h4],rfl⟩
     |false=>
      cases h5:(t.toList==[115,101,113])with
      |true=>
       go_enter func372,ntmps372;go_wp2;go_ret;exact⟨by simp[uS,h0,h1,h2,h3,h4,h5],rfl⟩
      |false=>
       go_enter func372,ntmps372;go_wp2;go_ret;exact⟨by simp[uS,h0,h1,h2,h3,h4,h5],rfl⟩
theorem ahY(t:ByteArray)(w:World):Calls prog 363 #[.string t] w fun e w'=>e=.returned (.int .u8 (qW t.data.toList))/\w'=w:=by
 rw[<-ByteArray.toList_eq];cases h0:(t.toList==[43])with
 |true=>
  go_enter func363,ntmps363;go_wp2;go_ret;exact⟨by simp[qW,h0],rfl⟩
 |false=>
  cases h1:(t.toList==[45])with
  |true=>
   go_enter func363,ntmps363;go_wp2;go_ret;exact⟨by simp[qW,h0,h1],rfl⟩
  |false=>
   cases h2:(t.toList==[42])with
   |true=>
    go_enter func363,ntmps363;go_wp2;go_ret;exact⟨by simp[qW,h0,h1,h2],rfl⟩
   |false=>
    cases h3:(t.toList==[47])with
    |true=>
     go_enter func363,ntmps363;go_wp2;go_ret;exact⟨by simp[qW,h0,h1,h2,h3],rfl⟩
    |false=>
     cases h4:(t.toList==[37])with
     |true=>
      go_enter func363,ntmps363;go_wp2;go_ret;exact⟨by simp[qW,h0,h1,h2,h3,h4],rfl⟩
     |false=>
      cases h5:(t.toList==[60])with
      |true=>
       go_enter func363,ntmps363;go_wp2;go_ret;exact⟨by simp[qW,h0,h1,h2,h3,h4,h5],rfl⟩
      |false=>
       cases h6:(t.toList==[60,61])with
       |true=>
        go_enter func363,ntmps363;go_wp2;go_ret;exact⟨by simp[qW,h0,h1,h2,h3,h4,h5,h6],rfl⟩
       |false=>
        cases h7:(t.toList==[61,61])with
        |true=>
         go_enter func363,ntmps363;go_wp2;go_ret;exact⟨by simp[qW,h0,h1,h2,h3,h4,h5,h6,h7],rfl⟩
        |false=>
         cases h8:(t.toList==[33,61])with
         |true=>
          go_enter func363,ntmps363;go_wp2;go_ret;exact⟨by simp[qW,h0,h1,h2,h3,h4,h5,h6,h7,h8],rfl⟩
         |false=>
          cases h9:(t.toList==[38,38])with
          |true=>
           go_enter func363,ntmps363;go_wp2;go_ret;exact⟨by simp[qW,h0,h1,h2,h3,h4,h5,h6,h7,h8,h9],rfl⟩
          |false=>
           go_enter func363,ntmps363;go_wp2;go_ret;exact⟨by simp[qW,h0,h1,h2,h3,h4,h5,h6,h7,h8,h9],rfl⟩
end
namespace Hx
open Go.RowKit
structure Kn where
 name:ByteArray
 kind:Int
 isVar:Bool
structure Ck where
 au:List Kn
 en:Int
 ea:Int
def PS:Kn:=⟨⟨#[]⟩,0,false⟩
def fV(ns:List Kn)(t:ByteArray):Kn:=(ns.find? fun k=>k.name.data.toList==t.data.toList).getD PS
def Ck.fail(c:Ck)(e a:Int):Ck:=if c.en=0 then ⟨c.au,e,a⟩else c
def Ck.want(c:Ck)(k at' is:Int):Ck:=if k=is then c else c.fail 3 at'
def Ck.eX(c:Ck)(t:ByteArray)(at':Int):Ck:=if (fV c.au t).kind=0 then c else c.fail 2 at'
def Ck.add(c:Ck)(t:ByteArray)(kind:Int)(isVar:Bool):Ck:=⟨c.au++[⟨t,kind,isVar⟩],c.en,c.ea⟩
def Ck.cut(c:Ck)(n:Nat):Ck:=⟨c.au.take n,c.en,c.ea⟩
def zJ:Nat->Nat->List Int
 |0,r=>[(r:Int)]
 |f+1,r=>if 128<=r then ((r%128+128:Nat):Int)::zJ f (r/128)else [(r:Int)]
def wL(n:Int):Nat:=(if n<0 then 18446744073709551615-(2 * n)%18446744073709551616 else (2 * n)%18446744073709551616).toNat
def nY(n:Int):List Int:=zJ 9 (wL n)
structure Co where
 code:List Int
 au:List (ByteArray×Int)
 free:Int
def Co.lay(c:Co)(o:Int)(ns:List Int):Co:=⟨c.code++o::ns.flatMap nY,c.au,c.free⟩
def Co.dw(c:Co)(f:Int):Co:=⟨c.code,c.au,f⟩
def Co.hold(c:Co):Co×Int:=(c.dw (wrap64 (c.free+1)),wrap64 (wrap64 (c.free+1)-1))
def Co.choose(c:Co)(into:Int):Co×Int:=if into= -1 then c.hold else (c,into)
def Co.uf(c:Co)(t:ByteArray):Int:=((c.au.find? fun n=>n.1.data.toList==t.data.toList).map (·.2)).getD (-1)
def Co.know(c:Co)(t:ByteArray)(slot:Int):Co:=⟨c.code,c.au++[(t,slot)],c.free⟩
def Co.cut(c:Co)(n:Nat):Co:=⟨c.code,c.au.take n,c.free⟩
structure Dn where
 bY:List Kn->Int:=fun _=>0
 look:Ck->Ck:=fun c=>c
 bJ:Co->Int->Co×Int:=fun c _=>(c,0)
structure Ds where
 look:Ck->Ck:=fun c=>c
 lay:Co->Co:=fun c=>c
def Ck.bracket(c:Ck)(t:ByteArray)(ta:Int)(e:Dn)(ea one want:Int):Ck:=
 ((e.look ((c.eX t ta).add t one false)).want (e.bY ((c.eX t ta).add t one false).au) ea want).cut c.au.length
def Co.inside(c:Co)(t:ByteArray)(e:Dn)(one:Int):Co×Int:=((e.bJ (c.know t one) (-1)).1.cut c.au.length,(e.bJ (c.know t one) (-1)).2)
def Co.one(c:Co)(o into:Int)(e:Dn):Co×Int:=
 let r:=e.bJ c (-1)
 let k:=(r.1.dw c.free).choose into
 (k.1.lay o [k.2,r.2],k.2)
def Co.two(c:Co)(o into:Int)(e f:Dn):Co×Int:=
 let r:=e.bJ c (-1)
 let q:=f.bJ r.1 (-1)
 let k:=(q.1.dw c.free).choose into
 (k.1.lay o [k.2,r.2,q.2],k.2)
def Co.store(c:Co)(slot:Int)(e:Dn):Co:=
 let r:=e.bJ c slot
 (if r.2=slot then r.1 else r.1.lay 7 [slot,r.2]).dw c.free
end Hx
end Go.Proofs.YthllhabjfchgiaaGreatDoor
