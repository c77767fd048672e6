import Derived.Test.YthllhabjfchgiaaGreatDoorShelf
import Derived.Test.YthllhabjfchgiaaGreatDoorHz07
import Derived.LoopN
set_option maxRecDepth 100000
set_option maxHeartbeats 8000000
namespace Go.Proofs.YthllhabjfchgiaaGreatDoor
open _root_.Go.Proofs.Tryz
namespace Hx
open Go.RowKit
def Df(c:Int):Bool:=decide (97<=c)&&decide (c<=122)
def pR(c:Int):Bool:=decide (48<=c)&&decide (c<=57)
def yN(c:Int):Bool:=c==32||c==10
def Dc(c:Int):Bool:=Df c||pR c
def span(p:Int->Bool)(l:List UInt8):Nat:=(l.takeWhile fun c=>p c.toNat).length
theorem ah9(p:Int->Bool)(l:List UInt8)(k:Nat)(h:l.length<=k):span p (l.drop k)=0:=by
 rw[List.drop_of_length_le h];rfl
theorem aib(p:Int->Bool)(l:List UInt8)(k:Nat)(h:k<l.length)(hp:p (l[k]'h).toNat=true):span p (l.drop k)=1+span p (l.drop (k+1)):=by
 unfold span;rw[List.drop_eq_getElem_cons h,List.takeWhile_cons_of_pos (by exact hp),List.length_cons];omega
theorem aia(p:Int->Bool)(l:List UInt8)(k:Nat)(h:k<l.length)(hp:p (l[k]'h).toNat=false):span p (l.drop k)=0:=by
 unfold span;rw[List.drop_eq_getElem_cons h,List.takeWhile_cons_of_neg (by rw[hp];simp)]
 rfl
def numberOf(n:Nat):Int×Int:=if 18<n then (0,0)else (3,n)
def yB(t:ByteArray):Int×Int:=numberOf (1+span pR (t.data.toList.drop 1))
def isWord(u:List UInt8):Bool:=u==[105,102]||u==[101,108,115,101]||u==[101,97,99,104]||u==[105,110]||u==[112,117,115,104]||u==[118,97,114]||u==[114,101,116,117,114,110]||u==[116,114,117,101]||u==[102,97,108,115,101]||u==[105,115,110,111,110,101]
def Ap(t:ByteArray)(n:Nat):Int×Int:=if 12<n then (0,0)else if isWord (t.extract 0 n).toList then (5,n)else (2,n)
def yC(t:ByteArray):Int×Int:=Ap t (1+span Dc (t.data.toList.drop 1))
theorem Qv(p:Int->Bool)(l:List UInt8):span p l<=l.length:=List.Sublist.length_le (List.takeWhile_sublist _)
end Hx
section
open Go.RowKit
theorem Bc(c:Int)(w:World):Calls prog 214 #[.int .u8 c] w fun e w'=>e=.returned (.bool (Hx.Df c))/\w'=w:=by
 by_cases h:97<=c
 .have d1:decide (97<=c)=true:=by simpa using h
  go_enter func214,ntmps214;go_wp2;go_ret;exact⟨wF (by simp only[Hx.Df,d1];simp),rfl⟩
 .have d1:decide (97<=c)=false:=by simpa using h
  go_enter func214,ntmps214;go_wp2;go_ret;exact⟨wF (by simp only[Hx.Df,d1];simp),rfl⟩
theorem zV(c:Int)(w:World):Calls prog 216 #[.int .u8 c] w fun e w'=>e=.returned (.bool (Hx.pR c))/\w'=w:=by
 by_cases h:48<=c
 .have d1:decide (48<=c)=true:=by simpa using h
  go_enter func216,ntmps216;go_wp2;go_ret;exact⟨wF (by simp only[Hx.pR,d1];simp),rfl⟩
 .have d1:decide (48<=c)=false:=by simpa using h
  go_enter func216,ntmps216;go_wp2;go_ret;exact⟨wF (by simp only[Hx.pR,d1];simp),rfl⟩
structure wW(p:Int->Bool)(t:ByteArray)(n k:Nat):Prop where
 eq:k+Hx.span p (t.data.toList.drop k)=n
theorem wW.I7{p:Int->Bool}{t:ByteArray}{n k:Nat}(h:wW p t n k)(hk:k<t.size)(hp:p (t[k]'hk).toNat=true):wW p t n (k+1):=by
 have:=Hx.aib p t.data.toList k (by simpa using hk) hp;exact⟨by have:=h.eq;omega⟩
theorem wW.no{p:Int->Bool}{t:ByteArray}{n k:Nat}(h:wW p t n k)(hk:k<t.size)(hp:p (t[k]'hk).toNat=false):n=k:=by
 have:=Hx.aia p t.data.toList k (by simpa using hk) hp;have:=h.eq;omega
theorem wW.off{p:Int->Bool}{t:ByteArray}{n k:Nat}(h:wW p t n k)(hk:t.size<=k):n=k:=by
 have:=Hx.ah9 p t.data.toList k (by simpa using hk);have:=h.eq;omega
theorem IV(p:Int->Bool)(t:ByteArray)(k:Nat)(hk:k<=t.size):∃n,k+Hx.span p (t.data.toList.drop k)=n/\n<=t.size/\wW p t n k:=by
 refine⟨_,rfl,?_,⟨rfl⟩⟩;have:=Hx.Qv p (t.data.toList.drop k);rw[List.length_drop]at this;have h2:t.data.toList.length=t.size:=by simp
 omega
theorem aam(t:ByteArray)(w:World)(ht:t.size<=4000)(h1:1<=t.size):
 Calls prog 217 #[.string t] w fun e w'=>e=.returned (.tuple #[Im (Hx.yB t).1,Im (Hx.yB t).2])/\w'=w:=by
 unfold Hx.yB;obtain⟨n,hn,hnb,HN⟩:=IV Hx.pR t 1 h1;rw[hn];clear hn;generalize hr:Hx.numberOf n=r;have HR:Hid (Hx.numberOf n=r):=hr;clear hr;go_enter func217,ntmps217;go_wp2;go_loop [4] (fun i=>∃k:Nat,1<=k/\k<=t.size/\i=Im k/\wW Hx.pR t n k) (fun i=>t.size-(intOf i).toNat)
 case atStart=>exact⟨1,by omega,by omega,rfl,HN⟩
 case round=>
  obtain⟨k,hk1,hk,rfl,HK⟩:=hrel;clear HN;by_cases hlt:k<t.size
  .have i0:(0:Int)<=(k:Int):=by omega
   have i1:(k:Int)<(t.size:Int):=by omega
   cases hd:Hx.pR t[k].toNat with
   |true=>
    have HE:=HK.I7 hlt hd;clear HK;go_wp2_with (go_at_call 216;refine(zV _ _).mono ?_;rintro e w' ⟨rfl,rfl⟩;rw[hd]);refine⟨⟨k+1,by omega,by omega,by go_num,HE⟩,?_⟩;simp[intOf];omega
   |false=>
    have h5:=HK.no hlt hd;subst h5;clear HK;by_cases h18:18<n
    .have d2:decide ((18:Int)<(n:Int))=true:=by simp;omega
     have e:r=(0,0):=by rw[<-HR.out,Hx.numberOf,if_pos h18]
     subst e;go_wp2_with (go_at_call 216;refine(zV _ _).mono ?_;rintro e w' ⟨rfl,rfl⟩;rw[hd]);go_ret2;exact⟨rfl,rfl⟩
    .have d2:decide ((18:Int)<(n:Int))=false:=by simp;omega
     have e:r=(3,(n:Int)):=by rw[<-HR.out,Hx.numberOf,if_neg h18]
     subst e;go_wp2_with (go_at_call 216;refine(zV _ _).mono ?_;rintro e w' ⟨rfl,rfl⟩;rw[hd]);go_ret2;exact⟨rfl,rfl⟩
  .have h5:=HK.off (by omega);have i1:decide ((k:Int)<(t.size:Int))=false:=by simp;omega
   subst h5;clear HK;by_cases h18:18<n
   .have d2:decide ((18:Int)<(n:Int))=true:=by simp;omega
    have e:r=(0,0):=by rw[<-HR.out,Hx.numberOf,if_pos h18]
    subst e;go_wp2;go_ret2;exact⟨rfl,rfl⟩
   .have d2:decide ((18:Int)<(n:Int))=false:=by simp;omega
    have e:r=(3,(n:Int)):=by rw[<-HR.out,Hx.numberOf,if_neg h18]
    subst e;go_wp2;go_ret2;exact⟨rfl,rfl⟩
theorem aaq(t:ByteArray)(w:World)(ht:t.size<=4000)(h1:1<=t.size):
 Calls prog 215 #[.string t] w fun e w'=>e=.returned (.tuple #[Im (Hx.yC t).1,Im (Hx.yC t).2])/\w'=w:=by
 unfold Hx.yC;obtain⟨n,hn,hnb,HN⟩:=IV Hx.Dc t 1 h1;rw[hn];clear hn;generalize hr:Hx.Ap t n=r;have HR:Hid (Hx.Ap t n=r):=hr;clear hr;go_enter func215,ntmps215;go_upto_block 0 with fail;go_cut [4] (fun i wx=>w=wx/\i=Im n)
 case first=>
  go_wp2_with fail;go_loop [4] (fun i=>∃k:Nat,1<=k/\k<=t.size/\i=Im k/\wW Hx.Dc t n k) (fun i=>t.size-(intOf i).toNat)
  case atStart=>exact⟨1,by omega,by omega,rfl,HN⟩
  case round=>
   obtain⟨k,hk1,hk,rfl,HK⟩:=hrel;clear HN;by_cases hlt:k<t.size
   .have i0:(0:Int)<=(k:Int):=by omega
    have i1:(k:Int)<(t.size:Int):=by omega
    cases hl:Hx.Df t[k].toNat with
    |true=>
     have HE:=HK.I7 hlt (by simp[Hx.Dc,hl]);clear HK;go_wp2_with (go_at_call 214;refine(Bc _ _).mono ?_;rintro e w' ⟨rfl,rfl⟩;rw[hl]);refine⟨⟨k+1,by omega,by omega,by go_num,HE⟩,?_⟩;simp[intOf];omega
    |false=>
     cases hd:Hx.pR t[k].toNat with
     |true=>
      have HE:=HK.I7 hlt (by simp[Hx.Dc,hl,hd]);clear HK;go_wp2_with (first|(go_at_call 214;refine(Bc _ _).mono ?_;rintro e w' ⟨rfl,rfl⟩;rw[hl])|(go_at_call 216;refine(zV _ _).mono ?_;rintro e w' ⟨rfl,rfl⟩;rw[hd]));refine⟨⟨k+1,by omega,by omega,by go_num,HE⟩,?_⟩;simp[intOf];omega
     |false=>
      have h5:=HK.no hlt (by simp[Hx.Dc,hl,hd]);subst h5;clear HK;go_wp2_with (first|(go_at_call 214;refine(Bc _ _).mono ?_;rintro e w' ⟨rfl,rfl⟩;rw[hl])|(go_at_call 216;refine(zV _ _).mono ?_;rintro e w' ⟨rfl,rfl⟩;rw[hd]));go_meet;exact⟨rfl,rfl⟩
   .have h5:=HK.off (by omega);have i1:decide ((k:Int)<(t.size:Int))=false:=by simp;omega
    subst h5;clear HK;go_wp2;go_meet;exact⟨rfl,rfl⟩
 case rest=>
  obtain⟨rfl,rfl⟩:=hcut;by_cases h12:12<n
  .have d2:decide ((12:Int)<(n:Int))=true:=by simp;omega
   have e:r=(0,0):=by rw[<-HR.out,Hx.Ap,if_pos h12]
   subst e;go_wp2;go_ret2;exact⟨rfl,rfl⟩
  .have d2:decide ((12:Int)<(n:Int))=false:=by simp;omega
   have i1:(n:Int)<=(t.size:Int):=by omega
   have i2:(0:Int)<=(n:Int):=by omega
   have HW:Hid (∀b,Hx.isWord (t.extract 0 n).toList=b->r=if b then (5,(n:Int))else (2,(n:Int))):=fun b hb=>by
    rw[<-HR.out,Hx.Ap,if_neg h12,hb]
   clear HR HN;go_wp2;all_goals first
    |(rename_i a b;exact absurd (a.symm.trans b) (by decide))
    |(have e:=HW.out true (by simp only[Hx.isWord, *,Bool.or_true,Bool.true_or])
      rw[if_pos rfl]at e;subst e;go_ret2;exact⟨rfl,rfl⟩)
    |(have e:=HW.out false (by simp only[Hx.isWord, *,Bool.or_false])
      rw[if_neg (by decide)]at e;subst e;go_ret2;exact⟨rfl,rfl⟩)
def Hx.isSet(u:List UInt8):Bool:=u==[82,79,65,68,83]||u==[70,82,69,83,72]||u==[65,71,65,73,78]
def Hx.zX(x y:Int):Bool:=x==82&&decide (48<=y)&&decide (y<=55)
def Hx.vN(t:ByteArray):Int×Int:=
 if decide (1<t.size)&&Hx.zX (t.data.toList.getD 0 0).toNat (t.data.toList.getD 1 0).toNat then (4,2)
 else if t.size<5 then (0,0)else if Hx.isSet (t.extract 0 5).toList then (5,5)else (0,0)
theorem GL(t:ByteArray)(k:Nat)(h:k<t.size):t.data.toList.getD k 0=t[k]:=by
 have:k<t.data.toList.length:=by simpa using h
 rw[List.getD_eq_getElem?_getD,List.getElem?_eq_getElem this]
 rfl
theorem aak(t:ByteArray)(w:World)(ht:t.size<=4000)(h1:1<=t.size):
 Calls prog 218 #[.string t] w fun e w'=>e=.returned (.tuple #[Im (Hx.vN t).1,Im (Hx.vN t).2])/\w'=w:=by
 generalize hr:Hx.vN t=r;have i0:(0:Int)<(t.size:Int):=by omega
 by_cases h2:1<t.size
 .have i1:(1:Int)<(t.size:Int):=by omega
  have e0:=GL t 0 (by omega);have e1:=GL t 1 h2;unfold Hx.vN at hr;rw[e0,e1,decide_eq_true h2,Bool.true_and]at hr;have HR:Hid ((if Hx.zX t[0].toNat t[1].toNat=true then ((4:Int),(2:Int))else if t.size<5 then (0,0)else if Hx.isSet (t.extract 0 5).toList=true then (5,5)else (0,0))=r):=hr;clear hr e0 e1;cases hg:Hx.zX t[0].toNat t[1].toNat with
  |true=>
   have e:r=(4,2):=by rw[<-HR.out,if_pos hg]
   subst e;simp only[Hx.zX,Bool.and_eq_true]at hg;obtain⟨⟨g1,g2⟩,g3⟩:=hg;clear HR;go_enter func218,ntmps218;go_wp2;go_ret2;exact⟨rfl,rfl⟩
  |false=>
   have HG:Hid (Hx.zX t[0].toNat t[1].toNat=false):=hg;have HQ:Hid ((if t.size<5 then ((0:Int),(0:Int))else if Hx.isSet (t.extract 0 5).toList=true then (5,5)else (0,0))=r):=by
    have h9:=HR.out;rw[if_neg (show¬Hx.zX t[0].toNat t[1].toNat=true by rw[hg];decide)]at h9;exact h9
   clear HR hg;by_cases h5:t.size<5
   .have d5:decide ((t.size:Int)<5)=true:=by simp;omega
    have e:r=(0,0):=by rw[<-HQ.out,if_pos h5]
    subst e;go_enter func218,ntmps218;go_wp2;all_goals first
     |(go_ret2;exact⟨rfl,rfl⟩)
     |(exfalso;have:=HG.out;simp only[Hx.zX, *]at this;exact absurd this (by decide))
   .have d5:decide ((t.size:Int)<5)=false:=by simp;omega
    have i5:(5:Int)<=(t.size:Int):=by omega
    have HW:Hid (∀b,Hx.isSet (t.extract 0 5).toList=b->r=if b then (5,5)else (0,0)):=fun b hb=>by
     rw[<-HQ.out,if_neg h5,hb]
    clear HQ;go_enter func218,ntmps218;go_wp2;all_goals first
     |(rename_i a b;exact absurd (a.symm.trans b) (by decide))
     |(rename_i a b _;exact absurd (a.symm.trans b) (by decide))
     |(exfalso;have:=HG.out;simp only[Hx.zX, *]at this;exact absurd this (by decide))
     |(have e:=HW.out true (by simp only[Hx.isSet, *,Bool.or_true,Bool.true_or])
       rw[if_pos rfl]at e;subst e;go_ret2;exact⟨rfl,rfl⟩)
     |(have e:=HW.out false (by simp only[Hx.isSet, *,Bool.or_false])
       rw[if_neg (by decide)]at e;subst e;go_ret2;exact⟨rfl,rfl⟩)
 .have hs:t.size=1:=by omega
  have i1:decide ((1:Int)<(t.size:Int))=false:=by simp;omega
  have d5:decide ((t.size:Int)<5)=true:=by simp;omega
  have e:r=(0,0):=by
   rw[<-hr];simp[Hx.vN,hs]
  subst e;clear hr;go_enter func218,ntmps218;go_wp2;go_ret2;exact⟨rfl,rfl⟩
end
namespace Hx
open Go.RowKit
def zY(u:List UInt8):Bool:=u==[60,61]||u==[62,61]||u==[61,61]||u==[33,61]||u==[38,38]||u==[124,124]
def Hq(c:UInt8):Bool:=decide (0<=Lib.indexByte [40,41,123,125,44,59,58,46,43,45,42,47,37,60,62,61,33] c)
def wY(t:ByteArray):Int×Int:=
 if decide (1<t.size)&&zY (t.extract 0 2).toList then (5,2)else if Hq (t.data.toList.getD 0 0)then (5,1)else (0,0)
def JC(t:ByteArray)(x:Int):Int×Int:=
 if Df x then yC t else if pR x then yB t else if decide (65<=x)&&decide (x<=90)then vN t else wY t
def oM(t:ByteArray):Int×Int:=JC t (t.data.toList.getD 0 0).toNat
structure Tk where
 kind:Int
 text:ByteArray
 at':Int
def DI(s:ByteArray)(k:Nat):Tk:=
 if k=s.size then ⟨1,⟨#[]⟩,k⟩else ⟨(oM (s.extract k s.size)).1,s.extract k (k+(oM (s.extract k s.size)).2.toNat),k⟩
def scan(s:ByteArray)(from':Nat):Tk:=DI s (from'+span yN (s.data.toList.drop from'))
theorem aar(t:ByteArray)(h:1<=t.size):0<=(yC t).2/\(yC t).2<=t.size:=by
 obtain⟨n,hn,hnb,_⟩:=IV Dc t 1 h;unfold yC;rw[hn];unfold Ap;repeat' split
 all_goals simp only
 all_goals omega
theorem aan(t:ByteArray)(h:1<=t.size):0<=(yB t).2/\(yB t).2<=t.size:=by
 obtain⟨n,hn,hnb,_⟩:=IV pR t 1 h;unfold yB;rw[hn];unfold numberOf;repeat' split
 all_goals simp only
 all_goals omega
theorem aal(t:ByteArray):0<=(vN t).2/\(vN t).2<=t.size:=by
 unfold vN;split
 .rename_i h;simp only[Bool.and_eq_true,decide_eq_true_eq]at h;simp only;omega
 .repeat' split
  all_goals simp only
  all_goals omega
theorem aao(t:ByteArray)(h:1<=t.size):0<=(wY t).2/\(wY t).2<=t.size:=by
 unfold wY;split
 .rename_i h;simp only[Bool.and_eq_true,decide_eq_true_eq]at h;simp only;omega
 .split
  all_goals simp only
  all_goals omega
theorem NG(t:ByteArray)(h:1<=t.size):0<=(oM t).2/\(oM t).2<=t.size:=by
 unfold oM JC;repeat' split
 .exact aar t h
 .exact aan t h
 .exact aal t
 .exact aao t h
end Hx
section
open Go.RowKit
theorem SN(t:ByteArray)(w:World)(ht:t.size<=4000)(h1:1<=t.size):
 Calls prog 219 #[.string t] w fun e w'=>e=.returned (.tuple #[Im (Hx.wY t).1,Im (Hx.wY t).2])/\w'=w:=by
 generalize hr:Hx.wY t=r;have i0:(0:Int)<(t.size:Int):=by omega
 have e0:=GL t 0 (by omega);unfold Hx.wY at hr;rw[e0]at hr;by_cases h2:1<t.size
 .have i1:(2:Int)<=(t.size:Int):=by omega
  have i2:decide ((1:Int)<(t.size:Int))=true:=by simp;omega
  rw[decide_eq_true h2,Bool.true_and]at hr;cases y0:((t.extract 0 2).toList==[60,61])with
  |true=>
   have e:r=(5,2):=by rw[<-hr,if_pos (by simp only[Hx.zY,y0,Bool.true_or])]
   subst e;clear hr;go_enter func219,ntmps219;go_wp2;go_ret2;exact⟨rfl,rfl⟩
  |false=>
   cases y1:((t.extract 0 2).toList==[62,61])with
   |true=>
    have e:r=(5,2):=by rw[<-hr,if_pos (by simp only[Hx.zY,y1,Bool.or_true,Bool.true_or])]
    subst e;clear hr;go_enter func219,ntmps219;go_wp2;go_ret2;exact⟨rfl,rfl⟩
   |false=>
    cases y2:((t.extract 0 2).toList==[61,61])with
    |true=>
     have e:r=(5,2):=by rw[<-hr,if_pos (by simp only[Hx.zY,y2,Bool.or_true,Bool.true_or])]
     subst e;clear hr;go_enter func219,ntmps219;go_wp2;go_ret2;exact⟨rfl,rfl⟩
    |false=>
     cases y3:((t.extract 0 2).toList==[33,61])with
     |true=>
      have e:r=(5,2):=by rw[<-hr,if_pos (by simp only[Hx.zY,y3,Bool.or_true,Bool.true_or])]
      subst e;clear hr;go_enter func219,ntmps219;go_wp2;go_ret2;exact⟨rfl,rfl⟩
     |false=>
      cases y4:((t.extract 0 2).toList==[38,38])with
      |true=>
       have e:r=(5,2):=by rw[<-hr,if_pos (by simp only[Hx.zY,y4,Bool.or_true,Bool.true_or])]
       subst e;clear hr;go_enter func219,ntmps219;go_wp2;go_ret2;exact⟨rfl,rfl⟩
      |false=>
       cases y5:((t.extract 0 2).toList==[124,124])with
       |true=>
        have e:r=(5,2):=by rw[<-hr,if_pos (by simp only[Hx.zY,y5,Bool.or_true])]
        subst e;clear hr;go_enter func219,ntmps219;go_wp2;go_ret2;exact⟨rfl,rfl⟩
       |false=>
        have hy:Hx.zY (t.extract 0 2).toList=false:=by simp only[Hx.zY,y0,y1,y2,y3,y4,y5,Bool.or_false]
        rw[if_neg (by rw[hy];decide)]at hr;clear hy;by_cases ho:(0:Int)<=Lib.indexByte [40,41,123,125,44,59,58,46,43,45,42,47,37,60,62,61,33] t[0]
        .have e:r=(5,1):=by rw[<-hr,if_pos (by simp only[Hx.Hq];exact decide_eq_true ho)]
         subst e;clear hr;go_enter func219,ntmps219;go_wp2_with (go_at_call 231;refine(Tryz.strings_IndexByte _ _ _).mono ?_;rintro e w' ⟨rfl,rfl⟩);go_ret2;exact⟨rfl,rfl⟩
        .have e:r=(0,0):=by rw[<-hr,if_neg (by simp only[Hx.Hq];rw[decide_eq_false ho];decide)]
         subst e;clear hr;have ho':Lib.indexByte [40,41,123,125,44,59,58,46,43,45,42,47,37,60,62,61,33] t[0]<0:=by omega
         go_enter func219,ntmps219;go_wp2_with (go_at_call 231;refine(Tryz.strings_IndexByte _ _ _).mono ?_;rintro e w' ⟨rfl,rfl⟩);go_ret2;exact⟨rfl,rfl⟩
 .have i2:decide ((1:Int)<(t.size:Int))=false:=by simp;omega
  rw[decide_eq_false h2,Bool.false_and,if_neg (by decide)]at hr;by_cases ho:(0:Int)<=Lib.indexByte [40,41,123,125,44,59,58,46,43,45,42,47,37,60,62,61,33] t[0]
  .have e:r=(5,1):=by rw[<-hr,if_pos (by simp only[Hx.Hq];exact decide_eq_true ho)]
   subst e;clear hr;go_enter func219,ntmps219;go_wp2_with (go_at_call 231;refine(Tryz.strings_IndexByte _ _ _).mono ?_;rintro e w' ⟨rfl,rfl⟩);go_ret2;exact⟨rfl,rfl⟩
  .have e:r=(0,0):=by rw[<-hr,if_neg (by simp only[Hx.Hq];rw[decide_eq_false ho];decide)]
   subst e;clear hr;have ho':Lib.indexByte [40,41,123,125,44,59,58,46,43,45,42,47,37,60,62,61,33] t[0]<0:=by omega
   go_enter func219,ntmps219;go_wp2_with (go_at_call 231;refine(Tryz.strings_IndexByte _ _ _).mono ?_;rintro e w' ⟨rfl,rfl⟩);go_ret2;exact⟨rfl,rfl⟩
theorem aap(t:ByteArray)(w:World)(ht:t.size<=4000)(h1:1<=t.size):
 Calls prog 190 #[.string t] w fun e w'=>e=.returned (.tuple #[Im (Hx.oM t).1,Im (Hx.oM t).2])/\w'=w:=by
 have i0:(0:Int)<(t.size:Int):=by omega
 have e0:=GL t 0 (by omega);unfold Hx.oM Hx.JC;rw[e0];clear e0;cases hl:Hx.Df t[0].toNat with
 |true=>
  simp only[if_true];go_enter func190,ntmps190;go_wp2_with (first|(go_at_call 214;refine(Bc _ _).mono ?_;rintro e w' ⟨rfl,rfl⟩;rw[hl])|(go_at_call 215;refine(aaq t _ ht h1).mono ?_;rintro e w' ⟨rfl,rfl⟩));go_ret2;exact⟨rfl,rfl⟩
 |false=>
  simp only[Bool.false_eq_true,if_false];cases hd:Hx.pR t[0].toNat with
  |true=>
   simp only[if_true];go_enter func190,ntmps190;go_wp2_with (first|(go_at_call 214;refine(Bc _ _).mono ?_;rintro e w' ⟨rfl,rfl⟩;rw[hl])|(go_at_call 216;refine(zV _ _).mono ?_;rintro e w' ⟨rfl,rfl⟩;rw[hd])|(go_at_call 217;refine(aam t _ ht h1).mono ?_;rintro e w' ⟨rfl,rfl⟩));go_ret2;exact⟨rfl,rfl⟩
  |false=>
   simp only[Bool.false_eq_true,if_false];by_cases h65:(65:Int)<=t[0].toNat
   .have d1:decide ((65:Int)<=(t[0].toNat:Int))=true:=decide_eq_true h65;by_cases Uw:(t[0].toNat:Int)<=90
    .have d2:decide ((t[0].toNat:Int)<=90)=true:=decide_eq_true Uw;simp only[d1,d2,Bool.and_self,if_true];go_enter func190,ntmps190;go_wp2_with (first|(go_at_call 214;refine(Bc _ _).mono ?_;rintro e w' ⟨rfl,rfl⟩;rw[hl])|(go_at_call 216;refine(zV _ _).mono ?_;rintro e w' ⟨rfl,rfl⟩;rw[hd])|(go_at_call 218;refine(aak t _ ht h1).mono ?_;rintro e w' ⟨rfl,rfl⟩));go_ret2;exact⟨rfl,rfl⟩
    .have d2:decide ((t[0].toNat:Int)<=90)=false:=decide_eq_false Uw;simp only[d1,d2,Bool.and_false,Bool.false_eq_true,if_false];go_enter func190,ntmps190;go_wp2_with (first|(go_at_call 214;refine(Bc _ _).mono ?_;rintro e w' ⟨rfl,rfl⟩;rw[hl])|(go_at_call 216;refine(zV _ _).mono ?_;rintro e w' ⟨rfl,rfl⟩;rw[hd])|(go_at_call 219;refine(SN t _ ht h1).mono ?_;rintro e w' ⟨rfl,rfl⟩));go_ret2;exact⟨rfl,rfl⟩
   .have d1:decide ((65:Int)<=(t[0].toNat:Int))=false:=decide_eq_false h65;simp only[d1,Bool.false_and,Bool.false_eq_true,if_false];go_enter func190,ntmps190;go_wp2_with (first|(go_at_call 214;refine(Bc _ _).mono ?_;rintro e w' ⟨rfl,rfl⟩;rw[hl])|(go_at_call 216;refine(zV _ _).mono ?_;rintro e w' ⟨rfl,rfl⟩;rw[hd])|(go_at_call 219;refine(SN t _ ht h1).mono ?_;rintro e w' ⟨rfl,rfl⟩));go_ret2;exact⟨rfl,rfl⟩
def lY(k:Hx.Tk):Value:=.agg #[Im k.kind,.string k.text,Im k.at']
theorem XD(s:ByteArray)(from':Nat)(w:World)(hs:s.size<=4000)(hf:from'<=s.size):
 Calls prog 140 #[.string s,Im from'] w fun e w'=>e=.returned (lY (Hx.scan s from'))/\w.grownBy w' none:=by
 unfold Hx.scan;obtain⟨n,hn,hnb,HN⟩:=IV Hx.yN s from' hf;rw[hn];clear hn;generalize hr:Hx.DI s n=r;have HR:Hid (Hx.DI s n=r):=hr;clear hr;have HG:Hid (∀o k,w.grownBy ((w.alloc o).drewN k) none):=fun o k=>(World.grownBy_alloc w o none).trans ⟨rfl,rfl,rfl,Nat.le_refl _,fun _ _ _=>rfl⟩;go_enter func140,ntmps140;go_upto_block 0 with fail;go_cut [5] (fun i wx=>w.alloc (.cells #[Im 0,.string ⟨#[]⟩,Im 0] 249)=wx/\i=Im n)
 case first=>
  go_wp2_with fail;go_loop [5] (fun i=>∃k:Nat,k<=s.size/\i=Im k/\wW Hx.yN s n k) (fun i=>s.size-(intOf i).toNat)
  case atStart=>exact⟨from',by omega,rfl,HN⟩
  case round=>
   obtain⟨k,hk,rfl,HK⟩:=hrel;clear HN;by_cases hlt:k<s.size
   .have i0:(0:Int)<=(k:Int):=by omega
    have i1:(k:Int)<(s.size:Int):=by omega
    cases hl:((s[k].toNat:Int)==32)with
    |true=>
     have HE:=HK.I7 hlt (by simp[Hx.yN,hl]);clear HK;go_wp2;refine⟨⟨k+1,by omega,by go_num,HE⟩,?_⟩;simp[intOf];omega
    |false=>
     cases hd:((s[k].toNat:Int)==10)with
     |true=>
      have HE:=HK.I7 hlt (by simp[Hx.yN,hl,hd]);clear HK;go_wp2;refine⟨⟨k+1,by omega,by go_num,HE⟩,?_⟩;simp[intOf];omega
     |false=>
      have h5:=HK.no hlt (by simp only[Hx.yN,hl,hd,Bool.or_false]);subst h5;clear HK;go_wp2;go_meet;exact⟨rfl,rfl⟩
   .have h5:=HK.off (by omega);have i1:decide ((k:Int)<(s.size:Int))=false:=by simp;omega
    subst h5;clear HK;go_wp2;go_meet;exact⟨rfl,rfl⟩
 case rest=>
  obtain⟨rfl,rfl⟩:=hcut;clear HN;by_cases he:n=s.size
  .subst he;have e:r=⟨1,⟨#[]⟩,s.size⟩:=by rw[<-HR.out,Hx.DI,if_pos rfl]
   subst e;clear HR;go_wp2;refine bodyPost_ret (v:=.agg #[Im 1,.string ⟨#[]⟩,Im s.size]) (by simp[results,Tryz.results140,go_sem]) rfl ?_;exact⟨rfl,HG.out _ 0⟩
  .have d1:((n:Int)==(s.size:Int))=false:=by simp;omega
   have hsz:(s.extract n s.size).size=s.size-n:=by simp
   obtain⟨b1,b2⟩:=Hx.NG (s.extract n s.size) (by omega);have hC:=aap (s.extract n s.size);have HC:Hid (∀w,Calls prog 190 #[.string (s.extract n s.size)] w fun e w'=>e=.returned (.tuple #[Im (Hx.oM (s.extract n s.size)).1,Im (Hx.oM (s.extract n s.size)).2])/\w'=w):=fun w=>hC w (by omega) (by omega);have HE:Hid (r=⟨(Hx.oM (s.extract n s.size)).1,s.extract n (n+(Hx.oM (s.extract n s.size)).2.toNat),n⟩):=by
    show _=_;rw[<-HR.out,Hx.DI,if_neg he]
   clear hC HR;generalize (Hx.oM (s.extract n s.size)).1=q at *;generalize (Hx.oM (s.extract n s.size)).2=z at *;obtain⟨z,rfl⟩:=Int.eq_ofNat_of_zero_le b1;have i0:(0:Int)<=(n:Int):=by omega
   have i1:(n:Int)<=(s.size:Int):=by omega
   have i2:(n:Int)+(z:Int)<=(s.size:Int):=by omega
   obtain⟨y,hy⟩:∃y:Nat,n+z=y:=⟨_,rfl⟩;have U1:(n:Int)+(z:Int)=(y:Int):=by omega
   have i3:(n:Int)<=(y:Int):=by omega
   have i4:(y:Int)<=(s.size:Int):=by omega
   rw[Int.toNat_natCast,hy]at HE;clear b1 b2 hsz hy;go_wp2_with (go_at_call 190;refine(HC.out _).mono ?_;rintro e w' ⟨rfl,rfl⟩);refine bodyPost_ret (v:=.agg #[Im q,.string (s.extract n y),Im n]) (by simp[results,Tryz.results140,go_sem]) rfl ?_;exact⟨by rw[HE.out];rfl,HG.out _ 0⟩
end
section
open Go.RowKit
open Hx (Tk)
attribute [local go_sem ↓] Go.wp_at_zero Go.wp_at_succ
attribute [local go_sem] bT
section
structure mX(w:World) where
 val:World
 grown:w.grownBy val none
theorem JM(w:World):Nonempty (mX w):=⟨⟨w,World.grownBy.refl w none⟩⟩
theorem MN{P:Program}{id:Nat}{Q:Exit->Act->World->Prop}{a:Act}{w:World}{l:List Oper}(n:Nat)(hm:P.follows .mixedOrders=true)(hB:Region.lexTailB .any l.toArray n=true)
 (h:wpQuiet P l.toArray (fun w'=>∃x:mX w,w'=x.val) (fun a'=>∀w',w.grownBy w' none->wpList P l.toArray Q (l.drop n) a' w') (l.take n) a):(Code.region id l.toArray true).wp P Q a w:=by
 refine Q7 (C:=fun w'=>∃x:mX w,w'=x.val) n hm hB ⟨⟨w.drew,⟨rfl,rfl,rfl,Nat.le_refl _,fun _ _ _=>rfl⟩⟩,rfl⟩ ?_;have mono:∀(l':List Oper)(a:Act),wpQuiet P l.toArray (fun w'=>∃x:mX w,w'=x.val) (fun a'=>∀w',w.grownBy w' none->wpList P l.toArray Q (l.drop n) a' w') l' a->
  wpQuiet P l.toArray (fun w'=>∃x:mX w,w'=x.val) (fun a'=>∀w',(∃x:mX w,w'=x.val)->wpList P l.toArray Q (l.drop n) a' w') l' a:=by
  intro l';induction l' with
  |nil=>
   intro a h;rintro w' ⟨x,rfl⟩;exact h _ x.grown
  |cons o rest ih=>
   intro a h;unfold wpQuiet at h⊢;split
   .rename_i hw;rw[if_pos hw]at h;obtain⟨v,h1,h2⟩:=h;exact⟨v,h1,ih _ h2⟩
   .rename_i hw;rw[if_neg hw]at h;exact ih _ h
 exact mono _ _ h
theorem Calls.NY{P:Program}{f:FuncId}{args:Array Value}{w:World}{x:mX w}{v:Value}(h:Calls P f args x.val fun e w'=>e=.returned v/\x.val.grownBy w' none):
 Calls P f args x.val fun e w''=>e=.returned v/\∃y:mX w,w''=y.val:=
 h.mono fun _ w'' ⟨he,hg⟩=>⟨he,⟨w'',x.grown.trans hg⟩,rfl⟩
structure bK(w:World)(P:Nat)(s:ByteArray)(k:Tk)(dp en ea:Int):Prop where
 c0:w.cell? (Ad P 0)=some (.string s)
 c1:w.cell? (Ad P 1)=some (Im k.kind)
 c2:w.cell? (Ad P 2)=some (.string k.text)
 c3:w.cell? (Ad P 3)=some (Im k.at')
 c4:w.cell? (Ad P 4)=some (Im dp)
 c5:w.cell? (Ad P 5)=some (Im en)
 c6:w.cell? (Ad P 6)=some (Im ea)
 fr:∀j,w.frozen? (Ad P j)=false
variable {w:World}{P:Nat}{s:ByteArray}{k:Tk}{dp en ea:Int}
theorem bK.lt(h:bK w P s k dp en ea):P<w.heap.size:=World.block_lt_of_cell? w _ h.c0
theorem bK.grow(h:bK w P s k dp en ea){w':World}(hg:w.grownBy w' none):bK w' P s k dp en ea:=by
 have hb:w'.heap[P]? =w.heap[P]? :=hg.block P h.lt (by simp);have hc:∀j,w'.cell? (Ad P j)=w.cell? (Ad P j):=fun j=>World.cell?_of_block hb;exact⟨by rw[hc];exact h.c0,by rw[hc];exact h.c1,by rw[hc];exact h.c2,by rw[hc];exact h.c3,by rw[hc];exact h.c4,by rw[hc];exact h.c5,by rw[hc];exact h.c6,
  fun j=>(World.frozen?_of_block hb).trans (h.fr j)⟩
theorem bK.set(h:bK w P s k dp en ea)(j:Nat)(v:Value)(k':Tk)(TG en' vP:Int)(h0:¬j=0)
 (h1:(if j=1 then v else Im k.kind)=Im k'.kind)(h2:(if j=2 then v else .string k.text)=.string k'.text)(h3:(if j=3 then v else Im k.at')=Im k'.at')
 (h4:(if j=4 then v else Im dp)=Im TG)(h5:(if j=5 then v else Im en)=Im en')(h6:(if j=6 then v else Im ea)=Im vP):
 bK (w.setCell (Ad P j) v) P s k' TG en' vP:=by
 have key:∀i u,w.cell? (Ad P i)=some u->(w.setCell (Ad P j) v).cell? (Ad P i)=some (if j=i then v else u):=fun i u hu=>by
  by_cases e:j=i
  .subst e;rw[if_pos rfl];exact World.cell?_setCell_same _ _ _ hu
  .rw[if_neg e,World.cell?_setCell_other _ _ _ _ (by intro h;cases h;exact e rfl)];exact hu
 exact⟨by rw[key 0 _ h.c0,if_neg h0],by rw[key 1 _ h.c1,h1],by rw[key 2 _ h.c2,h2],by rw[key 3 _ h.c3,h3],by rw[key 4 _ h.c4,h4],by rw[key 5 _ h.c5,h5],by rw[key 6 _ h.c6,h6],fun i=>by rw[World.frozen?_setCell];exact h.fr i⟩
theorem bK.lK(h:bK w P s k dp en ea){w':World}{g:Nat}(hg:w.grownBy w' (some g))(hne:P≠g):bK w' P s k dp en ea:=by
 have hb:w'.heap[P]? =w.heap[P]? :=hg.block P h.lt (by simpa using hne);have hc:∀j,w'.cell? (Ad P j)=w.cell? (Ad P j):=fun j=>World.cell?_of_block hb;exact⟨by rw[hc];exact h.c0,by rw[hc];exact h.c1,by rw[hc];exact h.c2,by rw[hc];exact h.c3,by rw[hc];exact h.c4,by rw[hc];exact h.c5,by rw[hc];exact h.c6,
  fun j=>(World.frozen?_of_block hb).trans (h.fr j)⟩
theorem kP{w x:World}{r:Option Nat}(h:w.grownBy x r){g:Nat}(hg:w.heap.size<=g)(j:Nat)(v:Value):w.grownBy (x.setCell (Ad g j) v) r:=
 h.andThen (dV x g j v) (fun j e=>by cases e;exact Or.inl hg)
theorem yH{w x:World}{P:Nat}(h:w.grownBy x (some P))(j:Nat)(v:Value):w.grownBy (x.setCell (Ad P j) v) (some P):=h.trans (dV x P j v)
theorem DJ(w:World)(g:Nat)(T:TypeId)(a0 a1 a2 v0 v1 v2:Value)(h:w.heap[g]? =some (.cells #[a0,a1,a2] T)):
 (((w.setCell (Ad g 0) v0).setCell (Ad g 1) v1).setCell (Ad g 2) v2).heap[g]? =some (.cells #[v0,v1,v2] T):=by
 have h0:(w.setCell (Ad g 0) v0).heap[g]? =some (.cells #[v0,a1,a2] T):=heap_setCell_same _ _ _ _ _ _ h;have h1:((w.setCell (Ad g 0) v0).setCell (Ad g 1) v1).heap[g]? =some (.cells #[v0,v1,a2] T):=heap_setCell_same _ _ _ _ _ _ h0;exact heap_setCell_same _ _ _ _ _ _ h1
theorem aeQ(tmps:Array Value)(w:World)(g:Nat)(k:Tk)(h2:tmps[2]? =some (Pt g 0))(h:w.heap[g]? =some (.cells #[Im k.kind,.string k.text,Im k.at'] 249)):
 (results Tryz.f236 tmps).run prog w=.ok (lY k) w:=by
 have q0:w.cell? (Ad g 0)=some (Im k.kind):=aA h;have q1:w.cell? (Ad g 1)=some (.string k.text):=aA h;have q2:w.cell? (Ad g 2)=some (Im k.at'):=aA h;simp[results,Tryz.results236,go_sem,h2,q0,q1,q2,lY]
theorem adx(h:bK w P s k dp en ea)(t:ByteArray):Calls prog 242 #[Pt P 0,.string t] w fun e w'=>e=.returned (.bool (k.text.toList==t.toList))/\w'=w:=by
 have c2:=h.c2;clear h;go_enter func242,ntmps242;go_wp2;go_ret;exact⟨rfl,rfl⟩
theorem aeP(h:bK w P s k dp en ea)(i:Nat)(hi:k.at'=i)(hb:i+k.text.size<=s.size)(hs:s.size<=4000):
 Calls prog 236 #[Pt P 0] w fun e w'=>e=.returned (lY k)/\bK w' P s (Hx.scan s (i+k.text.size)) dp en ea/\w.grownBy w' (some P):=by
 have c0:=h.c0;have c1:=h.c1;have c2:=h.c2;have c3:=h.c3;have hL:=h.lt;rw[hi]at c3;have n1:¬P=w.heap.size:=by omega
 have n2:¬P=w.heap.size+1:=by omega
 have HS:Hid (∀w,Calls prog 140 #[.string s,Im ((i+k.text.size:Nat):Int)] w fun e w'=>e=.returned (lY (Hx.scan s (i+k.text.size)))/\w.grownBy w' none):=fun w=>XD s _ w hs hb;obtain⟨y,hy⟩:∃y,i+k.text.size=y:=⟨_,rfl⟩;have U1:(i:Int)+(k.text.size:Int)=(y:Int):=by omega
 rw[hy]at HS⊢;have hgW:w.grownBy ((w.alloc (.cells #[Im 0,.string ⟨#[]⟩,Im 0] 249)).alloc (.cells #[Im k.kind,.string k.text,Im i] 249)) none:=(World.grownBy_alloc w _ none).trans (World.grownBy_alloc _ _ none);have hbox:((w.alloc (.cells #[Im 0,.string ⟨#[]⟩,Im 0] 249)).alloc (.cells #[Im k.kind,.string k.text,Im i] 249)).heap[w.heap.size+1]? =some (.cells #[Im k.kind,.string k.text,Im i] 249):=(G5 w _ _).1;have hres:((w.alloc (.cells #[Im 0,.string ⟨#[]⟩,Im 0] 249)).alloc (.cells #[Im k.kind,.string k.text,Im i] 249)).heap[w.heap.size]? =some (.cells #[Im 0,.string ⟨#[]⟩,Im 0] 249):=(G5 w _ _).2;have e0:∀x:mX ((w.alloc (.cells #[Im 0,.string ⟨#[]⟩,Im 0] 249)).alloc (.cells #[Im k.kind,.string k.text,Im i] 249)),x.val.cell? (Ad P 0)=some (.string s):=fun x=>(h.grow (hgW.trans x.grown)).c0;have e1:∀x:mX ((w.alloc (.cells #[Im 0,.string ⟨#[]⟩,Im 0] 249)).alloc (.cells #[Im k.kind,.string k.text,Im i] 249)),x.val.cell? (Ad (w.heap.size+1) 1)=some (.string k.text):=fun x=>aA ((x.grown.block _ (dS hbox) (by simp)).trans hbox);have e2:∀x:mX ((w.alloc (.cells #[Im 0,.string ⟨#[]⟩,Im 0] 249)).alloc (.cells #[Im k.kind,.string k.text,Im i] 249)),x.val.cell? (Ad (w.heap.size+1) 2)=some (Im i):=fun x=>aA ((x.grown.block _ (dS hbox) (by simp)).trans hbox)
 have HW:Hid (∀w',((w.alloc (.cells #[Im 0,.string ⟨#[]⟩,Im 0] 249)).alloc (.cells #[Im k.kind,.string k.text,Im i] 249)).grownBy w' none->bK w' P s k dp en ea/\w.grownBy w' none/\w'.heap[w.heap.size+1]? =some (.cells #[Im k.kind,.string k.text,Im i] 249)/\w'.heap[w.heap.size]? =some (.cells #[Im 0,.string ⟨#[]⟩,Im 0] 249)):=fun w' hg=>
  ⟨h.grow (hgW.trans hg),hgW.trans hg,(hg.block _ (dS hbox) (by simp)).trans hbox,(hg.block _ (dS hres) (by simp)).trans hres⟩
 clear hgW hbox hres h;go_enter func236,ntmps236;go_wp2_with fail;have hne:=JM ((w.alloc (.cells #[Im 0,.string ⟨#[]⟩,Im 0] 249)).alloc (.cells #[Im k.kind,.string k.text,Im i] 249));refine MN 14 (by kernel_rfl) (by kernel_rfl) ?_;simp only[List.take_succ_cons,List.take_zero,List.drop_succ_cons,List.drop_zero];repeat (go_big_quiet_step ((go_at_call 140;exact Calls.NY (HS.out _))))
 refine wpQuiet_nil ?_;intro w' hg;obtain⟨hp,hg2,hbx,hrs⟩:=HW.out w' hg;have f0:=hp.c0;have f1:=hp.c1;have f2:=hp.c2;have f3:=hp.c3;have ff:=hp.fr;have q0:w'.cell? (Ad (w.heap.size+1) 0)=some (Im k.kind):=aA hbx;have q1:w'.cell? (Ad (w.heap.size+1) 1)=some (.string k.text):=aA hbx;have q2:w'.cell? (Ad (w.heap.size+1) 2)=some (Im i):=aA hbx;have r0:w'.cell? (Ad w.heap.size 0)=some (Im 0):=aA hrs;have r1:w'.cell? (Ad w.heap.size 1)=some (.string ⟨#[]⟩):=aA hrs;have r2:w'.cell? (Ad w.heap.size 2)=some (Im 0):=aA hrs;have rf:∀j,w'.frozen? (Ad w.heap.size j)=false:=fun j=>eu hrs;have n3:¬w.heap.size+1=P:=by omega
 have n4:¬w.heap.size=P:=by omega
 have HX:Hid (∀k':Tk,bK ((((((w'.setCell (Ad P 1) (Im k'.kind)).setCell (Ad P 2) (.string k'.text)).setCell (Ad P 3) (Im k'.at')).setCell (Ad w.heap.size 0) (Im k.kind)).setCell (Ad w.heap.size 1) (.string k.text)).setCell (Ad w.heap.size 2) (Im i)) P s k' dp en ea/\
  w.grownBy ((((((w'.setCell (Ad P 1) (Im k'.kind)).setCell (Ad P 2) (.string k'.text)).setCell (Ad P 3) (Im k'.at')).setCell (Ad w.heap.size 0) (Im k.kind)).setCell (Ad w.heap.size 1) (.string k.text)).setCell (Ad w.heap.size 2) (Im i)) (some P)/\
  ((((((w'.setCell (Ad P 1) (Im k'.kind)).setCell (Ad P 2) (.string k'.text)).setCell (Ad P 3) (Im k'.at')).setCell (Ad w.heap.size 0) (Im k.kind)).setCell (Ad w.heap.size 1) (.string k.text)).setCell (Ad w.heap.size 2) (Im i)).heap[w.heap.size]? =some (.cells #[Im k.kind,.string k.text,Im k.at'] 249)):=fun k'=>by
  have a1:=hp.set 1 (Im k'.kind) ⟨k'.kind,k.text,k.at'⟩ dp en ea (by omega) rfl rfl rfl rfl rfl rfl;have a2:=a1.set 2 (.string k'.text) ⟨k'.kind,k'.text,k.at'⟩ dp en ea (by omega) rfl rfl rfl rfl rfl rfl;have a3:=a2.set 3 (Im k'.at') k' dp en ea (by omega) rfl rfl rfl rfl rfl rfl;refine⟨((a3.lK (dV _ _ _ _) n1).lK (dV _ _ _ _) n1).lK (dV _ _ _ _) n1,?_,?_⟩
  .exact kP (kP (kP (yH (yH (yH (hg2.but _) _ _) _ _) _ _) (Nat.le_refl _) _ _) (Nat.le_refl _) _ _) (Nat.le_refl _) _ _
  .rw[hi];refine DJ _ _ _ (Im 0) (.string ⟨#[]⟩) (Im 0) _ _ _ ?_;rw[Below.heap_setCell _ _ _ _ n4,Below.heap_setCell _ _ _ _ n4,Below.heap_setCell _ _ _ _ n4];exact hrs
 clear HW hg hbx hrs e0 e1 e2 c0 c1 c2 c3 HS;generalize hk':Hx.scan s y=k' at *;unfold lY;go_wp2_with fail;obtain⟨x1,x2,x3⟩:=HX.out k';refine bodyPost_ret (aeQ _ _ w.heap.size k rfl x3) rfl ?_;exact⟨rfl,by rw[hk'];exact x1,x2⟩
end
section
variable {w:World}{P:Nat}{s:ByteArray}{k:Tk}{dp en ea:Int}
structure Gn(s:ByteArray)(k:Tk):Prop where
 l9:0<=k.at'
 bd:k.at'.toNat+k.text.size<=s.size
def E8(s:ByteArray)(k:Tk):Tk:=Hx.scan s (k.at'.toNat+k.text.size)
theorem PN(h:bK w P s k dp en ea)(hk:Gn s k)(hs:s.size<=4000):
 Calls prog 236 #[Pt P 0] w fun e w'=>e=.returned (lY k)/\bK w' P s (E8 s k) dp en ea/\w.grownBy w' (some P):=
 aeP h k.at'.toNat (by have:=hk.l9;omega) hk.bd hs
def dY(xs:List Int):Int:=xs.foldl (fun a c=>min (a+c) 1000001) 0
theorem aiW(w:World):Calls prog 143 #[Nl] w fun e w'=>e=.returned (Im 0)/\w'=w:=by
 go_enter func143,ntmps143;go_wp2;go_loop [3,5,8] (fun a _ i=>a=Im 0/\i=Im 0) (fun _ _ _=>0)
 case atStart=>exact⟨rfl,rfl⟩
 case round=>
  obtain⟨rfl,rfl⟩:=hrel;go_wp2;go_ret;exact⟨rfl,rfl⟩
theorem Yv(xs:List Int)(k:Nat)(h:k<xs.length)(a:Int):(xs.drop k).foldl (fun a c=>min (a+c) 1000001) a=(xs.drop (k+1)).foldl (fun a c=>min (a+c) 1000001) (min (a+xs[k]) 1000001):=by
 rw[List.drop_eq_getElem_cons h,List.foldl_cons]
theorem aiV(w:World)(b cap:Nat)(xs:List Int)(hx:∀x∈xs,0<=x/\x<=1000001)(hn:xs.length<=1000000)(hc:∀(i:Nat)(x:Int),xs[i]? =some x->w.cell? (Ad b i)=some (Im x)):
 Calls prog 143 #[.slice (some (Ad b 0)) xs.length cap] w fun e w'=>e=.returned (Im (dY xs))/\w'=w:=by
 have HR:Hid (dY xs=(xs.drop 0).foldl (fun a c=>min (a+c) 1000001) 0):=rfl;generalize hr:dY xs=r at *;clear hr;go_enter func143,ntmps143;go_wp2;go_loop [3,5,8] (fun a _ i=>∃(k:Nat)(z:Int),k<=xs.length/\0<=z/\z<=1000001/\a=Im z/\i=Im k/\Hid (r=(xs.drop k).foldl (fun a c=>min (a+c) 1000001) z)) (fun _ _ i=>xs.length-(intOf i).toNat)
 case atStart=>exact⟨0,0,Nat.zero_le _,by omega,by omega,rfl,rfl,HR⟩
 case round=>
  obtain⟨k,z,hk,z0,z1,rfl,rfl,HK⟩:=hrel;clear HR;by_cases hlt:k<xs.length
  .have d1:decide ((k:Int)<(xs.length:Int))=true:=by simp;omega
   have i0:(0:Int)<=(k:Int):=by omega
   have i1:(k:Int)<(xs.length:Int):=by omega
   have hg:xs[k]? =some xs[k]:=List.getElem?_eq_getElem hlt;have ck:=hc k _ hg;have hb:=hx _ (List.getElem_mem hlt);have HE:=HK.out;rw[Yv xs k hlt]at HE;generalize xs[k]=x at *;have dO:Hid (∀y,y=min (z+x) 1000001->r=(xs.drop (k+1)).foldl (fun a c=>min (a+c) 1000001) y):=fun y hy=>by rw[hy];exact HE
   clear HK HE hg hc;generalize xs.length=n at *;go_wp2;all_goals (refine⟨⟨k+1,_,by omega,?_,?_,rfl,by go_num,dO.out _ (by omega)⟩,by simp[intOf];omega⟩)
   all_goals omega
  .have d1:decide ((k:Int)<(xs.length:Int))=false:=by simp;omega
   have e:r=z:=by rw[HK.out,List.drop_of_length_le (by omega)];rfl
   subst e;clear HK;go_wp2;go_ret;exact⟨rfl,rfl⟩
def xW(w:World)(v:Value)(xs:List Int):Prop:=
 (∀x∈xs,0<=x/\x<=1000001)/\xs.length<=1000/\((v=Nl/\xs=[])\/∃b cap,v=.slice (some (Ad b 0)) xs.length cap/\∀(i:Nat)(x:Int),xs[i]? =some x->w.cell? (Ad b i)=some (Im x))
theorem xW.grow{v:Value}{xs:List Int}(h:xW w v xs){w':World}(hg:w.grownBy w' none):xW w' v xs:=by
 obtain⟨h1,h2,h3|⟨b,cap,h3,h4⟩⟩:=h
 .exact⟨h1,h2,Or.inl h3⟩
 .exact⟨h1,h2,Or.inr ⟨b,cap,h3,fun i x hx=>hg.cell (h4 i x hx) (by simp)⟩⟩
theorem IY{v:Value}{xs:List Int}(h:xW w v xs):Calls prog 143 #[v] w fun e w'=>e=.returned (Im (dY xs))/\w'=w:=by
 obtain⟨h1,h2,⟨rfl,rfl⟩|⟨b,cap,rfl,h4⟩⟩:=h
 .exact aiW w
 .exact aiV w b cap xs h1 (by omega) h4
theorem uY(xs:List Int)(hx:∀x∈xs,0<=x/\x<=1000001):0<=dY xs/\dY xs<=1000001:=by
 have key:∀(xs:List Int)(a:Int),(∀x∈xs,0<=x/\x<=1000001)->0<=a->a<=1000001->0<=xs.foldl (fun a c=>min (a+c) 1000001) a/\xs.foldl (fun a c=>min (a+c) 1000001) a<=1000001:=by
  intro xs;induction xs with
  |nil=>intro a _ h0 h1;exact⟨h0,h1⟩
  |cons x xs ih=>
   intro a hx h0 h1;have:=hx x List.mem_cons_self;exact ih _ (fun y hy=>hx y (List.mem_cons_of_mem _ hy)) (by show 0<=min (a+x) 1000001;omega) (by show min (a+x) 1000001<=1000001;omega)
 exact key xs 0 hx (by omega) (by omega)
def bD(xs:List Int):Int:=dY [1,dY xs]
theorem afP(tmps:Array Value)(w:World)(g:Nat)(a c:Int)(h2:tmps[4]? =some (Pt g 0))(h0:w.cell? (Ad g 0)=some (Im a))(h1:w.cell? (Ad g 1)=some (Im c)):
 (results Tryz.f234 tmps).run prog w=.ok (.agg #[Im a,Im c]) w:=by
 simp[results,Tryz.results234,go_sem,h2,h0,h1]
theorem ET(at':Int)(v:Value)(xs:List Int)(h:xW w v xs):
 Calls prog 234 #[Im at',v] w fun e w'=>e=.returned (.agg #[Im at',Im (bD xs)])/\w'=(w.alloc (.cells #[Im at',Im (bD xs)] 323)).alloc (.cells #[Im 1,Im (dY xs)] 3):=by
 have HT:Hid (∀o,Calls prog 143 #[v] (w.alloc o) fun e w'=>e=.returned (Im (dY xs))/\w'=w.alloc o):=fun o=>IY (h.grow (World.grownBy_alloc w o none));have hb:=uY xs h.1;have HT2:Hid (∀o T t,t=dY xs->Calls prog 143 #[.slice (some (Ad (w.heap.size+1) 0)) 2 2] ((w.alloc o).alloc (.cells #[Im 1,Im t] T)) fun e w'=>e=.returned (Im (bD xs))/\w'=(w.alloc o).alloc (.cells #[Im 1,Im t] T)):=by
  intro o T t ht;subst ht;refine IY (xs:=[1,dY xs]) ⟨fun x hx=>?_,by simp,Or.inr ⟨_,_,rfl,fun i x hx=>?_⟩⟩
  .simp only[List.mem_cons,List.not_mem_nil,or_false]at hx;rcases hx with rfl|rfl<;>omega
  .have hh:=(G5 w o (.cells #[Im 1,Im (dY xs)] T)).1;rw[aA hh]
   match i,hx with
   |0,hx=>cases hx;rfl
   |1,hx=>cases hx;rfl
 generalize bD xs=pc at *;generalize dY xs=t at *;clear h;go_enter func234,ntmps234;go_wp2_with fail;refine(HT.out _).mono ?_;rintro e w1 ⟨rfl,rfl⟩;go_wp2_with fail;refine(HT2.out _ _ _ rfl).mono ?_;rintro e w1 ⟨rfl,rfl⟩;go_wp2_with fail;have hh:=(G5 w (.cells #[Im at',Im pc] 323) (.cells #[Im 1,Im t] 3)).2;exact bodyPost_ret (afP _ _ w.heap.size at' pc rfl (aA hh) (aA hh)) rfl ⟨rfl,rfl⟩
theorem uO(at':Int)(v:Value)(xs:List Int)(h:xW w v xs):
 Calls prog 234 #[Im at',v] w fun e w'=>e=.returned (.agg #[Im at',Im (bD xs)])/\w.grownBy w' none:=
 (ET at' v xs h).mono fun _ _ ⟨h1,h2⟩=>⟨h1,by rw[h2];exact(World.grownBy_alloc w _ none).trans (World.grownBy_alloc _ _ none)⟩
theorem nZ(b o:Nat)(c:Int)(h:w.cell? (Ad b (o+1))=some (Im c)):Calls prog 244 #[Pt b o] w fun e w'=>e=.returned (Im c)/\w'=w:=by
 go_enter func244,ntmps244;go_wp2;go_ret;exact⟨rfl,rfl⟩
theorem ady(h:bK w P s k dp en ea)(l:List UInt8)(b:Bool)(hb:(k.text.toList==l)=b):Calls prog 242 #[Pt P 0,.string ⟨l.toArray⟩] w fun e w'=>e=.returned (.bool b)/\w'=w:=by
 have:=adx h ⟨l.toArray⟩;rw[show(⟨l.toArray⟩:ByteArray).toList=l from ByteArray.toList_mk l,hb]at this;exact this
def setOf(u:List UInt8):Option Int:=if u==[82,79,65,68,83]then some 3 else if u==[70,82,69,83,72]||u==[65,71,65,73,78]then some 4 else none
theorem TR(at':Int)(x:mX w):Calls prog 234 #[Im at',Nl] x.val fun e w''=>e=.returned (.agg #[Im at',Im 1])/\∃y:mX w,w''=y.val:=
 Calls.NY (uO at' (Nl) [] ⟨fun _ h=>(List.not_mem_nil h).elim,by simp,Or.inl ⟨rfl,rfl⟩⟩)
end
end
end Go.Proofs.YthllhabjfchgiaaGreatDoor
