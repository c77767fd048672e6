import Derived.Test.YthllhabjfchgiaaGreatDoorShelf
import Derived.Test.YthllhabjfchgiaaGreatDoorHk06
import Derived.LoopN
import Derived.OwnWalk
import Derived.Maps.AppendAt
set_option maxRecDepth 100000
set_option maxHeartbeats 8000000
set_option linter.unusedSimpArgs false
namespace Go.Proofs.YthllhabjfchgiaaGreatDoor
open _root_.Go.Proofs.Tryz
namespace Hx
open Go.RowKit
def isLet(c:Int):Bool:=decide (97<=c)&&decide (c<=122)
def mZ(c:Int):Bool:=decide (48<=c)&&decide (c<=57)
def xX(c:Int):Bool:=c==32||c==10
def BZ(c:Int):Bool:=isLet c||mZ c
def span(p:Int->Bool)(l:List UInt8):Nat:=(l.takeWhile λc=>p c.toNat).length
theorem asO(p:Int->Bool)(l:List UInt8)(k:Nat)(h:l.length<=k):span p (l.drop k)=0:=by
 rw[fH h];rfl
theorem asQ(p:Int->Bool)(l:List UInt8)(k:Nat)(h:k<l.length)(hp:p (l[k]'h).toNat=true):span p (l.drop k)=1+span p (l.drop (k+1)):=by
 unfold span;rw[dA h,List.takeWhile_cons_of_pos (by exact hp),aF];omega
theorem asP(p:Int->Bool)(l:List UInt8)(k:Nat)(h:k<l.length)(hp:p (l[k]'h).toNat=false):span p (l.drop k)=0:=by
 unfold span;rw[dA h,List.takeWhile_cons_of_neg (by rw[hp];simp)]
 rfl
def numberOf(n:Nat):Int×Int:=if 18<n then (0,0)else (3,n)
def BJ(t:ji):Int×Int:=numberOf (1+span mZ (t.data.toList.drop 1))
def isWord(u:List UInt8):Bool:=u==[105,102]||u==[101,108,115,101]||u==[101,97,99,104]||u==[105,110]||u==[112,117,115,104]||u==[118,97,114]||u==[114,101,116,117,114,110]||u==[116,114,117,101]||u==[102,97,108,115,101]||u==[105,115,110,111,110,101]
def DL(t:ji)(n:Nat):Int×Int:=if 12<n then (0,0)else if isWord (t.extract 0 n).toList then (5,n)else (2,n)
def BK(t:ji):Int×Int:=DL t (1+span BZ (t.data.toList.drop 1))
theorem WQ(p:Int->Bool)(l:List UInt8):span p l<=l.length:=List.Sublist.length_le (List.takeWhile_sublist _)
end Hx
section
open Go.RowKit
theorem FT(c:Int)(w:jk):Calls prog 214 #[.int .u8 c] w λe w'=>e=.returned (.bool (Hx.isLet c))/\w'=w:=by
 by_cases h:97<=c
 .have d1:decide (97<=c)=true:=by simpa using h
  go_enter func214,ntmps214;go_wp2;go_ret;exact⟨Ba (by simp only[Hx.isLet,d1];simp),rfl⟩
 .have d1:decide (97<=c)=false:=by simpa using h
  go_enter func214,ntmps214;go_wp2;go_ret;exact⟨Ba (by simp only[Hx.isLet,d1];simp),rfl⟩
theorem Eu(c:Int)(w:jk):Calls prog 216 #[.int .u8 c] w λe w'=>e=.returned (.bool (Hx.mZ c))/\w'=w:=by
 by_cases h:48<=c
 .have d1:decide (48<=c)=true:=by simpa using h
  go_enter func216,ntmps216;go_wp2;go_ret;exact⟨Ba (by simp only[Hx.mZ,d1];simp),rfl⟩
 .have d1:decide (48<=c)=false:=by simpa using h
  go_enter func216,ntmps216;go_wp2;go_ret;exact⟨Ba (by simp only[Hx.mZ,d1];simp),rfl⟩
structure BF(p:Int->Bool)(t:ji)(n k:Nat):Prop where
 eq:k+Hx.span p (t.data.toList.drop k)=n
theorem BF.yes{p:Int->Bool}{t:ji}{n k:Nat}(h:BF p t n k)(hk:k<t.size)(hp:p (t[k]'hk).toNat=true):BF p t n (k+1):=by
 have:=Hx.asQ p t.data.toList k (by simpa using hk) hp;exact⟨by have:=h.eq;omega⟩
theorem BF.no{p:Int->Bool}{t:ji}{n k:Nat}(h:BF p t n k)(hk:k<t.size)(hp:p (t[k]'hk).toNat=false):n=k:=by
 have:=Hx.asP p t.data.toList k (by simpa using hk) hp;have:=h.eq;omega
theorem BF.off{p:Int->Bool}{t:ji}{n k:Nat}(h:BF p t n k)(hk:t.size<=k):n=k:=by
 have:=Hx.asO p t.data.toList k (by simpa using hk);have:=h.eq;omega
theorem NM(p:Int->Bool)(t:ji)(k:Nat)(hk:k<=t.size):∃n,k+Hx.span p (t.data.toList.drop k)=n/\n<=t.size/\BF p t n k:=by
 refine⟨_,rfl,?_,⟨rfl⟩⟩;have:=Hx.WQ p (t.data.toList.drop k);rw[fA]at this;have h2:t.data.toList.length=t.size:=by simp
 omega
theorem ai3(t:ji)(w:jk)(ht:t.size<=4000)(h1:1<=t.size):
 Calls prog 217 #[.string t] w λe w'=>e=.returned (.tuple #[Im (Hx.BJ t).1,Im (Hx.BJ t).2])/\w'=w:=by
 unfold Hx.BJ;obtain⟨n,hn,hnb,HN⟩:=NM Hx.mZ t 1 h1;rw[hn];clear hn;generalize hr:Hx.numberOf n=r;have HR:Hid (Hx.numberOf n=r):=hr;clear hr;go_enter func217,ntmps217;go_wp2;go_loop [4] (λi=>∃k:Nat,1<=k/\k<=t.size/\i=Im k/\BF Hx.mZ t n k) (λi=>t.size-(intOf i).toNat)
 case atStart=>exact⟨1,by omega,by omega,rfl,HN⟩
 case round=>
  obtain⟨k,hk1,hk,rfl,HK⟩:=hrel;clear HN;by_cases hlt:k<t.size
  .have i0:(0:Int)<=(k:Int):=by omega
   have i1:(k:Int)<(t.size:Int):=by omega
   cases hd:Hx.mZ t[k].toNat with
   |true=>
    have HE:=HK.yes hlt hd;clear HK;go_wp2_with (go_at_call 216;refine(Eu _ _).mono ?_;rintro e w' ⟨rfl,rfl⟩;rw[hd]);refine⟨⟨k+1,by omega,by omega,by go_num,HE⟩,?_⟩;simp[intOf];omega
   |false=>
    have h5:=HK.no hlt hd;subst h5;clear HK;by_cases h18:18<n
    .have d2:decide ((18:Int)<(n:Int))=true:=by simp;omega
     have e:r=(0,0):=by rw[<-HR.out,Hx.numberOf,jh h18]
     subst e;go_wp2_with (go_at_call 216;refine(Eu _ _).mono ?_;rintro e w' ⟨rfl,rfl⟩;rw[hd]);go_ret2;exact⟨rfl,rfl⟩
    .have d2:decide ((18:Int)<(n:Int))=false:=by simp;omega
     have e:r=(3,(n:Int)):=by rw[<-HR.out,Hx.numberOf,jg h18]
     subst e;go_wp2_with (go_at_call 216;refine(Eu _ _).mono ?_;rintro e w' ⟨rfl,rfl⟩;rw[hd]);go_ret2;exact⟨rfl,rfl⟩
  .have h5:=HK.off (by omega);have i1:decide ((k:Int)<(t.size:Int))=false:=by simp;omega
   subst h5;clear HK;by_cases h18:18<n
   .have d2:decide ((18:Int)<(n:Int))=true:=by simp;omega
    have e:r=(0,0):=by rw[<-HR.out,Hx.numberOf,jh h18]
    subst e;go_wp2;go_ret2;exact⟨rfl,rfl⟩
   .have d2:decide ((18:Int)<(n:Int))=false:=by simp;omega
    have e:r=(3,(n:Int)):=by rw[<-HR.out,Hx.numberOf,jg h18]
    subst e;go_wp2;go_ret2;exact⟨rfl,rfl⟩
theorem ai7(t:ji)(w:jk)(ht:t.size<=4000)(h1:1<=t.size):
 Calls prog 215 #[.string t] w λe w'=>e=.returned (.tuple #[Im (Hx.BK t).1,Im (Hx.BK t).2])/\w'=w:=by
 unfold Hx.BK;obtain⟨n,hn,hnb,HN⟩:=NM Hx.BZ t 1 h1;rw[hn];clear hn;generalize hr:Hx.DL t n=r;have HR:Hid (Hx.DL t n=r):=hr;clear hr;go_enter func215,ntmps215;go_upto_block 0 with fail;go_cut [4] (λi wx=>w=wx/\i=Im n)
 case first=>
  go_wp2_with fail;go_loop [4] (λi=>∃k:Nat,1<=k/\k<=t.size/\i=Im k/\BF Hx.BZ t n k) (λi=>t.size-(intOf i).toNat)
  case atStart=>exact⟨1,by omega,by omega,rfl,HN⟩
  case round=>
   obtain⟨k,hk1,hk,rfl,HK⟩:=hrel;clear HN;by_cases hlt:k<t.size
   .have i0:(0:Int)<=(k:Int):=by omega
    have i1:(k:Int)<(t.size:Int):=by omega
    cases hl:Hx.isLet t[k].toNat with
    |true=>
     have HE:=HK.yes hlt (by simp[Hx.BZ,hl]);clear HK;go_wp2_with (go_at_call 214;refine(FT _ _).mono ?_;rintro e w' ⟨rfl,rfl⟩;rw[hl]);refine⟨⟨k+1,by omega,by omega,by go_num,HE⟩,?_⟩;simp[intOf];omega
    |false=>
     cases hd:Hx.mZ t[k].toNat with
     |true=>
      have HE:=HK.yes hlt (by simp[Hx.BZ,hl,hd]);clear HK;go_wp2_with (first|(go_at_call 214;refine(FT _ _).mono ?_;rintro e w' ⟨rfl,rfl⟩;rw[hl])|(go_at_call 216;refine(Eu _ _).mono ?_;rintro e w' ⟨rfl,rfl⟩;rw[hd]));refine⟨⟨k+1,by omega,by omega,by go_num,HE⟩,?_⟩;simp[intOf];omega
     |false=>
      have h5:=HK.no hlt (by simp[Hx.BZ,hl,hd]);subst h5;clear HK;go_wp2_with (first|(go_at_call 214;refine(FT _ _).mono ?_;rintro e w' ⟨rfl,rfl⟩;rw[hl])|(go_at_call 216;refine(Eu _ _).mono ?_;rintro e w' ⟨rfl,rfl⟩;rw[hd]));go_meet;exact⟨rfl,rfl⟩
   .have h5:=HK.off (by omega);have i1:decide ((k:Int)<(t.size:Int))=false:=by simp;omega
    subst h5;clear HK;go_wp2;go_meet;exact⟨rfl,rfl⟩
 case rest=>
  obtain⟨rfl,rfl⟩:=hcut;by_cases h12:12<n
  .have d2:decide ((12:Int)<(n:Int))=true:=by simp;omega
   have e:r=(0,0):=by rw[<-HR.out,Hx.DL,jh h12]
   subst e;go_wp2;go_ret2;exact⟨rfl,rfl⟩
  .have d2:decide ((12:Int)<(n:Int))=false:=by simp;omega
   have i1:(n:Int)<=(t.size:Int):=by omega
   have i2:(0:Int)<=(n:Int):=by omega
   have HW:Hid (∀b,Hx.isWord (t.extract 0 n).toList=b->r=if b then (5,(n:Int))else (2,(n:Int))):=λb hb=>by
    rw[<-HR.out,Hx.DL,jg h12,hb]
   clear HR HN;go_wp2;all_goals first
    |(rename_i a b;exact jl (a.symm.trans b) (by decide))
    |(have e:=HW.out true (by simp only[Hx.isWord, *,iE,iD])
      rw[jh rfl]at e;subst e;go_ret2;exact⟨rfl,rfl⟩)
    |(have e:=HW.out false (by simp only[Hx.isWord, *,iQ])
      rw[jg (by decide)]at e;subst e;go_ret2;exact⟨rfl,rfl⟩)
def Hx.isSet(u:List UInt8):Bool:=u==[82,79,65,68,83]||u==[70,82,69,83,72]||u==[65,71,65,73,78]
def Hx.AB(x y:Int):Bool:=x==82&&decide (48<=y)&&decide (y<=55)
def Hx.zH(t:ji):Int×Int:=
 if decide (1<t.size)&&Hx.AB (t.data.toList.getD 0 0).toNat (t.data.toList.getD 1 0).toNat then (4,2)
 else if t.size<5 then (0,0)else if Hx.isSet (t.extract 0 5).toList then (5,5)else (0,0)
theorem LW(t:ji)(k:Nat)(h:k<t.size):t.data.toList.getD k 0=t[k]:=by
 have:k<t.data.toList.length:=by simpa using h
 rw[aU,bU this]
 rfl
theorem ai1(t:ji)(w:jk)(ht:t.size<=4000)(h1:1<=t.size):
 Calls prog 218 #[.string t] w λe w'=>e=.returned (.tuple #[Im (Hx.zH t).1,Im (Hx.zH t).2])/\w'=w:=by
 generalize hr:Hx.zH t=r;have i0:(0:Int)<(t.size:Int):=by omega
 by_cases h2:1<t.size
 .have i1:(1:Int)<(t.size:Int):=by omega
  have e0:=LW t 0 (by omega);have e1:=LW t 1 h2;unfold Hx.zH at hr;rw[e0,e1,dR h2,Bool.true_and]at hr;have HR:Hid ((if Hx.AB t[0].toNat t[1].toNat=true then ((4:Int),(2:Int))else if t.size<5 then (0,0)else if Hx.isSet (t.extract 0 5).toList=true then (5,5)else (0,0))=r):=hr;clear hr e0 e1;cases hg:Hx.AB t[0].toNat t[1].toNat with
  |true=>
   have e:r=(4,2):=by rw[<-HR.out,jh hg]
   subst e;simp only[Hx.AB,dD]at hg;obtain⟨⟨g1,g2⟩,g3⟩:=hg;clear HR;go_enter func218,ntmps218;go_wp2;go_ret2;exact⟨rfl,rfl⟩
  |false=>
   have HG:Hid (Hx.AB t[0].toNat t[1].toNat=false):=hg;have HQ:Hid ((if t.size<5 then ((0:Int),(0:Int))else if Hx.isSet (t.extract 0 5).toList=true then (5,5)else (0,0))=r):=by
    have h9:=HR.out;rw[jg (show¬Hx.AB t[0].toNat t[1].toNat=true by rw[hg];decide)]at h9;exact h9
   clear HR hg;by_cases h5:t.size<5
   .have d5:decide ((t.size:Int)<5)=true:=by simp;omega
    have e:r=(0,0):=by rw[<-HQ.out,jh h5]
    subst e;go_enter func218,ntmps218;go_wp2;all_goals first
     |(go_ret2;exact⟨rfl,rfl⟩)
     |(exfalso;have:=HG.out;simp only[Hx.AB, *]at this;exact jl this (by decide))
   .have d5:decide ((t.size:Int)<5)=false:=by simp;omega
    have i5:(5:Int)<=(t.size:Int):=by omega
    have HW:Hid (∀b,Hx.isSet (t.extract 0 5).toList=b->r=if b then (5,5)else (0,0)):=λb hb=>by
     rw[<-HQ.out,jg h5,hb]
    clear HQ;go_enter func218,ntmps218;go_wp2;all_goals first
     |(rename_i a b;exact jl (a.symm.trans b) (by decide))
     |(rename_i a b _;exact jl (a.symm.trans b) (by decide))
     |(exfalso;have:=HG.out;simp only[Hx.AB, *]at this;exact jl this (by decide))
     |(have e:=HW.out true (by simp only[Hx.isSet, *,iE,iD])
       rw[jh rfl]at e;subst e;go_ret2;exact⟨rfl,rfl⟩)
     |(have e:=HW.out false (by simp only[Hx.isSet, *,iQ])
       rw[jg (by decide)]at e;subst e;go_ret2;exact⟨rfl,rfl⟩)
 .have hs:t.size=1:=by omega
  have i1:decide ((1:Int)<(t.size:Int))=false:=by simp;omega
  have d5:decide ((t.size:Int)<5)=true:=by simp;omega
  have e:r=(0,0):=by
   rw[<-hr];simp[Hx.zH,hs]
  subst e;clear hr;go_enter func218,ntmps218;go_wp2;go_ret2;exact⟨rfl,rfl⟩
end
namespace Hx
open Go.RowKit
def AO(u:List UInt8):Bool:=u==[60,61]||u==[62,61]||u==[61,61]||u==[33,61]||u==[38,38]||u==[124,124]
def Hg(c:UInt8):Bool:=decide (0<=Lib.indexByte [40,41,123,125,44,59,58,46,43,45,42,47,37,60,62,61,33] c)
def Aj(t:ji):Int×Int:=
 if decide (1<t.size)&&AO (t.extract 0 2).toList then (5,2)else if Hg (t.data.toList.getD 0 0)then (5,1)else (0,0)
def Lj(t:ji)(x:Int):Int×Int:=
 if isLet x then BK t else if mZ x then BJ t else if decide (65<=x)&&decide (x<=90)then zH t else Aj t
def tV(t:ji):Int×Int:=Lj t (t.data.toList.getD 0 0).toNat
structure Tk where
 kind:Int
 text:ji
 at':Int
def EG(s:ji)(k:Nat):Tk:=
 if k=s.size then ⟨1,⟨#[]⟩,k⟩else ⟨(tV (s.extract k s.size)).1,s.extract k (k+(tV (s.extract k s.size)).2.toNat),k⟩
def scan(s:ji)(from':Nat):Tk:=EG s (from'+span xX (s.data.toList.drop from'))
theorem ai8(t:ji)(h:1<=t.size):0<=(BK t).2/\(BK t).2<=t.size:=by
 obtain⟨n,hn,hnb,_⟩:=NM BZ t 1 h;unfold BK;rw[hn];unfold DL;repeat' split
 all_goals simp only
 all_goals omega
theorem ai4(t:ji)(h:1<=t.size):0<=(BJ t).2/\(BJ t).2<=t.size:=by
 obtain⟨n,hn,hnb,_⟩:=NM mZ t 1 h;unfold BJ;rw[hn];unfold numberOf;repeat' split
 all_goals simp only
 all_goals omega
theorem ai2(t:ji):0<=(zH t).2/\(zH t).2<=t.size:=by
 unfold zH;split
 .rename_i h;simp only[dD,decide_eq_true_eq]at h;simp only;omega
 .repeat' split
  all_goals simp only
  all_goals omega
theorem ai5(t:ji)(h:1<=t.size):0<=(Aj t).2/\(Aj t).2<=t.size:=by
 unfold Aj;split
 .rename_i h;simp only[dD,decide_eq_true_eq]at h;simp only;omega
 .split
  all_goals simp only
  all_goals omega
theorem SI(t:ji)(h:1<=t.size):0<=(tV t).2/\(tV t).2<=t.size:=by
 unfold tV Lj;repeat' split
 .exact ai8 t h
 .exact ai4 t h
 .exact ai2 t
 .exact ai5 t h
end Hx
section
open Go.RowKit
theorem ZU(t:ji)(w:jk)(ht:t.size<=4000)(h1:1<=t.size):
 Calls prog 219 #[.string t] w λe w'=>e=.returned (.tuple #[Im (Hx.Aj t).1,Im (Hx.Aj t).2])/\w'=w:=by
 generalize hr:Hx.Aj t=r;have i0:(0:Int)<(t.size:Int):=by omega
 have e0:=LW t 0 (by omega);unfold Hx.Aj at hr;rw[e0]at hr;by_cases h2:1<t.size
 .have i1:(2:Int)<=(t.size:Int):=by omega
  have i2:decide ((1:Int)<(t.size:Int))=true:=by simp;omega
  rw[dR h2,Bool.true_and]at hr;cases y0:((t.extract 0 2).toList==[60,61])with
  |true=>
   have e:r=(5,2):=by rw[<-hr,jh (by simp only[Hx.AO,y0,iD])]
   subst e;clear hr;go_enter func219,ntmps219;go_wp2;go_ret2;exact⟨rfl,rfl⟩
  |false=>
   cases y1:((t.extract 0 2).toList==[62,61])with
   |true=>
    have e:r=(5,2):=by rw[<-hr,jh (by simp only[Hx.AO,y1,iE,iD])]
    subst e;clear hr;go_enter func219,ntmps219;go_wp2;go_ret2;exact⟨rfl,rfl⟩
   |false=>
    cases y2:((t.extract 0 2).toList==[61,61])with
    |true=>
     have e:r=(5,2):=by rw[<-hr,jh (by simp only[Hx.AO,y2,iE,iD])]
     subst e;clear hr;go_enter func219,ntmps219;go_wp2;go_ret2;exact⟨rfl,rfl⟩
    |false=>
     cases y3:((t.extract 0 2).toList==[33,61])with
     |true=>
      have e:r=(5,2):=by rw[<-hr,jh (by simp only[Hx.AO,y3,iE,iD])]
      subst e;clear hr;go_enter func219,ntmps219;go_wp2;go_ret2;exact⟨rfl,rfl⟩
     |false=>
      cases y4:((t.extract 0 2).toList==[38,38])with
      |true=>
       have e:r=(5,2):=by rw[<-hr,jh (by simp only[Hx.AO,y4,iE,iD])]
       subst e;clear hr;go_enter func219,ntmps219;go_wp2;go_ret2;exact⟨rfl,rfl⟩
      |false=>
       cases y5:((t.extract 0 2).toList==[124,124])with
       |true=>
        have e:r=(5,2):=by rw[<-hr,jh (by simp only[Hx.AO,y5,iE])]
        subst e;clear hr;go_enter func219,ntmps219;go_wp2;go_ret2;exact⟨rfl,rfl⟩
       |false=>
        have hy:Hx.AO (t.extract 0 2).toList=false:=by simp only[Hx.AO,y0,y1,y2,y3,y4,y5,iQ]
        rw[jg (by rw[hy];decide)]at hr;clear hy;by_cases ho:(0:Int)<=Lib.indexByte [40,41,123,125,44,59,58,46,43,45,42,47,37,60,62,61,33] t[0]
        .have e:r=(5,1):=by rw[<-hr,jh (by simp only[Hx.Hg];exact dR ho)]
         subst e;clear hr;go_enter func219,ntmps219;go_wp2_with (go_at_call 231;refine(Tryz.strings_IndexByte _ _ _).mono ?_;rintro e w' ⟨rfl,rfl⟩);go_ret2;exact⟨rfl,rfl⟩
        .have e:r=(0,0):=by rw[<-hr,jg (by simp only[Hx.Hg];rw[dO ho];decide)]
         subst e;clear hr;have ho':Lib.indexByte [40,41,123,125,44,59,58,46,43,45,42,47,37,60,62,61,33] t[0]<0:=by omega
         go_enter func219,ntmps219;go_wp2_with (go_at_call 231;refine(Tryz.strings_IndexByte _ _ _).mono ?_;rintro e w' ⟨rfl,rfl⟩);go_ret2;exact⟨rfl,rfl⟩
 .have i2:decide ((1:Int)<(t.size:Int))=false:=by simp;omega
  rw[dO h2,gK,jg (by decide)]at hr;by_cases ho:(0:Int)<=Lib.indexByte [40,41,123,125,44,59,58,46,43,45,42,47,37,60,62,61,33] t[0]
  .have e:r=(5,1):=by rw[<-hr,jh (by simp only[Hx.Hg];exact dR ho)]
   subst e;clear hr;go_enter func219,ntmps219;go_wp2_with (go_at_call 231;refine(Tryz.strings_IndexByte _ _ _).mono ?_;rintro e w' ⟨rfl,rfl⟩);go_ret2;exact⟨rfl,rfl⟩
  .have e:r=(0,0):=by rw[<-hr,jg (by simp only[Hx.Hg];rw[dO ho];decide)]
   subst e;clear hr;have ho':Lib.indexByte [40,41,123,125,44,59,58,46,43,45,42,47,37,60,62,61,33] t[0]<0:=by omega
   go_enter func219,ntmps219;go_wp2_with (go_at_call 231;refine(Tryz.strings_IndexByte _ _ _).mono ?_;rintro e w' ⟨rfl,rfl⟩);go_ret2;exact⟨rfl,rfl⟩
theorem ai6(t:ji)(w:jk)(ht:t.size<=4000)(h1:1<=t.size):
 Calls prog 190 #[.string t] w λe w'=>e=.returned (.tuple #[Im (Hx.tV t).1,Im (Hx.tV t).2])/\w'=w:=by
 have i0:(0:Int)<(t.size:Int):=by omega
 have e0:=LW t 0 (by omega);unfold Hx.tV Hx.Lj;rw[e0];clear e0;cases hl:Hx.isLet t[0].toNat with
 |true=>
  simp only[dM];go_enter func190,ntmps190;go_wp2_with (first|(go_at_call 214;refine(FT _ _).mono ?_;rintro e w' ⟨rfl,rfl⟩;rw[hl])|(go_at_call 215;refine(ai7 t _ ht h1).mono ?_;rintro e w' ⟨rfl,rfl⟩));go_ret2;exact⟨rfl,rfl⟩
 |false=>
  simp only[aH,cZ];cases hd:Hx.mZ t[0].toNat with
  |true=>
   simp only[dM];go_enter func190,ntmps190;go_wp2_with (first|(go_at_call 214;refine(FT _ _).mono ?_;rintro e w' ⟨rfl,rfl⟩;rw[hl])|(go_at_call 216;refine(Eu _ _).mono ?_;rintro e w' ⟨rfl,rfl⟩;rw[hd])|(go_at_call 217;refine(ai3 t _ ht h1).mono ?_;rintro e w' ⟨rfl,rfl⟩));go_ret2;exact⟨rfl,rfl⟩
  |false=>
   simp only[aH,cZ];by_cases h65:(65:Int)<=t[0].toNat
   .have d1:=dR h65;by_cases h90:(t[0].toNat:Int)<=90
    .have d2:=dR h90;simp only[d1,d2,Bool.and_self,dM];go_enter func190,ntmps190;go_wp2_with (first|(go_at_call 214;refine(FT _ _).mono ?_;rintro e w' ⟨rfl,rfl⟩;rw[hl])|(go_at_call 216;refine(Eu _ _).mono ?_;rintro e w' ⟨rfl,rfl⟩;rw[hd])|(go_at_call 218;refine(ai1 t _ ht h1).mono ?_;rintro e w' ⟨rfl,rfl⟩));go_ret2;exact⟨rfl,rfl⟩
    .have d2:=dO h90;simp only[d1,d2,iL,aH,cZ];go_enter func190,ntmps190;go_wp2_with (first|(go_at_call 214;refine(FT _ _).mono ?_;rintro e w' ⟨rfl,rfl⟩;rw[hl])|(go_at_call 216;refine(Eu _ _).mono ?_;rintro e w' ⟨rfl,rfl⟩;rw[hd])|(go_at_call 219;refine(ZU t _ ht h1).mono ?_;rintro e w' ⟨rfl,rfl⟩));go_ret2;exact⟨rfl,rfl⟩
   .have d1:=dO h65;simp only[d1,gK,aH,cZ];go_enter func190,ntmps190;go_wp2_with (first|(go_at_call 214;refine(FT _ _).mono ?_;rintro e w' ⟨rfl,rfl⟩;rw[hl])|(go_at_call 216;refine(Eu _ _).mono ?_;rintro e w' ⟨rfl,rfl⟩;rw[hd])|(go_at_call 219;refine(ZU t _ ht h1).mono ?_;rintro e w' ⟨rfl,rfl⟩));go_ret2;exact⟨rfl,rfl⟩
def xJ(k:Hx.Tk):jm:=.agg #[Im k.kind,.string k.text,Im k.at']
theorem afB(s:ji)(from':Nat)(w:jk)(hs:s.size<=4000)(hf:from'<=s.size):
 Calls prog 140 #[.string s,Im from'] w λe w'=>e=.returned (xJ (Hx.scan s from'))/\w.grownBy w' none:=by
 unfold Hx.scan;obtain⟨n,hn,hnb,HN⟩:=NM Hx.xX s from' hf;rw[hn];clear hn;generalize hr:Hx.EG s n=r;have HR:Hid (Hx.EG s n=r):=hr;clear hr;have HG:Hid (∀o k,w.grownBy ((w.alloc o).drewN k) none):=λo k=>(ah w o none).trans ⟨rfl,rfl,rfl,aj _,λ_ _ _=>rfl⟩;go_enter func140,ntmps140;go_upto_block 0 with fail;go_cut [5] (λi wx=>w.alloc (.cells #[Im 0,.string ⟨#[]⟩,Im 0] 249)=wx/\i=Im n)
 case first=>
  go_wp2_with fail;go_loop [5] (λi=>∃k:Nat,k<=s.size/\i=Im k/\BF Hx.xX s n k) (λi=>s.size-(intOf i).toNat)
  case atStart=>exact⟨from',by omega,rfl,HN⟩
  case round=>
   obtain⟨k,hk,rfl,HK⟩:=hrel;clear HN;by_cases hlt:k<s.size
   .have i0:(0:Int)<=(k:Int):=by omega
    have i1:(k:Int)<(s.size:Int):=by omega
    cases hl:((s[k].toNat:Int)==32)with
    |true=>
     have HE:=HK.yes hlt (by simp[Hx.xX,hl]);clear HK;go_wp2;refine⟨⟨k+1,by omega,by go_num,HE⟩,?_⟩;simp[intOf];omega
    |false=>
     cases hd:((s[k].toNat:Int)==10)with
     |true=>
      have HE:=HK.yes hlt (by simp[Hx.xX,hl,hd]);clear HK;go_wp2;refine⟨⟨k+1,by omega,by go_num,HE⟩,?_⟩;simp[intOf];omega
     |false=>
      have h5:=HK.no hlt (by simp only[Hx.xX,hl,hd,iQ]);subst h5;clear HK;go_wp2;go_meet;exact⟨rfl,rfl⟩
   .have h5:=HK.off (by omega);have i1:decide ((k:Int)<(s.size:Int))=false:=by simp;omega
    subst h5;clear HK;go_wp2;go_meet;exact⟨rfl,rfl⟩
 case rest=>
  obtain⟨rfl,rfl⟩:=hcut;clear HN;by_cases he:n=s.size
  .subst he;have e:r=⟨1,⟨#[]⟩,s.size⟩:=by rw[<-HR.out,Hx.EG,jh rfl]
   subst e;clear HR;go_wp2;refine cu (v:=.agg #[Im 1,.string ⟨#[]⟩,Im s.size]) (by simp[results,Tryz.results140,go_sem]) rfl ?_;exact⟨rfl,HG.out _ 0⟩
  .have d1:((n:Int)==(s.size:Int))=false:=by simp;omega
   have hsz:(s.extract n s.size).size=s.size-n:=by simp
   obtain⟨b1,b2⟩:=Hx.SI (s.extract n s.size) (by omega);have hC:=ai6 (s.extract n s.size);have HC:Hid (∀w,Calls prog 190 #[.string (s.extract n s.size)] w λe w'=>e=.returned (.tuple #[Im (Hx.tV (s.extract n s.size)).1,Im (Hx.tV (s.extract n s.size)).2])/\w'=w):=λw=>hC w (by omega) (by omega);have HE:Hid (r=⟨(Hx.tV (s.extract n s.size)).1,s.extract n (n+(Hx.tV (s.extract n s.size)).2.toNat),n⟩):=by
    show _=_;rw[<-HR.out,Hx.EG,jg he]
   clear hC HR;generalize (Hx.tV (s.extract n s.size)).1=q at *;generalize (Hx.tV (s.extract n s.size)).2=z at *;obtain⟨z,rfl⟩:=bI b1;have i0:(0:Int)<=(n:Int):=by omega
   have i1:(n:Int)<=(s.size:Int):=by omega
   have i2:(n:Int)+(z:Int)<=(s.size:Int):=by omega
   obtain⟨y,hy⟩:∃y:Nat,n+z=y:=⟨_,rfl⟩;have hyI:(n:Int)+(z:Int)=(y:Int):=by omega
   have i3:(n:Int)<=(y:Int):=by omega
   have i4:(y:Int)<=(s.size:Int):=by omega
   rw[bK,hy]at HE;clear b1 b2 hsz hy;go_wp2_with (go_at_call 190;refine(HC.out _).mono ?_;rintro e w' ⟨rfl,rfl⟩);refine cu (v:=.agg #[Im q,.string (s.extract n y),Im n]) (by simp[results,Tryz.results140,go_sem]) rfl ?_;exact⟨by rw[HE.out];rfl,HG.out _ 0⟩
end
section
abbrev aN:=@Go.World.grownBy.refl
end
section
open Go.RowKit
open Hx (Tk)
attribute [local go_sem ↓] Go.wp_at_zero Go.wp_at_succ
attribute [local go_sem] kP
section
structure Ext(w:jk) where
 val:jk
 grown:w.grownBy val none
theorem OL(w:jk):Nonempty (Ext w):=⟨⟨w,aN w none⟩⟩
theorem Rx{P:Program}{id:Nat}{Q:Exit->Act->jk->Prop}{a:Act}{w:jk}{l:List Oper}(n:Nat)(hm:P.follows .mixedOrders=true)(hB:Region.lexTailB .any l.toArray n=true)
 (h:wpQuiet P l.toArray (λw'=>∃x:Ext w,w'=x.val) (λa'=>∀w',w.grownBy w' none->wpList P l.toArray Q (l.drop n) a' w') (l.take n) a):(Code.region id l.toArray true).wp P Q a w:=by
 refine YS (C:=λw'=>∃x:Ext w,w'=x.val) n hm hB ⟨⟨w.drew,⟨rfl,rfl,rfl,aj _,λ_ _ _=>rfl⟩⟩,rfl⟩ ?_;have mono:∀(l':List Oper)(a:Act),wpQuiet P l.toArray (λw'=>∃x:Ext w,w'=x.val) (λa'=>∀w',w.grownBy w' none->wpList P l.toArray Q (l.drop n) a' w') l' a->
  wpQuiet P l.toArray (λw'=>∃x:Ext w,w'=x.val) (λa'=>∀w',(∃x:Ext w,w'=x.val)->wpList P l.toArray Q (l.drop n) a' w') l' a:=by
  intro l';induction l' with
  |nil=>
   intro a h;rintro w' ⟨x,rfl⟩;exact h _ x.grown
  |cons o rest ih=>
   intro a h;unfold wpQuiet at h⊢;split
   .rename_i hw;rw[jh hw]at h;obtain⟨v,h1,h2⟩:=h;exact⟨v,h1,ih _ h2⟩
   .rename_i hw;rw[jg hw]at h;exact ih _ h
 exact mono _ _ h
theorem Calls.TD{P:Program}{f:FuncId}{args:Array jm}{w:jk}{x:Ext w}{v:jm}(h:Calls P f args x.val λe w'=>e=.returned v/\x.val.grownBy w' none):
 Calls P f args x.val λe w''=>e=.returned v/\∃y:Ext w,w''=y.val:=
 h.mono λ_ w'' ⟨he,hg⟩=>⟨he,⟨w'',x.grown.trans hg⟩,rfl⟩
structure kG(w:jk)(P:Nat)(s:ji)(k:Tk)(dp en ea:Int):Prop where
 c0:w.cell? (Ad P 0)=some (.string s)
 c1:w.cell? (Ad P 1)=some (Im k.kind)
 c2:w.cell? (Ad P 2)=some (.string k.text)
 c3:w.cell? (Ad P 3)=some (Im k.at')
 c4:w.cell? (Ad P 4)=some (Im dp)
 c5:w.cell? (Ad P 5)=some (Im en)
 c6:w.cell? (Ad P 6)=some (Im ea)
 fr:∀j,w.frozen? (Ad P j)=false
variable {w:jk}{P:Nat}{s:ji}{k:Tk}{dp en ea:Int}
theorem kG.lt(h:kG w P s k dp en ea):P<w.heap.size:=World.block_lt_of_cell? w _ h.c0
theorem kG.grow(h:kG w P s k dp en ea){w':jk}(hg:w.grownBy w' none):kG w' P s k dp en ea:=by
 have hb:=hg.block P h.lt (by simp);have hc:∀j,w'.cell? (Ad P j)=w.cell? (Ad P j):=λj=>bQ hb;exact⟨by rw[hc];exact h.c0,by rw[hc];exact h.c1,by rw[hc];exact h.c2,by rw[hc];exact h.c3,by rw[hc];exact h.c4,by rw[hc];exact h.c5,by rw[hc];exact h.c6,
  λj=>(dZ hb).trans (h.fr j)⟩
theorem kG.set(h:kG w P s k dp en ea)(j:Nat)(v:jm)(k':Tk)(dp' en' Ed:Int)(h0:¬j=0)
 (h1:(if j=1 then v else Im k.kind)=Im k'.kind)(h2:(if j=2 then v else .string k.text)=.string k'.text)(h3:(if j=3 then v else Im k.at')=Im k'.at')
 (h4:(if j=4 then v else Im dp)=Im dp')(h5:(if j=5 then v else Im en)=Im en')(h6:(if j=6 then v else Im ea)=Im Ed):
 kG (w.setCell (Ad P j) v) P s k' dp' en' Ed:=by
 have key:∀i u,w.cell? (Ad P i)=some u->(w.setCell (Ad P j) v).cell? (Ad P i)=some (if j=i then v else u):=λi u hu=>by
  by_cases e:j=i
  .subst e;rw[jh rfl];exact dB _ _ _ hu
  .rw[jg e,bG _ _ _ _ (by intro h;cases h;exact e rfl)];exact hu
 exact⟨by rw[key 0 _ h.c0,jg h0],by rw[key 1 _ h.c1,h1],by rw[key 2 _ h.c2,h2],by rw[key 3 _ h.c3,h3],by rw[key 4 _ h.c4,h4],by rw[key 5 _ h.c5,h5],by rw[key 6 _ h.c6,h6],λi=>by rw[dX];exact h.fr i⟩
theorem kG.pF(h:kG w P s k dp en ea){w':jk}{g:Nat}(hg:w.grownBy w' (some g))(hne:P≠g):kG w' P s k dp en ea:=by
 have hb:=hg.block P h.lt (by simpa using hne);have hc:∀j,w'.cell? (Ad P j)=w.cell? (Ad P j):=λj=>bQ hb;exact⟨by rw[hc];exact h.c0,by rw[hc];exact h.c1,by rw[hc];exact h.c2,by rw[hc];exact h.c3,by rw[hc];exact h.c4,by rw[hc];exact h.c5,by rw[hc];exact h.c6,
  λj=>(dZ hb).trans (h.fr j)⟩
theorem pK{w x:jk}{r:Option Nat}(h:w.grownBy x r){g:Nat}(hg:w.heap.size<=g)(j:Nat)(v:jm):w.grownBy (x.setCell (Ad g j) v) r:=
 h.andThen (nK x g j v) (λj e=>by cases e;exact jf hg)
theorem Dk{w x:jk}{P:Nat}(h:w.grownBy x (some P))(j:Nat)(v:jm):w.grownBy (x.setCell (Ad P j) v) (some P):=h.trans (nK x P j v)
theorem Il(w:jk)(g:Nat)(T:jo)(a0 a1 a2 v0 v1 v2:jm)(h:w.heap[g]? =some (.cells #[a0,a1,a2] T)):
 (((w.setCell (Ad g 0) v0).setCell (Ad g 1) v1).setCell (Ad g 2) v2).heap[g]? =some (.cells #[v0,v1,v2] T):=by
 have h0:(w.setCell (Ad g 0) v0).heap[g]? =some (.cells #[v0,a1,a2] T):=aK _ _ _ _ _ _ h;have h1:((w.setCell (Ad g 0) v0).setCell (Ad g 1) v1).heap[g]? =some (.cells #[v0,v1,a2] T):=aK _ _ _ _ _ _ h0;exact aK _ _ _ _ _ _ h1
theorem aop(tmps:Array jm)(w:jk)(g:Nat)(k:Tk)(h2:tmps[2]? =some (Pt g 0))(h:w.heap[g]? =some (.cells #[Im k.kind,.string k.text,Im k.at'] 249)):
 (results Tryz.f236 tmps).run prog w=.ok (xJ k) w:=by
 have q0:=jK 0 h rfl;have q1:=jK 1 h rfl;have q2:=jK 2 h rfl;simp[results,Tryz.results236,go_sem,h2,q0,q1,q2,xJ]
theorem ams(h:kG w P s k dp en ea)(t:ji):Calls prog 242 #[Pt P 0,.string t] w λe w'=>e=.returned (.bool (k.text.toList==t.toList))/\w'=w:=by
 have c2:=h.c2;clear h;go_enter func242,ntmps242;go_wp2;go_ret;exact⟨rfl,rfl⟩
theorem aoo(h:kG w P s k dp en ea)(i:Nat)(hi:k.at'=i)(hb:i+k.text.size<=s.size)(hs:s.size<=4000):
 Calls prog 236 #[Pt P 0] w λe w'=>e=.returned (xJ k)/\kG w' P s (Hx.scan s (i+k.text.size)) dp en ea/\w.grownBy w' (some P):=by
 have c0:=h.c0;have c1:=h.c1;have c2:=h.c2;have c3:=h.c3;have hL:=h.lt;rw[hi]at c3;have n1:¬P=w.heap.size:=by omega
 have n2:¬P=w.heap.size+1:=by omega
 have HS:=jA (λw=>afB s _ w hs hb);obtain⟨y,hy⟩:∃y,i+k.text.size=y:=⟨_,rfl⟩;have hyI:(i:Int)+(k.text.size:Int)=(y:Int):=by omega
 rw[hy]at HS⊢;have hgW:w.grownBy ((w.alloc (.cells #[Im 0,.string ⟨#[]⟩,Im 0] 249)).alloc (.cells #[Im k.kind,.string k.text,Im i] 249)) none:=(ah w _ none).trans (ah _ _ none);have hbox:((w.alloc (.cells #[Im 0,.string ⟨#[]⟩,Im 0] 249)).alloc (.cells #[Im k.kind,.string k.text,Im i] 249)).heap[w.heap.size+1]? =some (.cells #[Im k.kind,.string k.text,Im i] 249):=(Me w _ _).1;have hres:((w.alloc (.cells #[Im 0,.string ⟨#[]⟩,Im 0] 249)).alloc (.cells #[Im k.kind,.string k.text,Im i] 249)).heap[w.heap.size]? =some (.cells #[Im 0,.string ⟨#[]⟩,Im 0] 249):=(Me w _ _).2;have e0:∀x:Ext ((w.alloc (.cells #[Im 0,.string ⟨#[]⟩,Im 0] 249)).alloc (.cells #[Im k.kind,.string k.text,Im i] 249)),x.val.cell? (Ad P 0)=some (.string s):=λx=>(h.grow (hgW.trans x.grown)).c0;have e1:∀x:Ext ((w.alloc (.cells #[Im 0,.string ⟨#[]⟩,Im 0] 249)).alloc (.cells #[Im k.kind,.string k.text,Im i] 249)),x.val.cell? (Ad (w.heap.size+1) 1)=some (.string k.text):=λx=>jI ((x.grown.block _ (lY hbox) (by simp)).trans hbox);have e2:∀x:Ext ((w.alloc (.cells #[Im 0,.string ⟨#[]⟩,Im 0] 249)).alloc (.cells #[Im k.kind,.string k.text,Im i] 249)),x.val.cell? (Ad (w.heap.size+1) 2)=some (Im i):=λx=>jI ((x.grown.block _ (lY hbox) (by simp)).trans hbox)
 have HW:Hid (∀w',((w.alloc (.cells #[Im 0,.string ⟨#[]⟩,Im 0] 249)).alloc (.cells #[Im k.kind,.string k.text,Im i] 249)).grownBy w' none->kG w' P s k dp en ea/\w.grownBy w' none/\w'.heap[w.heap.size+1]? =some (.cells #[Im k.kind,.string k.text,Im i] 249)/\w'.heap[w.heap.size]? =some (.cells #[Im 0,.string ⟨#[]⟩,Im 0] 249)):=λw' hg=>
  ⟨h.grow (hgW.trans hg),hgW.trans hg,(hg.block _ (lY hbox) (by simp)).trans hbox,(hg.block _ (lY hres) (by simp)).trans hres⟩
 clear hgW hbox hres h;go_enter func236,ntmps236;go_wp2_with fail;have hne:=OL ((w.alloc (.cells #[Im 0,.string ⟨#[]⟩,Im 0] 249)).alloc (.cells #[Im k.kind,.string k.text,Im i] 249));refine Rx 14 (by kernel_rfl) (by kernel_rfl) ?_;simp only[aC,aO,aG,aQ];repeat (go_big_quiet_step ((go_at_call 140;exact Calls.TD (HS.out _))))
 refine bF ?_;intro w' hg;obtain⟨hp,hg2,hbx,hrs⟩:=HW.out w' hg;have f0:=hp.c0;have f1:=hp.c1;have f2:=hp.c2;have f3:=hp.c3;have ff:=hp.fr;have q0:=jK 0 hbx rfl;have q1:=jK 1 hbx rfl;have q2:=jK 2 hbx rfl;have r0:=jK 0 hrs rfl;have r1:=jK 1 hrs rfl;have r2:=jK 2 hrs rfl;have rf:=qV hrs;have n3:¬w.heap.size+1=P:=by omega
 have n4:¬w.heap.size=P:=by omega
 have HX:Hid (∀k':Tk,kG ((((((w'.setCell (Ad P 1) (Im k'.kind)).setCell (Ad P 2) (.string k'.text)).setCell (Ad P 3) (Im k'.at')).setCell (Ad w.heap.size 0) (Im k.kind)).setCell (Ad w.heap.size 1) (.string k.text)).setCell (Ad w.heap.size 2) (Im i)) P s k' dp en ea/\
  w.grownBy ((((((w'.setCell (Ad P 1) (Im k'.kind)).setCell (Ad P 2) (.string k'.text)).setCell (Ad P 3) (Im k'.at')).setCell (Ad w.heap.size 0) (Im k.kind)).setCell (Ad w.heap.size 1) (.string k.text)).setCell (Ad w.heap.size 2) (Im i)) (some P)/\
  ((((((w'.setCell (Ad P 1) (Im k'.kind)).setCell (Ad P 2) (.string k'.text)).setCell (Ad P 3) (Im k'.at')).setCell (Ad w.heap.size 0) (Im k.kind)).setCell (Ad w.heap.size 1) (.string k.text)).setCell (Ad w.heap.size 2) (Im i)).heap[w.heap.size]? =some (.cells #[Im k.kind,.string k.text,Im k.at'] 249)):=λk'=>by
  have a1:=hp.set 1 (Im k'.kind) ⟨k'.kind,k.text,k.at'⟩ dp en ea (by omega) rfl rfl rfl rfl rfl rfl;have a2:=a1.set 2 (.string k'.text) ⟨k'.kind,k'.text,k.at'⟩ dp en ea (by omega) rfl rfl rfl rfl rfl rfl;have a3:=a2.set 3 (Im k'.at') k' dp en ea (by omega) rfl rfl rfl rfl rfl rfl;refine⟨((a3.pF (nK _ _ _ _) n1).pF (nK _ _ _ _) n1).pF (nK _ _ _ _) n1,?_,?_⟩
  .exact pK (pK (pK (Dk (Dk (Dk (hg2.but _) _ _) _ _) _ _) (aj _) _ _) (aj _) _ _) (aj _) _ _
  .rw[hi];refine Il _ _ _ (Im 0) (.string ⟨#[]⟩) (Im 0) _ _ _ ?_;rw[bC _ _ _ _ n4,bC _ _ _ _ n4,bC _ _ _ _ n4];exact hrs
 clear HW hg hbx hrs e0 e1 e2 c0 c1 c2 c3 HS;generalize hk':Hx.scan s y=k' at *;unfold xJ;go_wp2_with fail;obtain⟨x1,x2,x3⟩:=HX.out k';refine cu (aop _ _ w.heap.size k rfl x3) rfl ?_;exact⟨rfl,by rw[hk'];exact x1,x2⟩
end
section
variable {w:jk}{P:Nat}{s:ji}{k:Tk}{dp en ea:Int}
structure KZ(s:ji)(k:Tk):Prop where
 yR:0<=k.at'
 bd:k.at'.toNat+k.text.size<=s.size
def kF(s:ji)(k:Tk):Tk:=Hx.scan s (k.at'.toNat+k.text.size)
theorem Vq(h:kG w P s k dp en ea)(hk:KZ s k)(hs:s.size<=4000):
 Calls prog 236 #[Pt P 0] w λe w'=>e=.returned (xJ k)/\kG w' P s (kF s k) dp en ea/\w.grownBy w' (some P):=
 aoo h k.at'.toNat (by have:=hk.yR;omega) hk.bd hs
def lu(xs:List Int):Int:=xs.foldl (λa c=>min (a+c) 1000001) 0
theorem att(w:jk):Calls prog 143 #[Nl] w λe w'=>e=.returned (Im 0)/\w'=w:=by
 go_enter func143,ntmps143;go_wp2;go_loop [3,5,8] (λa _ i=>a=Im 0/\i=Im 0) (λ_ _ _=>0)
 case atStart=>exact⟨rfl,rfl⟩
 case round=>
  obtain⟨rfl,rfl⟩:=hrel;go_wp2;go_ret;exact⟨rfl,rfl⟩
theorem agH(xs:List Int)(k:Nat)(h:k<xs.length)(a:Int):(xs.drop k).foldl (λa c=>min (a+c) 1000001) a=(xs.drop (k+1)).foldl (λa c=>min (a+c) 1000001) (min (a+xs[k]) 1000001):=by
 rw[dA h,bP]
theorem atr(w:jk)(b cap:Nat)(xs:List Int)(hx:∀x∈xs,0<=x/\x<=1000001)(hn:xs.length<=1000000)(hc:∀(i:Nat)(x:Int),xs[i]? =some x->w.cell? (Ad b i)=some (Im x)):
 Calls prog 143 #[.slice (some (Ad b 0)) xs.length cap] w λe w'=>e=.returned (Im (lu xs))/\w'=w:=by
 have HR:Hid (lu xs=(xs.drop 0).foldl (λa c=>min (a+c) 1000001) 0):=rfl;generalize hr:lu xs=r at *;clear hr;go_enter func143,ntmps143;go_wp2;go_loop [3,5,8] (λa _ i=>∃(k:Nat)(z:Int),k<=xs.length/\0<=z/\z<=1000001/\a=Im z/\i=Im k/\Hid (r=(xs.drop k).foldl (λa c=>min (a+c) 1000001) z)) (λ_ _ i=>xs.length-(intOf i).toNat)
 case atStart=>exact⟨0,0,bD _,by omega,by omega,rfl,rfl,HR⟩
 case round=>
  obtain⟨k,z,hk,z0,z1,rfl,rfl,HK⟩:=hrel;clear HR;by_cases hlt:k<xs.length
  .have d1:decide ((k:Int)<(xs.length:Int))=true:=by simp;omega
   have i0:(0:Int)<=(k:Int):=by omega
   have i1:(k:Int)<(xs.length:Int):=by omega
   have hg:xs[k]? =some xs[k]:=bU hlt;have ck:=hc k _ hg;have hb:=hx _ (fG hlt);have HE:=HK.out;rw[agH xs k hlt]at HE;generalize xs[k]=x at *;have lT:Hid (∀y,y=min (z+x) 1000001->r=(xs.drop (k+1)).foldl (λa c=>min (a+c) 1000001) y):=λy hy=>by rw[hy];exact HE
   clear HK HE hg hc;generalize xs.length=n at *;go_wp2;all_goals (refine⟨⟨k+1,_,by omega,?_,?_,rfl,by go_num,lT.out _ (by omega)⟩,by simp[intOf];omega⟩)
   all_goals omega
  .have d1:decide ((k:Int)<(xs.length:Int))=false:=by simp;omega
   have e:r=z:=by rw[HK.out,fH (by omega)];rfl
   subst e;clear HK;go_wp2;go_ret;exact⟨rfl,rfl⟩
def CU(w:jk)(v:jm)(xs:List Int):Prop:=
 (∀x∈xs,0<=x/\x<=1000001)/\xs.length<=1000/\((v=Nl/\xs=[])\/∃b cap,v=.slice (some (Ad b 0)) xs.length cap/\∀(i:Nat)(x:Int),xs[i]? =some x->w.cell? (Ad b i)=some (Im x))
theorem CU.grow{v:jm}{xs:List Int}(h:CU w v xs){w':jk}(hg:w.grownBy w' none):CU w' v xs:=by
 obtain⟨h1,h2,h3|⟨b,cap,h3,h4⟩⟩:=h
 .exact⟨h1,h2,jf h3⟩
 .exact⟨h1,h2,je ⟨b,cap,h3,λi x hx=>hg.cell (h4 i x hx) (by simp)⟩⟩
theorem NS{v:jm}{xs:List Int}(h:CU w v xs):Calls prog 143 #[v] w λe w'=>e=.returned (Im (lu xs))/\w'=w:=by
 obtain⟨h1,h2,⟨rfl,rfl⟩|⟨b,cap,rfl,h4⟩⟩:=h
 .exact att w
 .exact atr w b cap xs h1 (by omega) h4
theorem yu(xs:List Int)(hx:∀x∈xs,0<=x/\x<=1000001):0<=lu xs/\lu xs<=1000001:=by
 have key:∀(xs:List Int)(a:Int),(∀x∈xs,0<=x/\x<=1000001)->0<=a->a<=1000001->0<=xs.foldl (λa c=>min (a+c) 1000001) a/\xs.foldl (λa c=>min (a+c) 1000001) a<=1000001:=by
  intro xs;induction xs with
  |nil=>intro a _ h0 h1;exact⟨h0,h1⟩
  |cons x xs ih=>
   intro a hx h0 h1;have:=hx x aW;exact ih _ (λy hy=>hx y (aI _ hy)) (by show 0<=min (a+x) 1000001;omega) (by show min (a+x) 1000001<=1000001;omega)
 exact key xs 0 hx (by omega) (by omega)
def jR(xs:List Int):Int:=lu [1,lu xs]
theorem apr(tmps:Array jm)(w:jk)(g:Nat)(a c:Int)(h2:tmps[4]? =some (Pt g 0))(h0:w.cell? (Ad g 0)=some (Im a))(h1:w.cell? (Ad g 1)=some (Im c)):
 (results Tryz.f234 tmps).run prog w=.ok (.agg #[Im a,Im c]) w:=by
 simp[results,Tryz.results234,go_sem,h2,h0,h1]
theorem JI(at':Int)(v:jm)(xs:List Int)(h:CU w v xs):
 Calls prog 234 #[Im at',v] w λe w'=>e=.returned (.agg #[Im at',Im (jR xs)])/\w'=(w.alloc (.cells #[Im at',Im (jR xs)] 323)).alloc (.cells #[Im 1,Im (lu xs)] 3):=by
 have HT:Hid (∀o,Calls prog 143 #[v] (w.alloc o) λe w'=>e=.returned (Im (lu xs))/\w'=w.alloc o):=λo=>NS (h.grow (ah w o none));have hb:=yu xs h.1;have HT2:Hid (∀o T t,t=lu xs->Calls prog 143 #[.slice (some (Ad (w.heap.size+1) 0)) 2 2] ((w.alloc o).alloc (.cells #[Im 1,Im t] T)) λe w'=>e=.returned (Im (jR xs))/\w'=(w.alloc o).alloc (.cells #[Im 1,Im t] T)):=by
  intro o T t ht;subst ht;refine NS (xs:=[1,lu xs]) ⟨λx hx=>?_,by simp,je ⟨_,_,rfl,λi x hx=>?_⟩⟩
  .simp only[dh,dU,or_false]at hx;rcases hx with rfl|rfl<;>omega
  .have hh:=(Me w o (.cells #[Im 1,Im (lu xs)] T)).1;rw[jI hh]
   match i,hx with
   |0,hx=>cases hx;rfl
   |1,hx=>cases hx;rfl
 generalize jR xs=pc at *;generalize lu xs=t at *;clear h;go_enter func234,ntmps234;go_wp2_with fail;refine(HT.out _).mono ?_;rintro e w1 ⟨rfl,rfl⟩;go_wp2_with fail;refine(HT2.out _ _ _ rfl).mono ?_;rintro e w1 ⟨rfl,rfl⟩;go_wp2_with fail;have hh:=(Me w (.cells #[Im at',Im pc] 323) (.cells #[Im 1,Im t] 3)).2;exact cu (apr _ _ w.heap.size at' pc rfl (jI hh) (jI hh)) rfl ⟨rfl,rfl⟩
theorem zS(at':Int)(v:jm)(xs:List Int)(h:CU w v xs):
 Calls prog 234 #[Im at',v] w λe w'=>e=.returned (.agg #[Im at',Im (jR xs)])/\w.grownBy w' none:=
 (JI at' v xs h).mono λ_ _ ⟨h1,h2⟩=>⟨h1,by rw[h2];exact(ah w _ none).trans (ah _ _ none)⟩
theorem uh(b o:Nat)(c:Int)(h:w.cell? (Ad b (o+1))=some (Im c)):Calls prog 244 #[Pt b o] w λe w'=>e=.returned (Im c)/\w'=w:=by
 go_enter func244,ntmps244;go_wp2;go_ret;exact⟨rfl,rfl⟩
theorem amu(h:kG w P s k dp en ea)(l:List UInt8)(b:Bool)(hb:(k.text.toList==l)=b):Calls prog 242 #[Pt P 0,.string ⟨l.toArray⟩] w λe w'=>e=.returned (.bool b)/\w'=w:=by
 have:=ams h ⟨l.toArray⟩;rw[show(⟨l.toArray⟩:ji).toList=l from ByteArray.toList_mk l,hb]at this;exact this
def setOf(u:List UInt8):Option Int:=if u==[82,79,65,68,83]then some 3 else if u==[70,82,69,83,72]||u==[65,71,65,73,78]then some 4 else none
theorem aa3(at':Int)(x:Ext w):Calls prog 234 #[Im at',Nl] x.val λe w''=>e=.returned (.agg #[Im at',Im 1])/\∃y:Ext w,w''=y.val:=
 Calls.TD (zS at' (Nl) [] ⟨λ_ h=>(dU h).elim,by simp,jf ⟨rfl,rfl⟩⟩)
theorem LQ(a c:Int)(b:ji)(w:jk):(Instr.field 249 (.agg #[Im a,.string b,Im c]) 1).run prog w=.ok (.string b) w:=by kernel_rfl
theorem LP(a c:Int)(b:ji)(w:jk):(Instr.field 249 (.agg #[Im a,.string b,Im c]) 2).run prog w=.ok (Im c) w:=by kernel_rfl
theorem OW(w:jk)(a b c d:Obj):((((w.alloc a).alloc b).alloc c).alloc d).drew.heap[w.heap.size+1+1+1]? =some d/\w.grownBy ((((w.alloc a).alloc b).alloc c).alloc d).drew none:=by
 constructor
 .have e:((((w.alloc a).alloc b).alloc c).alloc d).drew.heap=(((w.heap.push a).push b).push c).push d:=rfl;rw[e,eH,jh (by simp)]
 .exact(ah w a none).trans ((ah _ b none).trans ((ah _ c none).trans ((ah _ d none).trans ⟨rfl,rfl,rfl,aj _,λ_ _ _=>rfl⟩)))
end
section
variable {w:jk}{P:Nat}{s:ji}{k k':Tk}{dp en ea:Int}{E:jk->Nat->jm->Prop}
def Reads(fn:FuncId)(more:List jm)(P:Nat)(s:ji)(k k':Tk)(dp en ea:Int)(E:jk->Nat->jm->Prop):Prop:=
 ∀x:jk,kG x P s k dp en ea->Calls prog fn (Pt P 0::more).toArray x λe w'=>∃v,e=.returned v/\E w' x.heap.size v/\kG w' P s k' dp en ea/\x.grownBy w' (some P)
def Zx(at' n:Int)(w:jk)(B:Nat)(v:jm):Prop:=
 ∃A,v=.iface 405 (Pt A 0)/\B<=A/\w.heap[A]? =some (.cells #[Im at',Im 1,Im 1,Im n] 407)
theorem akN(w:jk)(e:jo)(t:ji):w.grownBy (Lib.bytesWorld w e t) none:=⟨rfl,rfl,rfl,by rw[Lib.bytesWorld_size];omega,λj hj _=>Lib.bytesWorld_at_old w e t j hj⟩
theorem aoA(hs:s.size<=4000)(hk:KZ s k)(n:Int)(hsz:k.text.size<=18)(ha:Lib.atoi k.text.data.toList=some n)(hk3:kF s k=k'):
 Reads 273 [] P s k k' dp en ea (Zx k.at' n):=by
 intro w h;have HN:Hid (Calls prog 236 #[Pt P 0] w λe w'=>e=.returned (xJ k)/\kG w' P s k' dp en ea/\w.grownBy w' (some P)):=by
  rw[<-hk3];exact Vq h hk hs
 have HA:Hid (∀w,Calls prog 276 #[.string k.text] w λe w'=>e=.returned (.tuple #[Im n,.nilIface])/\w.grownBy w' none):=λw=>by
  refine(Tryz.strconv_Atoi k.text n hsz ha w).mono ?_;rintro e w' ⟨h1,t,rfl⟩;exact⟨h1,akN _ _ _⟩
 clear h ha;go_enter func273,ntmps273;go_wp2_with fail;refine HN.out.mono ?_;rintro e w1 ⟨rfl,p1,q1⟩;have kJ:=jA (jd p1 q1);clear p1 q1 HN;unfold xJ;go_wp2_with fail;refine(HA.out _).mono ?_;rintro e w2 ⟨rfl,g2⟩;have hb2:=(g2.block _ (by simp) (by simp)).trans (aY w1 _);have b2:=jK 2 hb2 rfl;have HG2:=jA ((ah w1 _ none).trans g2);clear hb2 g2 HA;go_wp2_with fail;refine(zS k.at' (Nl) [] ⟨λ_ h=>(dU h).elim,by simp,jf ⟨rfl,rfl⟩⟩).mono ?_;rintro e w3 ⟨rfl,g3⟩;have yJ:=jA (HG2.out.trans g3);have hpc:jR []=1:=by decide
 rw[hpc];clear g3 HG2 b2;have HF:Hid (∀o,o=Obj.cells #[Im k.at',Im 1,Im 1,Im n] 407->Zx k.at' n (w3.alloc o) w.heap.size (.iface 405 (Pt w3.heap.size 0))/\kG (w3.alloc o) P s k' dp en ea/\w.grownBy (w3.alloc o) (some P)):=by
  intro o ho;subst ho;have hg:=yJ.out.trans (ah w3 (Obj.cells #[Im k.at',Im 1,Im 1,Im n] 407) none);exact⟨⟨w3.heap.size,rfl,by have:=kJ.out.2.size;have:=yJ.out.size;omega,aY _ _⟩,kJ.out.1.grow hg,kJ.out.2.trans (hg.but _)⟩
 go_wp2_with fail;go_ret;exact⟨_,rfl,HF.out _ rfl⟩
theorem aqQ(h:kG w P s k dp en ea)(hs:s.size<=4000)(hk:KZ s k)(c:Int)(hsz:1<k.text.size)(hc:(k.text[1].toNat:Int)=48+c)(h0:0<=c)(h1:c<=7):
 Calls prog 235 #[Pt P 0] w λe w'=>e=.returned (Im c)/\kG w' P s (kF s k) dp en ea/\w.grownBy w' (some P):=by
 have HN:=jA (Vq h hk hs);have hft:=LQ k.kind k.at' k.text;have i1:(1:Int)<(k.text.size:Int):=by omega
 clear h;go_enter func235,ntmps235;go_wp2_with fail;refine HN.out.mono ?_;rintro e w1 ⟨rfl,p1,q1⟩;have kJ:=jA (jd p1 q1);clear p1 q1 HN;unfold xJ;go_wp2_with fail;go_ret;exact⟨zi (by omega),kJ.out⟩
theorem VB(w:jk)(T:jo)(c:Int)(h0:0<=c)(h1:c<=1000001):CU (w.alloc (.cells #[Im c] T)) (.slice (some (Ad w.heap.size 0)) 1 1) [c]:=by
 refine⟨by simp;omega,by simp,je ⟨_,_,rfl,λi y hy=>?_⟩⟩
 match i,hy with
 |0,hy=>
  cases hy;exact jI (aY w _)
theorem Iy(w:jk)(T:jo)(c d:Int)(h0:0<=c)(h1:c<=1000001)(h2:0<=d)(h3:d<=1000001):CU (w.alloc (.cells #[Im c,Im d] T)) (.slice (some (Ad w.heap.size 0)) 2 2) [c,d]:=by
 refine⟨by simp;omega,by simp,je ⟨_,_,rfl,λi y hy=>?_⟩⟩
 match i,hy with
 |0,hy=>cases hy;exact jI (aY w _)
 |1,hy=>cases hy;exact jI (aY w _)
end
section
variable {w:jk}{P:Nat}{s:ji}{k k':Tk}{dp en ea:Int}{E E1 E2:jk->Nat->jm->Prop}
theorem amd:(prog.info? 192).map (λi=>(i.zero,i.size,i.bytes))=some (some .nilIface,1,16):=by kernel_rfl
end
end
end Go.Proofs.YthllhabjfchgiaaGreatDoor
