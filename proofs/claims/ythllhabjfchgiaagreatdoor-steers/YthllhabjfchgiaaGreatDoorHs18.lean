import Derived.Test.YthllhabjfchgiaaGreatDoorShelf
import Derived.Test.YthllhabjfchgiaaGreatDoorHs06
import Derived.LoopN
import Derived.OwnWalk
import Derived.Maps.AppendAt
set_option maxRecDepth 100000
set_option maxHeartbeats 8000000
set_option linter.unusedSimpArgs false
namespace Go.Proofs.YthllhabjfchgiaaGreatDoor
open _root_.Go.Proofs.Tryz
namespace Hx
open Go.RowKit
def isLet(c:Int):Bool:=decide (97<=c)&&decide (c<=122)
def vY(c:Int):Bool:=decide (48<=c)&&decide (c<=57)
def D9(c:Int):Bool:=c==32||c==10
def I4(c:Int):Bool:=isLet c||vY c
def span(p:Int->Bool)(l:List UInt8):Nat:=(l.takeWhile λc=>p c.toNat).length
theorem atL(p:Int->Bool)(l:List UInt8)(k:Nat)(h:l.length<=k):span p (l.drop k)=0:=by
 rw[fH h];rfl
theorem atN(p:Int->Bool)(l:List UInt8)(k:Nat)(h:k<l.length)(a:p (l[k]'h).toNat=true):span p (l.drop k)=1+span p (l.drop (k+1)):=by
 unfold span;rw[dA h,List.takeWhile_cons_of_pos (by exact a),aF];omega
theorem atM(p:Int->Bool)(l:List UInt8)(k:Nat)(h:k<l.length)(a:p (l[k]'h).toNat=false):span p (l.drop k)=0:=by
 unfold span;rw[dA h,List.takeWhile_cons_of_neg (by rw[a];simp)]
 rfl
def numberOf(n:Nat):Int×Int:=if 18<n then (0,0)else (3,n)
def DL(t:ji):Int×Int:=numberOf (1+span vY (t.data.toList.drop 1))
def isWord(u:List UInt8):Bool:=u==[105,102]||u==[101,108,115,101]||u==[101,97,99,104]||u==[105,110]||u==[112,117,115,104]||u==[118,97,114]||u==[114,101,116,117,114,110]||u==[116,114,117,101]||u==[102,97,108,115,101]||u==[105,115,110,111,110,101]
def FV(t:ji)(n:Nat):Int×Int:=if 12<n then (0,0)else if isWord (t.extract 0 n).toList then (5,n)else (2,n)
def DN(t:ji):Int×Int:=FV t (1+span I4 (t.data.toList.drop 1))
theorem Yc(p:Int->Bool)(l:List UInt8):span p l<=l.length:=List.Sublist.length_le (List.takeWhile_sublist _)
end Hx
section
open Go.RowKit
theorem G5(c:Int)(w:jk):Calls prog 214 #[.int .u8 c] w λe b=>e=.returned (.bool (Hx.isLet c))/\b=w:=by
 by_cases h:97<=c
 .have a:decide (97<=c)=true:=by simpa using h
  go_enter func214,ntmps214;go_wp2;go_ret;exact⟨BF (by simp only[Hx.isLet,a];simp),rfl⟩
 .have a:decide (97<=c)=false:=by simpa using h
  go_enter func214,ntmps214;go_wp2;go_ret;exact⟨BF (by simp only[Hx.isLet,a];simp),rfl⟩
theorem Fj(c:Int)(w:jk):Calls prog 216 #[.int .u8 c] w λe b=>e=.returned (.bool (Hx.vY c))/\b=w:=by
 by_cases h:48<=c
 .have a:decide (48<=c)=true:=by simpa using h
  go_enter func216,ntmps216;go_wp2;go_ret;exact⟨BF (by simp only[Hx.vY,a];simp),rfl⟩
 .have a:decide (48<=c)=false:=by simpa using h
  go_enter func216,ntmps216;go_wp2;go_ret;exact⟨BF (by simp only[Hx.vY,a];simp),rfl⟩
structure Cb(p:Int->Bool)(t:ji)(n k:Nat):Prop where
 eq:k+Hx.span p (t.data.toList.drop k)=n
theorem Cb.yes{p:Int->Bool}{t:ji}{n k:Nat}(h:Cb p t n k)(a:k<t.size)(b:p (t[k]'a).toNat=true):Cb p t n (k+1):=by
 have:=Hx.atN p t.data.toList k (by simpa using a) b;exact⟨by have:=h.eq;omega⟩
theorem Cb.no{p:Int->Bool}{t:ji}{n k:Nat}(h:Cb p t n k)(a:k<t.size)(b:p (t[k]'a).toNat=false):n=k:=by
 have:=Hx.atM p t.data.toList k (by simpa using a) b;have:=h.eq;omega
theorem Cb.off{p:Int->Bool}{t:ji}{n k:Nat}(h:Cb p t n k)(a:t.size<=k):n=k:=by
 have:=Hx.atL p t.data.toList k (by simpa using a);have:=h.eq;omega
theorem Pn(p:Int->Bool)(t:ji)(k:Nat)(b:k<=t.size):∃n,k+Hx.span p (t.data.toList.drop k)=n/\n<=t.size/\Cb p t n k:=by
 refine⟨_,rfl,?_,⟨rfl⟩⟩;have:=Hx.Yc p (t.data.toList.drop k);rw[fA]at this;have a:t.data.toList.length=t.size:=by simp
 omega
theorem aj9(t:ji)(w:jk)(z:t.size<=4000)(q:1<=t.size):
 Calls prog 217 #[.string t] w λe g=>e=.returned (.tuple #[Im (Hx.DL t).1,Im (Hx.DL t).2])/\g=w:=by
 unfold Hx.DL;obtain⟨n,m,v,l⟩:=Pn Hx.vY t 1 q;rw[m];clear m;generalize o:Hx.numberOf n=r;have f:Hid (Hx.numberOf n=r):=o;clear o;go_enter func217,ntmps217;go_wp2;go_loop [4] (λi=>∃k:Nat,1<=k/\k<=t.size/\i=Im k/\Cb Hx.vY t n k) (λi=>t.size-(intOf i).toNat)
 case atStart=>exact⟨1,by omega,by omega,rfl,l⟩
 case round=>
  obtain⟨k,u,y,rfl,b⟩:=hrel;clear l;by_cases d:k<t.size
  .have A:(0:Int)<=(k:Int):=by omega
   have x:(k:Int)<(t.size:Int):=by omega
   cases c:Hx.vY t[k].toNat with
   |true=>
    have p:=b.yes d c;clear b;go_wp2_with (go_at_call 216;refine(Fj _ _).mono ?_;rintro e g ⟨rfl,rfl⟩;rw[c]);refine⟨⟨k+1,by omega,by omega,by go_num,p⟩,?_⟩;simp[intOf];omega
   |false=>
    have j:=b.no d c;subst j;clear b;by_cases a:18<n
    .have h:decide ((18:Int)<(n:Int))=true:=by simp;omega
     have e:r=(0,0):=by rw[<-f.out,Hx.numberOf,jh a]
     subst e;go_wp2_with (go_at_call 216;refine(Fj _ _).mono ?_;rintro e g ⟨rfl,rfl⟩;rw[c]);go_ret2;exact⟨rfl,rfl⟩
    .have h:decide ((18:Int)<(n:Int))=false:=by simp;omega
     have e:r=(3,(n:Int)):=by rw[<-f.out,Hx.numberOf,jg a]
     subst e;go_wp2_with (go_at_call 216;refine(Fj _ _).mono ?_;rintro e g ⟨rfl,rfl⟩;rw[c]);go_ret2;exact⟨rfl,rfl⟩
  .have j:=b.off (by omega);have x:decide ((k:Int)<(t.size:Int))=false:=by simp;omega
   subst j;clear b;by_cases a:18<n
   .have h:decide ((18:Int)<(n:Int))=true:=by simp;omega
    have e:r=(0,0):=by rw[<-f.out,Hx.numberOf,jh a]
    subst e;go_wp2;go_ret2;exact⟨rfl,rfl⟩
   .have h:decide ((18:Int)<(n:Int))=false:=by simp;omega
    have e:r=(3,(n:Int)):=by rw[<-f.out,Hx.numberOf,jg a]
    subst e;go_wp2;go_ret2;exact⟨rfl,rfl⟩
theorem ake(t:ji)(w:jk)(G:t.size<=4000)(z:1<=t.size):
 Calls prog 215 #[.string t] w λe g=>e=.returned (.tuple #[Im (Hx.DN t).1,Im (Hx.DN t).2])/\g=w:=by
 unfold Hx.DN;obtain⟨n,u,C,m⟩:=Pn Hx.I4 t 1 z;rw[u];clear u;generalize v:Hx.FV t n=r;have o:Hid (Hx.FV t n=r):=v;clear v;go_enter func215,ntmps215;go_upto_block 0 with fail;go_cut [4] (λi D=>w=D/\i=Im n)
 case first=>
  go_wp2_with fail;go_loop [4] (λi=>∃k:Nat,1<=k/\k<=t.size/\i=Im k/\Cb Hx.I4 t n k) (λi=>t.size-(intOf i).toNat)
  case atStart=>exact⟨1,by omega,by omega,rfl,m⟩
  case round=>
   obtain⟨k,B,F,rfl,c⟩:=hrel;clear m;by_cases d:k<t.size
   .have H:(0:Int)<=(k:Int):=by omega
    have x:(k:Int)<(t.size:Int):=by omega
    cases f:Hx.isLet t[k].toNat with
    |true=>
     have l:=c.yes d (by simp[Hx.I4,f]);clear c;go_wp2_with (go_at_call 214;refine(G5 _ _).mono ?_;rintro e g ⟨rfl,rfl⟩;rw[f]);refine⟨⟨k+1,by omega,by omega,by go_num,l⟩,?_⟩;simp[intOf];omega
    |false=>
     cases j:Hx.vY t[k].toNat with
     |true=>
      have l:=c.yes d (by simp[Hx.I4,f,j]);clear c;go_wp2_with (first|(go_at_call 214;refine(G5 _ _).mono ?_;rintro e g ⟨rfl,rfl⟩;rw[f])|(go_at_call 216;refine(Fj _ _).mono ?_;rintro e g ⟨rfl,rfl⟩;rw[j]));refine⟨⟨k+1,by omega,by omega,by go_num,l⟩,?_⟩;simp[intOf];omega
     |false=>
      have p:=c.no d (by simp[Hx.I4,f,j]);subst p;clear c;go_wp2_with (first|(go_at_call 214;refine(G5 _ _).mono ?_;rintro e g ⟨rfl,rfl⟩;rw[f])|(go_at_call 216;refine(Fj _ _).mono ?_;rintro e g ⟨rfl,rfl⟩;rw[j]));go_meet;exact⟨rfl,rfl⟩
   .have p:=c.off (by omega);have x:decide ((k:Int)<(t.size:Int))=false:=by simp;omega
    subst p;clear c;go_wp2;go_meet;exact⟨rfl,rfl⟩
 case rest=>
  obtain⟨rfl,rfl⟩:=hcut;by_cases h:12<n
  .have y:decide ((12:Int)<(n:Int))=true:=by simp;omega
   have e:r=(0,0):=by rw[<-o.out,Hx.FV,jh h]
   subst e;go_wp2;go_ret2;exact⟨rfl,rfl⟩
  .have y:decide ((12:Int)<(n:Int))=false:=by simp;omega
   have x:(n:Int)<=(t.size:Int):=by omega
   have I:(0:Int)<=(n:Int):=by omega
   have q:Hid (∀b,Hx.isWord (t.extract 0 n).toList=b->r=if b then (5,(n:Int))else (2,(n:Int))):=λb A=>by
    rw[<-o.out,Hx.FV,jg h,A]
   clear o m;go_wp2;all_goals first
    |(rename_i a b;exact jl (a.symm.trans b) (by decide))
    |(have e:=q.out true (by simp only[Hx.isWord, *,iE,iD])
      rw[jh rfl]at e;subst e;go_ret2;exact⟨rfl,rfl⟩)
    |(have e:=q.out false (by simp only[Hx.isWord, *,iQ])
      rw[jg (by decide)]at e;subst e;go_ret2;exact⟨rfl,rfl⟩)
def Hx.isSet(u:List UInt8):Bool:=u==[82,79,65,68,83]||u==[70,82,69,83,72]||u==[65,71,65,73,78]
def Hx.Fq(x y:Int):Bool:=x==82&&decide (48<=y)&&decide (y<=55)
def Hx.AZ(t:ji):Int×Int:=
 if decide (1<t.size)&&Hx.Fq (t.data.toList.getD 0 0).toNat (t.data.toList.getD 1 0).toNat then (4,2)
 else if t.size<5 then (0,0)else if Hx.isSet (t.extract 0 5).toList then (5,5)else (0,0)
theorem NW(t:ji)(k:Nat)(h:k<t.size):t.data.toList.getD k 0=t[k]:=by
 have:k<t.data.toList.length:=by simpa using h
 rw[aU,bU this]
 rfl
theorem aj7(t:ji)(w:jk)(C:t.size<=4000)(B:1<=t.size):
 Calls prog 218 #[.string t] w λe x=>e=.returned (.tuple #[Im (Hx.AZ t).1,Im (Hx.AZ t).2])/\x=w:=by
 generalize d:Hx.AZ t=r;have D:(0:Int)<(t.size:Int):=by omega
 by_cases n:1<t.size
 .have v:(1:Int)<(t.size:Int):=by omega
  have l:=NW t 0 (by omega);have m:=NW t 1 n;unfold Hx.AZ at d;rw[l,m,dR n,Bool.true_and]at d;have f:Hid ((if Hx.Fq t[0].toNat t[1].toNat=true then ((4:Int),(2:Int))else if t.size<5 then (0,0)else if Hx.isSet (t.extract 0 5).toList=true then (5,5)else (0,0))=r):=d;clear d l m;cases c:Hx.Fq t[0].toNat t[1].toNat with
  |true=>
   have e:r=(4,2):=by rw[<-f.out,jh c]
   subst e;simp only[Hx.Fq,dD]at c;obtain⟨⟨y,z⟩,A⟩:=c;clear f;go_enter func218,ntmps218;go_wp2;go_ret2;exact⟨rfl,rfl⟩
  |false=>
   have h:Hid (Hx.Fq t[0].toNat t[1].toNat=false):=c;have g:Hid ((if t.size<5 then ((0:Int),(0:Int))else if Hx.isSet (t.extract 0 5).toList=true then (5,5)else (0,0))=r):=by
    have p:=f.out;rw[jg (show¬Hx.Fq t[0].toNat t[1].toNat=true by rw[c];decide)]at p;exact p
   clear f c;by_cases o:t.size<5
   .have j:decide ((t.size:Int)<5)=true:=by simp;omega
    have e:r=(0,0):=by rw[<-g.out,jh o]
    subst e;go_enter func218,ntmps218;go_wp2;all_goals first
     |(go_ret2;exact⟨rfl,rfl⟩)
     |(exfalso;have:=h.out;simp only[Hx.Fq, *]at this;exact jl this (by decide))
   .have j:decide ((t.size:Int)<5)=false:=by simp;omega
    have F:(5:Int)<=(t.size:Int):=by omega
    have i:Hid (∀b,Hx.isSet (t.extract 0 5).toList=b->r=if b then (5,5)else (0,0)):=λb q=>by
     rw[<-g.out,jg o,q]
    clear g;go_enter func218,ntmps218;go_wp2;all_goals first
     |(rename_i a b;exact jl (a.symm.trans b) (by decide))
     |(rename_i a b _;exact jl (a.symm.trans b) (by decide))
     |(exfalso;have:=h.out;simp only[Hx.Fq, *]at this;exact jl this (by decide))
     |(have e:=i.out true (by simp only[Hx.isSet, *,iE,iD])
       rw[jh rfl]at e;subst e;go_ret2;exact⟨rfl,rfl⟩)
     |(have e:=i.out false (by simp only[Hx.isSet, *,iQ])
       rw[jg (by decide)]at e;subst e;go_ret2;exact⟨rfl,rfl⟩)
 .have u:t.size=1:=by omega
  have v:decide ((1:Int)<(t.size:Int))=false:=by simp;omega
  have j:decide ((t.size:Int)<5)=true:=by simp;omega
  have e:r=(0,0):=by
   rw[<-d];simp[Hx.AZ,u]
  subst e;clear d;go_enter func218,ntmps218;go_wp2;go_ret2;exact⟨rfl,rfl⟩
end
namespace Hx
open Go.RowKit
def Fz(u:List UInt8):Bool:=u==[60,61]||u==[62,61]||u==[61,61]||u==[33,61]||u==[38,38]||u==[124,124]
def Oq(c:UInt8):Bool:=decide (0<=Lib.indexByte [40,41,123,125,44,59,58,46,43,45,42,47,37,60,62,61,33] c)
def Cj(t:ji):Int×Int:=
 if decide (1<t.size)&&Fz (t.extract 0 2).toList then (5,2)else if Oq (t.data.toList.getD 0 0)then (5,1)else (0,0)
def P8(t:ji)(x:Int):Int×Int:=
 if isLet x then DN t else if vY x then DL t else if decide (65<=x)&&decide (x<=90)then AZ t else Cj t
def uX(t:ji):Int×Int:=P8 t (t.data.toList.getD 0 0).toNat
structure Tk where
 kind:Int
 text:ji
 at':Int
def Jp(s:ji)(k:Nat):Tk:=
 if k=s.size then ⟨1,⟨#[]⟩,k⟩else ⟨(uX (s.extract k s.size)).1,s.extract k (k+(uX (s.extract k s.size)).2.toNat),k⟩
def scan(s:ji)(from':Nat):Tk:=Jp s (from'+span D9 (s.data.toList.drop from'))
theorem akf(t:ji)(h:1<=t.size):0<=(DN t).2/\(DN t).2<=t.size:=by
 obtain⟨n,a,b,_⟩:=Pn I4 t 1 h;unfold DN;rw[a];unfold FV;repeat' split
 all_goals simp only
 all_goals omega
theorem akb(t:ji)(h:1<=t.size):0<=(DL t).2/\(DL t).2<=t.size:=by
 obtain⟨n,a,b,_⟩:=Pn vY t 1 h;unfold DL;rw[a];unfold numberOf;repeat' split
 all_goals simp only
 all_goals omega
theorem aj8(t:ji):0<=(AZ t).2/\(AZ t).2<=t.size:=by
 unfold AZ;split
 .rename_i h;simp only[dD,decide_eq_true_eq]at h;simp only;omega
 .repeat' split
  all_goals simp only
  all_goals omega
theorem akc(t:ji)(h:1<=t.size):0<=(Cj t).2/\(Cj t).2<=t.size:=by
 unfold Cj;split
 .rename_i h;simp only[dD,decide_eq_true_eq]at h;simp only;omega
 .split
  all_goals simp only
  all_goals omega
theorem UL(t:ji)(h:1<=t.size):0<=(uX t).2/\(uX t).2<=t.size:=by
 unfold uX P8;repeat' split
 .exact akf t h
 .exact akb t h
 .exact aj8 t
 .exact akc t h
end Hx
section
open Go.RowKit
theorem abo(t:ji)(w:jk)(u:t.size<=4000)(q:1<=t.size):
 Calls prog 219 #[.string t] w λe c=>e=.returned (.tuple #[Im (Hx.Cj t).1,Im (Hx.Cj t).2])/\c=w:=by
 generalize a:Hx.Cj t=r;have v:(0:Int)<(t.size:Int):=by omega
 have o:=NW t 0 (by omega);unfold Hx.Cj at a;rw[o]at a;by_cases f:1<t.size
 .have x:(2:Int)<=(t.size:Int):=by omega
  have p:decide ((1:Int)<(t.size:Int))=true:=by simp;omega
  rw[dR f,Bool.true_and]at a;cases h:((t.extract 0 2).toList==[60,61])with
  |true=>
   have e:r=(5,2):=by rw[<-a,jh (by simp only[Hx.Fz,h,iD])]
   subst e;clear a;go_enter func219,ntmps219;go_wp2;go_ret2;exact⟨rfl,rfl⟩
  |false=>
   cases i:((t.extract 0 2).toList==[62,61])with
   |true=>
    have e:r=(5,2):=by rw[<-a,jh (by simp only[Hx.Fz,i,iE,iD])]
    subst e;clear a;go_enter func219,ntmps219;go_wp2;go_ret2;exact⟨rfl,rfl⟩
   |false=>
    cases j:((t.extract 0 2).toList==[61,61])with
    |true=>
     have e:r=(5,2):=by rw[<-a,jh (by simp only[Hx.Fz,j,iE,iD])]
     subst e;clear a;go_enter func219,ntmps219;go_wp2;go_ret2;exact⟨rfl,rfl⟩
    |false=>
     cases l:((t.extract 0 2).toList==[33,61])with
     |true=>
      have e:r=(5,2):=by rw[<-a,jh (by simp only[Hx.Fz,l,iE,iD])]
      subst e;clear a;go_enter func219,ntmps219;go_wp2;go_ret2;exact⟨rfl,rfl⟩
     |false=>
      cases m:((t.extract 0 2).toList==[38,38])with
      |true=>
       have e:r=(5,2):=by rw[<-a,jh (by simp only[Hx.Fz,m,iE,iD])]
       subst e;clear a;go_enter func219,ntmps219;go_wp2;go_ret2;exact⟨rfl,rfl⟩
      |false=>
       cases n:((t.extract 0 2).toList==[124,124])with
       |true=>
        have e:r=(5,2):=by rw[<-a,jh (by simp only[Hx.Fz,n,iE])]
        subst e;clear a;go_enter func219,ntmps219;go_wp2;go_ret2;exact⟨rfl,rfl⟩
       |false=>
        have g:Hx.Fz (t.extract 0 2).toList=false:=by simp only[Hx.Fz,h,i,j,l,m,n,iQ]
        rw[jg (by rw[g];decide)]at a;clear g;by_cases b:(0:Int)<=Lib.indexByte [40,41,123,125,44,59,58,46,43,45,42,47,37,60,62,61,33] t[0]
        .have e:r=(5,1):=by rw[<-a,jh (by simp only[Hx.Oq];exact dR b)]
         subst e;clear a;go_enter func219,ntmps219;go_wp2_with (go_at_call 231;refine(Tryz.strings_IndexByte _ _ _).mono ?_;rintro e c ⟨rfl,rfl⟩);go_ret2;exact⟨rfl,rfl⟩
        .have e:r=(0,0):=by rw[<-a,jg (by simp only[Hx.Oq];rw[dO b];decide)]
         subst e;clear a;have d:Lib.indexByte [40,41,123,125,44,59,58,46,43,45,42,47,37,60,62,61,33] t[0]<0:=by omega
         go_enter func219,ntmps219;go_wp2_with (go_at_call 231;refine(Tryz.strings_IndexByte _ _ _).mono ?_;rintro e c ⟨rfl,rfl⟩);go_ret2;exact⟨rfl,rfl⟩
 .have p:decide ((1:Int)<(t.size:Int))=false:=by simp;omega
  rw[dO f,gK,jg (by decide)]at a;by_cases b:(0:Int)<=Lib.indexByte [40,41,123,125,44,59,58,46,43,45,42,47,37,60,62,61,33] t[0]
  .have e:r=(5,1):=by rw[<-a,jh (by simp only[Hx.Oq];exact dR b)]
   subst e;clear a;go_enter func219,ntmps219;go_wp2_with (go_at_call 231;refine(Tryz.strings_IndexByte _ _ _).mono ?_;rintro e c ⟨rfl,rfl⟩);go_ret2;exact⟨rfl,rfl⟩
  .have e:r=(0,0):=by rw[<-a,jg (by simp only[Hx.Oq];rw[dO b];decide)]
   subst e;clear a;have d:Lib.indexByte [40,41,123,125,44,59,58,46,43,45,42,47,37,60,62,61,33] t[0]<0:=by omega
   go_enter func219,ntmps219;go_wp2_with (go_at_call 231;refine(Tryz.strings_IndexByte _ _ _).mono ?_;rintro e c ⟨rfl,rfl⟩);go_ret2;exact⟨rfl,rfl⟩
theorem akd(t:ji)(w:jk)(g:t.size<=4000)(b:1<=t.size):
 Calls prog 190 #[.string t] w λe a=>e=.returned (.tuple #[Im (Hx.uX t).1,Im (Hx.uX t).2])/\a=w:=by
 have m:(0:Int)<(t.size:Int):=by omega
 have l:=NW t 0 (by omega);unfold Hx.uX Hx.P8;rw[l];clear l;cases f:Hx.isLet t[0].toNat with
 |true=>
  simp only[dM];go_enter func190,ntmps190;go_wp2_with (first|(go_at_call 214;refine(G5 _ _).mono ?_;rintro e a ⟨rfl,rfl⟩;rw[f])|(go_at_call 215;refine(ake t _ g b).mono ?_;rintro e a ⟨rfl,rfl⟩));go_ret2;exact⟨rfl,rfl⟩
 |false=>
  simp only[aH,cZ];cases i:Hx.vY t[0].toNat with
  |true=>
   simp only[dM];go_enter func190,ntmps190;go_wp2_with (first|(go_at_call 214;refine(G5 _ _).mono ?_;rintro e a ⟨rfl,rfl⟩;rw[f])|(go_at_call 216;refine(Fj _ _).mono ?_;rintro e a ⟨rfl,rfl⟩;rw[i])|(go_at_call 217;refine(aj9 t _ g b).mono ?_;rintro e a ⟨rfl,rfl⟩));go_ret2;exact⟨rfl,rfl⟩
  |false=>
   simp only[aH,cZ];by_cases c:(65:Int)<=t[0].toNat
   .have h:=dR c;by_cases d:(t[0].toNat:Int)<=90
    .have j:=dR d;simp only[h,j,Bool.and_self,dM];go_enter func190,ntmps190;go_wp2_with (first|(go_at_call 214;refine(G5 _ _).mono ?_;rintro e a ⟨rfl,rfl⟩;rw[f])|(go_at_call 216;refine(Fj _ _).mono ?_;rintro e a ⟨rfl,rfl⟩;rw[i])|(go_at_call 218;refine(aj7 t _ g b).mono ?_;rintro e a ⟨rfl,rfl⟩));go_ret2;exact⟨rfl,rfl⟩
    .have j:=dO d;simp only[h,j,iL,aH,cZ];go_enter func190,ntmps190;go_wp2_with (first|(go_at_call 214;refine(G5 _ _).mono ?_;rintro e a ⟨rfl,rfl⟩;rw[f])|(go_at_call 216;refine(Fj _ _).mono ?_;rintro e a ⟨rfl,rfl⟩;rw[i])|(go_at_call 219;refine(abo t _ g b).mono ?_;rintro e a ⟨rfl,rfl⟩));go_ret2;exact⟨rfl,rfl⟩
   .have h:=dO c;simp only[h,gK,aH,cZ];go_enter func190,ntmps190;go_wp2_with (first|(go_at_call 214;refine(G5 _ _).mono ?_;rintro e a ⟨rfl,rfl⟩;rw[f])|(go_at_call 216;refine(Fj _ _).mono ?_;rintro e a ⟨rfl,rfl⟩;rw[i])|(go_at_call 219;refine(abo t _ g b).mono ?_;rintro e a ⟨rfl,rfl⟩));go_ret2;exact⟨rfl,rfl⟩
def xY(k:Hx.Tk):jm:=.agg #[Im k.kind,.string k.text,Im k.at']
theorem agN(s:ji)(a:Nat)(w:jk)(Q:s.size<=4000)(I:a<=s.size):
 Calls prog 140 #[.string s,Im a] w λe g=>e=.returned (xY (Hx.scan s a))/\w.grownBy g none:=by
 unfold Hx.scan;obtain⟨n,B,J,h⟩:=Pn Hx.D9 s a I;rw[B];clear B;generalize C:Hx.Jp s n=r;have f:Hid (Hx.Jp s n=r):=C;clear C;have p:Hid (∀o k,w.grownBy ((w.alloc o).drewN k) none):=λo k=>(ah w o none).trans ⟨rfl,rfl,rfl,aj _,λ_ _ _=>rfl⟩;go_enter func140,ntmps140;go_upto_block 0 with fail;go_cut [5] (λi M=>w.alloc (.cells #[Im 0,.string ⟨#[]⟩,Im 0] 249)=M/\i=Im n)
 case first=>
  go_wp2_with fail;go_loop [5] (λi=>∃k:Nat,k<=s.size/\i=Im k/\Cb Hx.D9 s n k) (λi=>s.size-(intOf i).toNat)
  case atStart=>exact⟨a,by omega,rfl,h⟩
  case round=>
   obtain⟨k,O,rfl,b⟩:=hrel;clear h;by_cases c:k<s.size
   .have L:(0:Int)<=(k:Int):=by omega
    have F:(k:Int)<(s.size:Int):=by omega
    cases l:((s[k].toNat:Int)==32)with
    |true=>
     have d:=b.yes c (by simp[Hx.D9,l]);clear b;go_wp2;refine⟨⟨k+1,by omega,by go_num,d⟩,?_⟩;simp[intOf];omega
    |false=>
     cases x:((s[k].toNat:Int)==10)with
     |true=>
      have d:=b.yes c (by simp[Hx.D9,l,x]);clear b;go_wp2;refine⟨⟨k+1,by omega,by go_num,d⟩,?_⟩;simp[intOf];omega
     |false=>
      have j:=b.no c (by simp only[Hx.D9,l,x,iQ]);subst j;clear b;go_wp2;go_meet;exact⟨rfl,rfl⟩
   .have j:=b.off (by omega);have F:decide ((k:Int)<(s.size:Int))=false:=by simp;omega
    subst j;clear b;go_wp2;go_meet;exact⟨rfl,rfl⟩
 case rest=>
  obtain⟨rfl,rfl⟩:=hcut;clear h;by_cases A:n=s.size
  .subst A;have e:r=⟨1,⟨#[]⟩,s.size⟩:=by rw[<-f.out,Hx.Jp,jh rfl]
   subst e;clear f;go_wp2;refine cu (v:=.agg #[Im 1,.string ⟨#[]⟩,Im s.size]) (by simp[results,Tryz.results140,go_sem]) rfl ?_;exact⟨rfl,p.out _ 0⟩
  .have N:((n:Int)==(s.size:Int))=false:=by simp;omega
   have m:(s.extract n s.size).size=s.size-n:=by simp
   obtain⟨t,H⟩:=Hx.UL (s.extract n s.size) (by omega);have u:=akd (s.extract n s.size);have G:Hid (∀w,Calls prog 190 #[.string (s.extract n s.size)] w λe g=>e=.returned (.tuple #[Im (Hx.uX (s.extract n s.size)).1,Im (Hx.uX (s.extract n s.size)).2])/\g=w):=λw=>u w (by omega) (by omega);have d:Hid (r=⟨(Hx.uX (s.extract n s.size)).1,s.extract n (n+(Hx.uX (s.extract n s.size)).2.toNat),n⟩):=by
    show _=_;rw[<-f.out,Hx.Jp,jg A]
   clear u f;generalize (Hx.uX (s.extract n s.size)).1=q at *;generalize (Hx.uX (s.extract n s.size)).2=z at *;obtain⟨z,rfl⟩:=bI t;have L:(0:Int)<=(n:Int):=by omega
   have F:(n:Int)<=(s.size:Int):=by omega
   have R:(n:Int)+(z:Int)<=(s.size:Int):=by omega
   obtain⟨y,D⟩:∃y:Nat,n+z=y:=⟨_,rfl⟩;have K:(n:Int)+(z:Int)=(y:Int):=by omega
   have S:(n:Int)<=(y:Int):=by omega
   have T:(y:Int)<=(s.size:Int):=by omega
   rw[bK,D]at d;clear t H m D;go_wp2_with (go_at_call 190;refine(G.out _).mono ?_;rintro e g ⟨rfl,rfl⟩);refine cu (v:=.agg #[Im q,.string (s.extract n y),Im n]) (by simp[results,Tryz.results140,go_sem]) rfl ?_;exact⟨by rw[d.out];rfl,p.out _ 0⟩
end
section
abbrev aN:=@Go.World.grownBy.refl
end
section
open Go.RowKit
open Hx (Tk)
attribute [local go_sem ↓] Go.wp_at_zero Go.wp_at_succ
attribute [local go_sem] kN
section
structure Ext(w:jk) where
 val:jk
 grown:w.grownBy val none
theorem Qs(w:jk):Nonempty (Ext w):=⟨⟨w,aN w none⟩⟩
theorem TQ{P:Program}{p:Nat}{Q:Exit->Act->jk->Prop}{a:Act}{w:jk}{l:List Oper}(n:Nat)(m:P.follows .mixedOrders=true)(j:Region.lexTailB .any l.toArray n=true)
 (h:wpQuiet P l.toArray (λb=>∃x:Ext w,b=x.val) (λc=>∀b,w.grownBy b none->wpList P l.toArray Q (l.drop n) c b) (l.take n) a):(Code.region p l.toArray true).wp P Q a w:=by
 refine aaj (C:=λb=>∃x:Ext w,b=x.val) n m j ⟨⟨w.drew,⟨rfl,rfl,rfl,aj _,λ_ _ _=>rfl⟩⟩,rfl⟩ ?_;have d:∀(e:List Oper)(a:Act),wpQuiet P l.toArray (λb=>∃x:Ext w,b=x.val) (λc=>∀b,w.grownBy b none->wpList P l.toArray Q (l.drop n) c b) e a->
  wpQuiet P l.toArray (λb=>∃x:Ext w,b=x.val) (λc=>∀b,(∃x:Ext w,b=x.val)->wpList P l.toArray Q (l.drop n) c b) e a:=by
  intro e;induction e with
  |nil=>
   intro a h;rintro b ⟨x,rfl⟩;exact h _ x.grown
  |cons o rest ih=>
   intro a h;unfold wpQuiet at h⊢;split
   .rename_i f;rw[jh f]at h;obtain⟨v,g,i⟩:=h;exact⟨v,g,ih _ i⟩
   .rename_i f;rw[jg f]at h;exact ih _ h
 exact d _ _ h
theorem Calls.Vg{P:Program}{f:FuncId}{a:Array jm}{w:jk}{x:Ext w}{v:jm}(h:Calls P f a x.val λe g=>e=.returned v/\x.val.grownBy g none):
 Calls P f a x.val λe b=>e=.returned v/\∃y:Ext w,b=y.val:=
 h.mono λ_ b ⟨c,d⟩=>⟨c,⟨b,x.grown.trans d⟩,rfl⟩
structure kH(w:jk)(P:Nat)(s:ji)(k:Tk)(dp en ea:Int):Prop where
 c0:w.cell? (Ad P 0)=some (.string s)
 c1:w.cell? (Ad P 1)=some (Im k.kind)
 c2:w.cell? (Ad P 2)=some (.string k.text)
 c3:w.cell? (Ad P 3)=some (Im k.at')
 c4:w.cell? (Ad P 4)=some (Im dp)
 c5:w.cell? (Ad P 5)=some (Im en)
 c6:w.cell? (Ad P 6)=some (Im ea)
 fr:∀j,w.frozen? (Ad P j)=false
variable {w:jk}{P:Nat}{s:ji}{k:Tk}{dp en ea:Int}
theorem kH.lt(h:kH w P s k dp en ea):P<w.heap.size:=World.block_lt_of_cell? w _ h.c0
theorem kH.grow(h:kH w P s k dp en ea){w':jk}(c:w.grownBy w' none):kH w' P s k dp en ea:=by
 have b:=c.block P h.lt (by simp);have a:∀j,w'.cell? (Ad P j)=w.cell? (Ad P j):=λj=>bQ b;exact⟨by rw[a];exact h.c0,by rw[a];exact h.c1,by rw[a];exact h.c2,by rw[a];exact h.c3,by rw[a];exact h.c4,by rw[a];exact h.c5,by rw[a];exact h.c6,
  λj=>(dZ b).trans (h.fr j)⟩
theorem kH.set(h:kH w P s k dp en ea)(j:Nat)(v:jm)(k':Tk)(b c d:Int)(g:¬j=0)
 (l:(if j=1 then v else Im k.kind)=Im k'.kind)(m:(if j=2 then v else .string k.text)=.string k'.text)(n:(if j=3 then v else Im k.at')=Im k'.at')
 (o:(if j=4 then v else Im dp)=Im b)(p:(if j=5 then v else Im en)=Im c)(q:(if j=6 then v else Im ea)=Im d):
 kH (w.setCell (Ad P j) v) P s k' b c d:=by
 have a:∀i u,w.cell? (Ad P i)=some u->(w.setCell (Ad P j) v).cell? (Ad P i)=some (if j=i then v else u):=λi u f=>by
  by_cases e:j=i
  .subst e;rw[jh rfl];exact dB _ _ _ f
  .rw[jg e,bG _ _ _ _ (by intro h;cases h;exact e rfl)];exact f
 exact⟨by rw[a 0 _ h.c0,jg g],by rw[a 1 _ h.c1,l],by rw[a 2 _ h.c2,m],by rw[a 3 _ h.c3,n],by rw[a 4 _ h.c4,o],by rw[a 5 _ h.c5,p],by rw[a 6 _ h.c6,q],λi=>by rw[dX];exact h.fr i⟩
theorem kH.pI(h:kH w P s k dp en ea){w':jk}{g:Nat}(d:w.grownBy w' (some g))(b:P≠g):kH w' P s k dp en ea:=by
 have c:=d.block P h.lt (by simpa using b);have a:∀j,w'.cell? (Ad P j)=w.cell? (Ad P j):=λj=>bQ c;exact⟨by rw[a];exact h.c0,by rw[a];exact h.c1,by rw[a];exact h.c2,by rw[a];exact h.c3,by rw[a];exact h.c4,by rw[a];exact h.c5,by rw[a];exact h.c6,
  λj=>(dZ c).trans (h.fr j)⟩
theorem pR{w x:jk}{r:Option Nat}(h:w.grownBy x r){g:Nat}(a:w.heap.size<=g)(j:Nat)(v:jm):w.grownBy (x.setCell (Ad g j) v) r:=
 h.andThen (mM x g j v) (λj e=>by cases e;exact jf a)
theorem DY{w x:jk}{P:Nat}(h:w.grownBy x (some P))(j:Nat)(v:jm):w.grownBy (x.setCell (Ad P j) v) (some P):=h.trans (mM x P j v)
theorem Hy(w:jk)(g:Nat)(T:jo)(f d c a b e:jm)(h:w.heap[g]? =some (.cells #[f,d,c] T)):
 (((w.setCell (Ad g 0) a).setCell (Ad g 1) b).setCell (Ad g 2) e).heap[g]? =some (.cells #[a,b,e] T):=by
 have i:(w.setCell (Ad g 0) a).heap[g]? =some (.cells #[a,d,c] T):=aK _ _ _ _ _ _ h;have j:((w.setCell (Ad g 0) a).setCell (Ad g 1) b).heap[g]? =some (.cells #[a,b,c] T):=aK _ _ _ _ _ _ i;exact aK _ _ _ _ _ _ j
theorem apS(a:Array jm)(w:jk)(g:Nat)(k:Tk)(b:a[2]? =some (Pt g 0))(h:w.heap[g]? =some (.cells #[Im k.kind,.string k.text,Im k.at'] 249)):
 (results Tryz.f236 a).run prog w=.ok (xY k) w:=by
 have c:=jJ 0 h rfl;have d:=jJ 1 h rfl;have e:=jJ 2 h rfl;simp[results,Tryz.results236,go_sem,b,c,d,e,xY]
theorem anR(h:kH w P s k dp en ea)(t:ji):Calls prog 242 #[Pt P 0,.string t] w λe a=>e=.returned (.bool (k.text.toList==t.toList))/\a=w:=by
 have b:=h.c2;clear h;go_enter func242,ntmps242;go_wp2;go_ret;exact⟨rfl,rfl⟩
theorem apR(h:kH w P s k dp en ea)(i:Nat)(hi:k.at'=i)(I:i+k.text.size<=s.size)(K:s.size<=4000):
 Calls prog 236 #[Pt P 0] w λe b=>e=.returned (xY k)/\kH b P s (Hx.scan s (i+k.text.size)) dp en ea/\w.grownBy b (some P):=by
 have B:=h.c0;have C:=h.c1;have D:=h.c2;have t:=h.c3;have W:=h.lt;rw[hi]at t;have p:¬P=w.heap.size:=by omega
 have X:¬P=w.heap.size+1:=by omega
 have m:=jA (λw=>agN s _ w K I);obtain⟨y,L⟩:∃y,i+k.text.size=y:=⟨_,rfl⟩;have M:(i:Int)+(k.text.size:Int)=(y:Int):=by omega
 rw[L]at m⊢;have g:w.grownBy ((w.alloc (.cells #[Im 0,.string ⟨#[]⟩,Im 0] 249)).alloc (.cells #[Im k.kind,.string k.text,Im i] 249)) none:=(ah w _ none).trans (ah _ _ none);have a:((w.alloc (.cells #[Im 0,.string ⟨#[]⟩,Im 0] 249)).alloc (.cells #[Im k.kind,.string k.text,Im i] 249)).heap[w.heap.size+1]? =some (.cells #[Im k.kind,.string k.text,Im i] 249):=(Ob w _ _).1;have d:((w.alloc (.cells #[Im 0,.string ⟨#[]⟩,Im 0] 249)).alloc (.cells #[Im k.kind,.string k.text,Im i] 249)).heap[w.heap.size]? =some (.cells #[Im 0,.string ⟨#[]⟩,Im 0] 249):=(Ob w _ _).2;have F:∀x:Ext ((w.alloc (.cells #[Im 0,.string ⟨#[]⟩,Im 0] 249)).alloc (.cells #[Im k.kind,.string k.text,Im i] 249)),x.val.cell? (Ad P 0)=some (.string s):=λx=>(h.grow (g.trans x.grown)).c0;have G:∀x:Ext ((w.alloc (.cells #[Im 0,.string ⟨#[]⟩,Im 0] 249)).alloc (.cells #[Im k.kind,.string k.text,Im i] 249)),x.val.cell? (Ad (w.heap.size+1) 1)=some (.string k.text):=λx=>jG ((x.grown.block _ (lT a) (by simp)).trans a);have H:∀x:Ext ((w.alloc (.cells #[Im 0,.string ⟨#[]⟩,Im 0] 249)).alloc (.cells #[Im k.kind,.string k.text,Im i] 249)),x.val.cell? (Ad (w.heap.size+1) 2)=some (Im i):=λx=>jG ((x.grown.block _ (lT a) (by simp)).trans a)
 have r:Hid (∀b,((w.alloc (.cells #[Im 0,.string ⟨#[]⟩,Im 0] 249)).alloc (.cells #[Im k.kind,.string k.text,Im i] 249)).grownBy b none->kH b P s k dp en ea/\w.grownBy b none/\b.heap[w.heap.size+1]? =some (.cells #[Im k.kind,.string k.text,Im i] 249)/\b.heap[w.heap.size]? =some (.cells #[Im 0,.string ⟨#[]⟩,Im 0] 249)):=λb j=>
  ⟨h.grow (g.trans j),g.trans j,(j.block _ (lT a) (by simp)).trans a,(j.block _ (lT d) (by simp)).trans d⟩
 clear g a d h;go_enter func236,ntmps236;go_wp2_with fail;have J:=Qs ((w.alloc (.cells #[Im 0,.string ⟨#[]⟩,Im 0] 249)).alloc (.cells #[Im k.kind,.string k.text,Im i] 249));refine TQ 14 (by kernel_rfl) (by kernel_rfl) ?_;simp only[aC,aO,aG,aQ];repeat (go_big_quiet_step ((go_at_call 140;exact Calls.Vg (m.out _))))
 refine bF ?_;intro b j;obtain⟨l,n,f,c⟩:=r.out b j;have R:=l.c0;have S:=l.c1;have T:=l.c2;have U:=l.c3;have V:=l.fr;have Z:=jJ 0 f rfl;have q1:=jJ 1 f rfl;have q2:=jJ 2 f rfl;have r0:=jJ 0 c rfl;have r1:=jJ 1 c rfl;have r2:=jJ 2 c rfl;have rf:=qV c;have Y:¬w.heap.size+1=P:=by omega
 have q:¬w.heap.size=P:=by omega
 have u:Hid (∀k':Tk,kH ((((((b.setCell (Ad P 1) (Im k'.kind)).setCell (Ad P 2) (.string k'.text)).setCell (Ad P 3) (Im k'.at')).setCell (Ad w.heap.size 0) (Im k.kind)).setCell (Ad w.heap.size 1) (.string k.text)).setCell (Ad w.heap.size 2) (Im i)) P s k' dp en ea/\
  w.grownBy ((((((b.setCell (Ad P 1) (Im k'.kind)).setCell (Ad P 2) (.string k'.text)).setCell (Ad P 3) (Im k'.at')).setCell (Ad w.heap.size 0) (Im k.kind)).setCell (Ad w.heap.size 1) (.string k.text)).setCell (Ad w.heap.size 2) (Im i)) (some P)/\
  ((((((b.setCell (Ad P 1) (Im k'.kind)).setCell (Ad P 2) (.string k'.text)).setCell (Ad P 3) (Im k'.at')).setCell (Ad w.heap.size 0) (Im k.kind)).setCell (Ad w.heap.size 1) (.string k.text)).setCell (Ad w.heap.size 2) (Im i)).heap[w.heap.size]? =some (.cells #[Im k.kind,.string k.text,Im k.at'] 249)):=λk'=>by
  have v:=l.set 1 (Im k'.kind) ⟨k'.kind,k.text,k.at'⟩ dp en ea (by omega) rfl rfl rfl rfl rfl rfl;have z:=v.set 2 (.string k'.text) ⟨k'.kind,k'.text,k.at'⟩ dp en ea (by omega) rfl rfl rfl rfl rfl rfl;have A:=z.set 3 (Im k'.at') k' dp en ea (by omega) rfl rfl rfl rfl rfl rfl;refine⟨((A.pI (mM _ _ _ _) p).pI (mM _ _ _ _) p).pI (mM _ _ _ _) p,?_,?_⟩
  .exact pR (pR (pR (DY (DY (DY (n.but _) _ _) _ _) _ _) (aj _) _ _) (aj _) _ _) (aj _) _ _
  .rw[hi];refine Hy _ _ _ (Im 0) (.string ⟨#[]⟩) (Im 0) _ _ _ ?_;rw[bC _ _ _ _ q,bC _ _ _ _ q,bC _ _ _ _ q];exact c
 clear r j f c F G H B C D t m;generalize o:Hx.scan s y=k' at *;unfold xY;go_wp2_with fail;obtain⟨N,O,Q⟩:=u.out k';refine cu (apS _ _ w.heap.size k rfl Q) rfl ?_;exact⟨rfl,by rw[o];exact N,O⟩
end
section
variable {w:jk}{P:Nat}{s:ji}{k:Tk}{dp en ea:Int}
structure Nj(s:ji)(k:Tk):Prop where
 zA:0<=k.at'
 bd:k.at'.toNat+k.text.size<=s.size
def RX(s:ji)(k:Tk):Tk:=Hx.scan s (k.at'.toNat+k.text.size)
theorem Xk(h:kH w P s k dp en ea)(a:Nj s k)(c:s.size<=4000):
 Calls prog 236 #[Pt P 0] w λe b=>e=.returned (xY k)/\kH b P s (RX s k) dp en ea/\w.grownBy b (some P):=
 apR h k.at'.toNat (by have:=a.zA;omega) a.bd c
def kZ(xs:List Int):Int:=xs.foldl (λa c=>min (a+c) 1000001) 0
theorem auZ(w:jk):Calls prog 143 #[Nl] w λe b=>e=.returned (Im 0)/\b=w:=by
 go_enter func143,ntmps143;go_wp2;go_loop [3,5,8] (λa _ i=>a=Im 0/\i=Im 0) (λ_ _ _=>0)
 case atStart=>exact⟨rfl,rfl⟩
 case round=>
  obtain⟨rfl,rfl⟩:=hrel;go_wp2;go_ret;exact⟨rfl,rfl⟩
theorem ah1(xs:List Int)(k:Nat)(h:k<xs.length)(a:Int):(xs.drop k).foldl (λa c=>min (a+c) 1000001) a=(xs.drop (k+1)).foldl (λa c=>min (a+c) 1000001) (min (a+xs[k]) 1000001):=by
 rw[dA h,bP]
theorem auY(w:jk)(b cap:Nat)(xs:List Int)(p:∀x∈xs,0<=x/\x<=1000001)(C:xs.length<=1000000)(j:∀(i:Nat)(x:Int),xs[i]? =some x->w.cell? (Ad b i)=some (Im x)):
 Calls prog 143 #[.slice (some (Ad b 0)) xs.length cap] w λe u=>e=.returned (Im (kZ xs))/\u=w:=by
 have h:Hid (kZ xs=(xs.drop 0).foldl (λa c=>min (a+c) 1000001) 0):=rfl;generalize o:kZ xs=r at *;clear o;go_enter func143,ntmps143;go_wp2;go_loop [3,5,8] (λa _ i=>∃(k:Nat)(z:Int),k<=xs.length/\0<=z/\z<=1000001/\a=Im z/\i=Im k/\Hid (r=(xs.drop k).foldl (λa c=>min (a+c) 1000001) z)) (λ_ _ i=>xs.length-(intOf i).toNat)
 case atStart=>exact⟨0,0,bD _,by omega,by omega,rfl,rfl,h⟩
 case round=>
  obtain⟨k,z,B,G,H,rfl,rfl,f⟩:=hrel;clear h;by_cases d:k<xs.length
  .have m:decide ((k:Int)<(xs.length:Int))=true:=by simp;omega
   have D:(0:Int)<=(k:Int):=by omega
   have F:(k:Int)<(xs.length:Int):=by omega
   have l:xs[k]? =some xs[k]:=bU d;have v:=j k _ l;have A:=p _ (fG d);have g:=f.out;rw[ah1 xs k d]at g;generalize xs[k]=x at *;have t:Hid (∀y,y=min (z+x) 1000001->r=(xs.drop (k+1)).foldl (λa c=>min (a+c) 1000001) y):=λy q=>by rw[q];exact g
   clear f g l j;generalize xs.length=n at *;go_wp2;all_goals (refine⟨⟨k+1,_,by omega,?_,?_,rfl,by go_num,t.out _ (by omega)⟩,by simp[intOf];omega⟩)
   all_goals omega
  .have m:decide ((k:Int)<(xs.length:Int))=false:=by simp;omega
   have e:r=z:=by rw[f.out,fH (by omega)];rfl
   subst e;clear f;go_wp2;go_ret;exact⟨rfl,rfl⟩
def Dv(w:jk)(v:jm)(xs:List Int):Prop:=
 (∀x∈xs,0<=x/\x<=1000001)/\xs.length<=1000/\((v=Nl/\xs=[])\/∃b cap,v=.slice (some (Ad b 0)) xs.length cap/\∀(i:Nat)(x:Int),xs[i]? =some x->w.cell? (Ad b i)=some (Im x))
theorem Dv.grow{v:jm}{xs:List Int}(h:Dv w v xs){w':jk}(g:w.grownBy w' none):Dv w' v xs:=by
 obtain⟨d,e,c|⟨b,a,c,f⟩⟩:=h
 .exact⟨d,e,jf c⟩
 .exact⟨d,e,je ⟨b,a,c,λi x j=>g.cell (f i x j) (by simp)⟩⟩
theorem Px{v:jm}{xs:List Int}(h:Dv w v xs):Calls prog 143 #[v] w λe f=>e=.returned (Im (kZ xs))/\f=w:=by
 obtain⟨c,g,⟨rfl,rfl⟩|⟨b,a,rfl,d⟩⟩:=h
 .exact auZ w
 .exact auY w b a xs c (by omega) d
theorem xZ(xs:List Int)(b:∀x∈xs,0<=x/\x<=1000001):0<=kZ xs/\kZ xs<=1000001:=by
 have d:∀(xs:List Int)(a:Int),(∀x∈xs,0<=x/\x<=1000001)->0<=a->a<=1000001->0<=xs.foldl (λa c=>min (a+c) 1000001) a/\xs.foldl (λa c=>min (a+c) 1000001) a<=1000001:=by
  intro xs;induction xs with
  |nil=>intro a _ e f;exact⟨e,f⟩
  |cons x xs ih=>
   intro a b e f;have:=b x aW;exact ih _ (λy g=>b y (aI _ g)) (by show 0<=min (a+x) 1000001;omega) (by show min (a+x) 1000001<=1000001;omega)
 exact d xs 0 b (by omega) (by omega)
def jS(xs:List Int):Int:=kZ [1,kZ xs]
theorem aq7(b:Array jm)(w:jk)(g:Nat)(a c:Int)(f:b[4]? =some (Pt g 0))(d:w.cell? (Ad g 0)=some (Im a))(e:w.cell? (Ad g 1)=some (Im c)):
 (results Tryz.f234 b).run prog w=.ok (.agg #[Im a,Im c]) w:=by
 simp[results,Tryz.results234,go_sem,f,d,e]
theorem KT(at':Int)(v:jm)(xs:List Int)(h:Dv w v xs):
 Calls prog 234 #[Im at',v] w λe b=>e=.returned (.agg #[Im at',Im (jS xs)])/\b=(w.alloc (.cells #[Im at',Im (jS xs)] 323)).alloc (.cells #[Im 1,Im (kZ xs)] 3):=by
 have g:Hid (∀o,Calls prog 143 #[v] (w.alloc o) λe b=>e=.returned (Im (kZ xs))/\b=w.alloc o):=λo=>Px (h.grow (ah w o none));have m:=xZ xs h.1;have d:Hid (∀o T t,t=kZ xs->Calls prog 143 #[.slice (some (Ad (w.heap.size+1) 0)) 2 2] ((w.alloc o).alloc (.cells #[Im 1,Im t] T)) λe b=>e=.returned (Im (jS xs))/\b=(w.alloc o).alloc (.cells #[Im 1,Im t] T)):=by
  intro o T t j;subst j;refine Px (xs:=[1,kZ xs]) ⟨λx a=>?_,by simp,je ⟨_,_,rfl,λi x a=>?_⟩⟩
  .simp only[dh,dU,or_false]at a;rcases a with rfl|rfl<;>omega
  .have c:=(Ob w o (.cells #[Im 1,Im (kZ xs)] T)).1;rw[jG c]
   match i,a with
   |0,a=>cases a;rfl
   |1,a=>cases a;rfl
 generalize jS xs=f at *;generalize kZ xs=t at *;clear h;go_enter func234,ntmps234;go_wp2_with fail;refine(g.out _).mono ?_;rintro e l ⟨rfl,rfl⟩;go_wp2_with fail;refine(d.out _ _ _ rfl).mono ?_;rintro e l ⟨rfl,rfl⟩;go_wp2_with fail;have c:=(Ob w (.cells #[Im at',Im f] 323) (.cells #[Im 1,Im t] 3)).2;exact cu (aq7 _ _ w.heap.size at' f rfl (jG c) (jG c)) rfl ⟨rfl,rfl⟩
theorem Aj(at':Int)(v:jm)(xs:List Int)(h:Dv w v xs):
 Calls prog 234 #[Im at',v] w λe c=>e=.returned (.agg #[Im at',Im (jS xs)])/\w.grownBy c none:=
 (KT at' v xs h).mono λ_ _ ⟨a,b⟩=>⟨a,by rw[b];exact(ah w _ none).trans (ah _ _ none)⟩
theorem uq(b o:Nat)(c:Int)(h:w.cell? (Ad b (o+1))=some (Im c)):Calls prog 244 #[Pt b o] w λe a=>e=.returned (Im c)/\a=w:=by
 go_enter func244,ntmps244;go_wp2;go_ret;exact⟨rfl,rfl⟩
theorem anS(h:kH w P s k dp en ea)(l:List UInt8)(b:Bool)(a:(k.text.toList==l)=b):Calls prog 242 #[Pt P 0,.string ⟨l.toArray⟩] w λe c=>e=.returned (.bool b)/\c=w:=by
 have:=anR h ⟨l.toArray⟩;rw[show(⟨l.toArray⟩:ji).toList=l from ByteArray.toList_mk l,a]at this;exact this
def setOf(u:List UInt8):Option Int:=if u==[82,79,65,68,83]then some 3 else if u==[70,82,69,83,72]||u==[65,71,65,73,78]then some 4 else none
theorem acD(at':Int)(x:Ext w):Calls prog 234 #[Im at',Nl] x.val λe a=>e=.returned (.agg #[Im at',Im 1])/\∃y:Ext w,a=y.val:=
 Calls.Vg (Aj at' (Nl) [] ⟨λ_ h=>(dU h).elim,by simp,jf ⟨rfl,rfl⟩⟩)
theorem NS(a c:Int)(b:ji)(w:jk):(Instr.field 249 (.agg #[Im a,.string b,Im c]) 1).run prog w=.ok (.string b) w:=by kernel_rfl
theorem NR(a c:Int)(b:ji)(w:jk):(Instr.field 249 (.agg #[Im a,.string b,Im c]) 2).run prog w=.ok (Im c) w:=by kernel_rfl
theorem QA(w:jk)(a b c d:Obj):((((w.alloc a).alloc b).alloc c).alloc d).drew.heap[w.heap.size+1+1+1]? =some d/\w.grownBy ((((w.alloc a).alloc b).alloc c).alloc d).drew none:=by
 constructor
 .have e:((((w.alloc a).alloc b).alloc c).alloc d).drew.heap=(((w.heap.push a).push b).push c).push d:=rfl;rw[e,eH,jh (by simp)]
 .exact(ah w a none).trans ((ah _ b none).trans ((ah _ c none).trans ((ah _ d none).trans ⟨rfl,rfl,rfl,aj _,λ_ _ _=>rfl⟩)))
end
section
variable {w:jk}{P:Nat}{s:ji}{k k':Tk}{dp en ea:Int}{E:jk->Nat->jm->Prop}
def Reads(fn:FuncId)(more:List jm)(P:Nat)(s:ji)(k k':Tk)(dp en ea:Int)(E:jk->Nat->jm->Prop):Prop:=
 ∀x:jk,kH x P s k dp en ea->Calls prog fn (Pt P 0::more).toArray x λe w'=>∃v,e=.returned v/\E w' x.heap.size v/\kH w' P s k' dp en ea/\x.grownBy w' (some P)
def aaU(at' n:Int)(w:jk)(B:Nat)(v:jm):Prop:=
 ∃A,v=.iface 405 (Pt A 0)/\B<=A/\w.heap[A]? =some (.cells #[Im at',Im 1,Im 1,Im n] 407)
theorem al4(w:jk)(e:jo)(t:ji):w.grownBy (Lib.bytesWorld w e t) none:=⟨rfl,rfl,rfl,by rw[Lib.bytesWorld_size];omega,λj a _=>Lib.bytesWorld_at_old w e t j a⟩
theorem ap4(G:s.size<=4000)(D:Nj s k)(n:Int)(j:k.text.size<=18)(u:Lib.atoi k.text.data.toList=some n)(g:RX s k=k'):
 Reads 273 [] P s k k' dp en ea (aaU k.at' n):=by
 intro w h;have q:Hid (Calls prog 236 #[Pt P 0] w λe d=>e=.returned (xY k)/\kH d P s k' dp en ea/\w.grownBy d (some P)):=by
  rw[<-g];exact Xk h D G
 have p:Hid (∀w,Calls prog 276 #[.string k.text] w λe d=>e=.returned (.tuple #[Im n,.nilIface])/\w.grownBy d none):=λw=>by
  refine(Tryz.strconv_Atoi k.text n j u w).mono ?_;rintro e d ⟨C,t,rfl⟩;exact⟨C,al4 _ _ _⟩
 clear h u;go_enter func273,ntmps273;go_wp2_with fail;refine q.out.mono ?_;rintro e z ⟨rfl,x,y⟩;have l:=jA (jd x y);clear x y q;unfold xY;go_wp2_with fail;refine(p.out _).mono ?_;rintro e H ⟨rfl,f⟩;have c:=(f.block _ (by simp) (by simp)).trans (aY z _);have B:=jJ 2 c rfl;have b:=jA ((ah z _ none).trans f);clear c f p;go_wp2_with fail;refine(Aj k.at' (Nl) [] ⟨λ_ h=>(dU h).elim,by simp,jf ⟨rfl,rfl⟩⟩).mono ?_;rintro e a ⟨rfl,r⟩;have m:=jA (b.out.trans r);have i:jS []=1:=by decide
 rw[i];clear r b B;have A:Hid (∀o,o=Obj.cells #[Im k.at',Im 1,Im 1,Im n] 407->aaU k.at' n (a.alloc o) w.heap.size (.iface 405 (Pt a.heap.size 0))/\kH (a.alloc o) P s k' dp en ea/\w.grownBy (a.alloc o) (some P)):=by
  intro o F;subst F;have v:=m.out.trans (ah a (Obj.cells #[Im k.at',Im 1,Im 1,Im n] 407) none);exact⟨⟨a.heap.size,rfl,by have:=l.out.2.size;have:=m.out.size;omega,aY _ _⟩,l.out.1.grow v,l.out.2.trans (v.but _)⟩
 go_wp2_with fail;go_ret;exact⟨_,rfl,A.out _ rfl⟩
theorem asg(h:kH w P s k dp en ea)(j:s.size<=4000)(i:Nj s k)(c:Int)(l:1<k.text.size)(p:(k.text[1].toNat:Int)=48+c)(n:0<=c)(o:c<=7):
 Calls prog 235 #[Pt P 0] w λe f=>e=.returned (Im c)/\kH f P s (RX s k) dp en ea/\w.grownBy f (some P):=by
 have a:=jA (Xk h i j);have g:=NS k.kind k.at' k.text;have q:(1:Int)<(k.text.size:Int):=by omega
 clear h;go_enter func235,ntmps235;go_wp2_with fail;refine a.out.mono ?_;rintro e r ⟨rfl,b,d⟩;have m:=jA (jd b d);clear b d a;unfold xY;go_wp2_with fail;go_ret;exact⟨zI (by omega),m.out⟩
theorem Xw(w:jk)(T:jo)(c:Int)(b:0<=c)(d:c<=1000001):Dv (w.alloc (.cells #[Im c] T)) (.slice (some (Ad w.heap.size 0)) 1 1) [c]:=by
 refine⟨by simp;omega,by simp,je ⟨_,_,rfl,λi y a=>?_⟩⟩
 match i,a with
 |0,a=>
  cases a;exact jG (aY w _)
theorem Jw(w:jk)(T:jo)(c d:Int)(b:0<=c)(e:c<=1000001)(f:0<=d)(g:d<=1000001):Dv (w.alloc (.cells #[Im c,Im d] T)) (.slice (some (Ad w.heap.size 0)) 2 2) [c,d]:=by
 refine⟨by simp;omega,by simp,je ⟨_,_,rfl,λi y a=>?_⟩⟩
 match i,a with
 |0,a=>cases a;exact jG (aY w _)
 |1,a=>cases a;exact jG (aY w _)
end
section
variable {w:jk}{P:Nat}{s:ji}{k k':Tk}{dp en ea:Int}{E E1 E2:jk->Nat->jm->Prop}
theorem anE:(prog.info? 192).map (λi=>(i.zero,i.size,i.bytes))=some (some .nilIface,1,16):=by kernel_rfl
end
end
end Go.Proofs.YthllhabjfchgiaaGreatDoor
