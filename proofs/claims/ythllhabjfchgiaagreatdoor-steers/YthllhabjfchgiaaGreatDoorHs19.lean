import Derived.Test.YthllhabjfchgiaaGreatDoorHs18
import Derived.Laws.BytesArg
set_option maxRecDepth 100000
set_option maxHeartbeats 8000000
set_option linter.unusedSimpArgs false
namespace Go.Proofs.YthllhabjfchgiaaGreatDoor
open _root_.Go.Proofs.Tryz
section
abbrev aZ:=@Go.ByteArray.toList_eq
abbrev fP:=@Go.RowKit.Below.heap_alloc
end
namespace Hx
open Go.RowKit
structure Ps where
 k:Tk
 dp:Int
 en:Int
 ea:Int
def Gv(k:Tk):Tk:=⟨0,⟨#[]⟩,k.at'⟩
def Ps.fail(p:Ps):Ps:=⟨Gv p.k,p.dp,if p.en=0 then 1 else p.en,if p.en=0 then p.k.at' else p.ea⟩
def Ps.is(p:Ps)(t:List UInt8):Bool:=p.k.text.data.toList==t
def Ps.next(s:ji)(p:Ps):Ps:={p with k:=RX s p.k}
def Ps.expect(s:ji)(t:List UInt8)(p:Ps):Ps:=if p.is t then p.next s else p.fail
def Ps.IE(p:Ps):Ps:={p with dp:=wrap64 (p.dp+1)}
def Ps.VR(p:Ps):Ps:={p with dp:=wrap64 (p.dp-1)}
def Ps.ku(s:ji)(t:List UInt8)(p:Ps):Ps:=if p.dp=20 then p.fail else (p.expect s t).IE
def Ps.close(s:ji)(t:List UInt8)(p:Ps):Ps:=(p.expect s t).VR
structure Wd where
 text:ji
 at':Int
def Ps.name(s:ji)(p:Ps):Wd×Ps:=if p.k.kind=2 then (⟨p.k.text,p.k.at'⟩,p.next s)else (⟨⟨#[]⟩,0⟩,p.fail)
structure aa0(k:Tk):Prop where
 number:k.kind=3->1<=k.text.size/\k.text.size<=18/\∀b∈k.text.data.toList,vY b.toNat=true
 register:k.kind=4->∃x:UInt8,k.text.data.toList=[82,x]/\48<=x.toNat/\x.toNat<=55
 name:k.kind=2->1<=k.text.size
theorem acC(s:ji)(k n:Nat):(s.extract k (k+n)).data.toList=(s.data.toList.drop k).take n:=by
 rw[ByteArray.data_extract,Array.toList_extract,List.extract_eq_take_drop]
 congr 1
 omega
theorem auV(p:Int->Bool)(l:List UInt8):∀b∈l.take (span p l),p b.toNat=true:=by
 intro b a;have h:l.take (span p l)=l.takeWhile λc=>p c.toNat:=((List.prefix_iff_eq_take.1 (List.takeWhile_prefix _)).symm);rw[h]at a;exact List.all_eq_true.1 (List.all_takeWhile (l:=l) (p:=λc=>p c.toNat)) b a
theorem agO(s:ji)(i:Nat)(hi:i<=s.size):aa0 (scan s i):=by
 have x:=Yc D9 (s.data.toList.drop i);have g:(s.data.toList.drop i).length=s.size-i:=by rw[fA,eX];rfl
 rw[g]at x;unfold scan;generalize span D9 (s.data.toList.drop i)=n at *;unfold Jp;split
 .exact⟨λh=>jl h (by simp),λh=>jl h (by simp),λh=>jl h (by simp)⟩
 rename_i G;have I:(s.extract (i+n) s.size).size=s.size-(i+n):=by rw[iq];omega
 have y:(s.extract (i+n) s.size).data.toList=s.data.toList.drop (i+n):=by
  have:=acC s (i+n) (s.size-(i+n));rw[show i+n+(s.size-(i+n))=s.size by omega]at this;rw[this,eU];rw[fA,eX];exact aj _
 obtain⟨L,C⟩:=UL (s.extract (i+n) s.size) (by omega);rw[I]at C;have j:∀m:Nat,(m:Int)=(uX (s.extract (i+n) s.size)).2->(s.extract (i+n) (i+n+(uX (s.extract (i+n) s.size)).2.toNat)).data.toList=(s.extract (i+n) s.size).data.toList.take m:=by
  intro m F;rw[y,<-F];exact acC s (i+n) m
 have k:(s.extract (i+n) (i+n+(uX (s.extract (i+n) s.size)).2.toNat)).size=(uX (s.extract (i+n) s.size)).2.toNat:=by rw[iq];omega
 generalize s.extract (i+n) s.size=t at *;have H:1<=t.size:=by omega
 generalize s.extract (i+n) (i+n+(uX t).2.toNat)=u at *;clear y x g;unfold uX P8 at *;constructor
 .intro h3;simp only at h3⊢;split at h3
  .unfold DN FV at h3;split at h3
   .cases h3
   .split at h3<;>cases h3
  split at h3
  .rename_i o d;rw[jg o,jh d]at j k;unfold DL numberOf at *;split at h3
   .cases h3
   .rename_i v;rw[jg v]at j k;have e:=j (1+span vY (t.data.toList.drop 1)) rfl;refine⟨by rw[k];simp only;omega,by rw[k];simp only;omega,?_⟩;rw[e];intro b f;cases g:t.data.toList with
    |nil=>rw[g]at f;simp at f
    |cons a r=>
     rw[g]at f d;rw[Nat.add_comm,aC]at f;rcases dh.1 f with rfl|f
     .exact d
     .exact auV vY r b (by simpa using f)
  split at h3
  .unfold AZ at h3;repeat' split at h3
   all_goals cases h3
  .unfold Cj at h3;repeat' split at h3
   all_goals cases h3
 .intro h4;simp only at h4⊢;split at h4
  .unfold DN FV at h4;split at h4
   .cases h4
   .split at h4<;>cases h4
  split at h4
  .unfold DL numberOf at h4;split at h4<;>cases h4
  split at h4
  .rename_i o d l;rw[jg o,jg d,jh l]at j;unfold AZ at *;split at h4
   .rename_i q;rw[jh q]at j;have e:=j 2 rfl;rw[e];simp only[dD,decide_eq_true_eq,Fq,beq_iff_eq]at q;obtain⟨M,⟨z,A⟩,B⟩:=q;have c:t.data.toList.length=t.size:=by rw[eX];rfl
    match g:t.data.toList,c with
    |[],c=>simp at c;omega
    |[_],c=>simp at c;omega
    |a::b::r,_=>
     rw[g]at z A B;simp only[iR,iT]at z A B;refine⟨b,?_,by omega,by omega⟩;have D:(82:UInt8).toNat=82:=rfl;have E:a=82:=UInt8.toNat_inj.1 (by omega);rw[E]
     rfl
   .repeat' split at h4
    all_goals cases h4
  .unfold Cj at h4;repeat' split at h4
   all_goals cases h4
 .intro h2;simp only at h2⊢;rw[k];split at h2
  .rename_i o;rw[jh o];unfold DN FV at *;split at h2
   .cases h2
   .split at h2
    .cases h2
    .rename_i J K;rw[jg J,jg K];simp only;omega
  split at h2
  .unfold DL numberOf at h2;split at h2<;>cases h2
  split at h2
  .unfold AZ at h2;repeat' split at h2
   all_goals cases h2
  .unfold Cj at h2;repeat' split at h2
   all_goals cases h2
structure Ps.Ok(s:ji)(p:Ps):Prop where
 tok:Nj s p.k
 dp:jK p.dp
 kinds:aa0 p.k
theorem ack:(⟨#[]⟩:ji).size=0:=rfl
theorem XY(s:ji)(i:Nat)(hi:i<=s.size):Nj s (scan s i)/\(i:Int)<=(scan s i).at':=by
 have b:=Yc D9 (s.data.toList.drop i);have c:(s.data.toList.drop i).length=s.size-i:=by rw[fA,eX];rfl
 rw[c]at b;unfold scan;generalize span D9 (s.data.toList.drop i)=n at *;unfold Jp;split
 .rename_i h;exact⟨⟨by simp only;omega,by simp only[ack];omega⟩,by simp only;omega⟩
 .rename_i h;have d:(s.extract (i+n) s.size).size=s.size-(i+n):=by rw[iq];omega
  obtain⟨e,a⟩:=UL (s.extract (i+n) s.size) (by omega);rw[d]at a;refine⟨⟨by simp only;omega,?_⟩,by simp only;omega⟩;simp only[iq];omega
theorem Ps.Ok.next{s:ji}{p:Ps}(h:p.Ok s):(p.next s).Ok s:=⟨(XY s _ h.tok.bd).1,h.dp,agO s _ h.tok.bd⟩
theorem Ps.Ok.fail{s:ji}{p:Ps}(h:p.Ok s):p.fail.Ok s:=⟨⟨h.tok.zA,by have:=h.tok.bd;simp only[Ps.fail,Gv,ack];omega⟩,h.dp,⟨λh=>jl h (by simp[Ps.fail,Gv]),λh=>jl h (by simp[Ps.fail,Gv]),λh=>jl h (by simp[Ps.fail,Gv])⟩⟩
theorem Ps.Ok.expect{s:ji}{p:Ps}(h:p.Ok s)(t:List UInt8):(p.expect s t).Ok s:=by
 unfold Ps.expect;split
 .exact h.next
 .exact h.fail
theorem Wi(n:Int):jK (wrap64 n):=by unfold jK wrap64;omega
theorem Ps.Ok.ku{s:ji}{p:Ps}(h:p.Ok s)(t:List UInt8):(p.ku s t).Ok s:=by
 unfold Ps.ku;split
 .exact h.fail
 .exact⟨(h.expect t).tok,Wi _,(h.expect t).kinds⟩
theorem Ps.Ok.close{s:ji}{p:Ps}(h:p.Ok s)(t:List UInt8):(p.close s t).Ok s:=⟨(h.expect t).tok,Wi _,(h.expect t).kinds⟩
theorem Ps.Ok.name{s:ji}{p:Ps}(h:p.Ok s):(p.name s).2.Ok s:=by
 unfold Ps.name;split
 .exact h.next
 .exact h.fail
end Hx
section
open Go.RowKit
open Hx (Tk Ps Wd Gv)
attribute [local go_sem ↓] Go.wp_at_zero Go.wp_at_succ
attribute [local go_sem] kN
section
def jR(w:jk)(P:Nat)(s:ji)(p:Ps):Prop:=kH w P s p.k p.dp p.en p.ea
def qN(P:Nat)(s:ji)(w:jk)(v:jm)(p:Ps)(e:Ending)(w':jk):Prop:=e=.returned v/\jR w' P s p/\w.grownBy w' (some P)
variable {w:jk}{P:Nat}{s:ji}{p:Ps}
theorem jR.lt(h:jR w P s p):P<w.heap.size:=kH.lt h
theorem jR.grow(h:jR w P s p){w':jk}(a:w.grownBy w' none):jR w' P s p:=kH.grow h a
theorem EX(h:jR w P s p):Calls prog 142 #[Pt P 0] w (qN P s w (.tuple #[]) p.fail):=by
 obtain⟨k,b,e,j⟩:=p;have h:=h;have l:=jA h;have v:=h.c1;have x:=h.c2;have y:=h.c3;have z:=h.c5;have A:=h.c6;have B:=h.fr;have n:∀(d:jk)(a c:Int),kH d P s k b a c->w.grownBy d (some P)->kH (((d.setCell (Ad P 1) (Im 0)).setCell (Ad P 2) (.string ⟨#[]⟩)).setCell (Ad P 3) (Im k.at')) P s (Gv k) b a c/\w.grownBy (((d.setCell (Ad P 1) (Im 0)).setCell (Ad P 2) (.string ⟨#[]⟩)).setCell (Ad P 3) (Im k.at')) (some P):=λd a c r t=>by
  have g:=r.set 1 (Im 0) ⟨0,k.text,k.at'⟩ b a c (by omega) rfl rfl rfl rfl rfl rfl;have i:=g.set 2 (.string ⟨#[]⟩) ⟨0,⟨#[]⟩,k.at'⟩ b a c (by omega) rfl rfl rfl rfl rfl rfl;have q:=i.set 3 (Im k.at') ⟨0,⟨#[]⟩,k.at'⟩ b a c (by omega) rfl rfl rfl rfl rfl rfl;exact⟨q,DY (DY (DY t _ _) _ _) _ _⟩
 have m:=jA n;clear n h;by_cases f:e=0
 .subst f;go_enter func142,ntmps142;go_wp2;go_end0;have g:=l.out.set 5 (Im 1) k b 1 j (by omega) rfl rfl rfl rfl rfl rfl;have i:=g.set 6 (Im k.at') k b 1 k.at' (by omega) rfl rfl rfl rfl rfl rfl;exact⟨rfl,m.out _ _ _ i (DY (DY (aN w (some P)) _ _) _ _)⟩
 .have u:(e==0)=false:=by simp[f]
  have o:(⟨k,b,e,j⟩:Ps).fail=⟨Gv k,b,e,j⟩:=by simp[Hx.Ps.fail,f]
  rw[o];clear f o;go_enter func142,ntmps142;go_wp2;go_end0;exact⟨rfl,m.out _ _ _ l.out (aN w (some P))⟩
theorem I5(h:jR w P s p)(l:List UInt8):Calls prog 242 #[Pt P 0,.string ⟨l.toArray⟩] w λe a=>e=.returned (.bool (p.is l))/\a=w:=
 anS h l _ (by rw[aZ];rfl)
theorem xQ(h:jR w P s p)(b:p.Ok s)(a:s.size<=4000):Calls prog 236 #[Pt P 0] w (qN P s w (xY p.k) (p.next s)):=Xk h b.tok a
theorem EW(h:jR w P s p)(n:p.Ok s)(m:s.size<=4000)(l:List UInt8):
 Calls prog 239 #[Pt P 0,.string ⟨l.toArray⟩] w (qN P s w (.tuple #[]) (p.expect s l)):=by
 have d:=jA (I5 h l);have i:=jA (xQ h n m);have g:=jA (EX h);have f:Hid (p.expect s l=if p.is l then p.next s else p.fail):=rfl;generalize p.expect s l=q at *;generalize p.fail=o at *;generalize p.next s=r at *;generalize p.is l=b at *;generalize ByteArray.mk l.toArray=t at *;clear h n m;cases b with
 |true=>
  have k:q=r:=by simpa using f.out
  subst k;clear f g;go_enter func239,ntmps239;go_wp2_with fail;refine d.out.mono ?_;rintro e u ⟨rfl,rfl⟩;go_wp2_with fail;refine i.out.mono ?_;rintro e v ⟨rfl,a,c⟩;have j:=jA (jd a c);clear a c i d;go_wp2_with fail;go_end0;exact⟨rfl,j.out⟩
 |false=>
  have k:q=o:=by simpa using f.out
  subst k;clear f i;go_enter func239,ntmps239;go_wp2_with fail;refine d.out.mono ?_;rintro e u ⟨rfl,rfl⟩;go_wp2_with fail;refine g.out.mono ?_;rintro e v ⟨rfl,a,c⟩;have j:=jA (jd a c);clear a c g d;go_wp2_with fail;go_end0;exact⟨rfl,j.out⟩
theorem O4(h:jR w P s p)(v:p.Ok s)(u:s.size<=4000)(l:List UInt8):
 Calls prog 237 #[Pt P 0,.string ⟨l.toArray⟩] w (qN P s w (.tuple #[]) (p.ku s l)):=by
 have A:=kH.c4 h;have m:=jA (EW h v u l);have j:=jA (EX h);have a:(p.expect s l).dp=p.dp:=by unfold Hx.Ps.expect;split<;>rfl
 have i:Hid (p.ku s l=if p.dp=20 then p.fail else (p.expect s l).IE):=rfl;generalize p.ku s l=q at *;generalize p.fail=z at *;generalize p.expect s l=g at *;generalize p.dp=c at *;generalize ByteArray.mk l.toArray=t at *;clear h v u;by_cases f:c=20
 .have o:q=z:=by simpa [f]using i.out
  subst o f;clear i m a;go_enter func237,ntmps237;go_wp2_with fail;refine j.out.mono ?_;rintro e r ⟨rfl,b,d⟩;have n:=jA (jd b d);clear b d j;go_wp2_with fail;go_end0;exact⟨rfl,n.out⟩
 .have o:q=g.IE:=by simpa [f]using i.out
  subst o;have C:(c==20)=false:=by simp[f]
  clear i j f;go_enter func237,ntmps237;go_wp2_with fail;refine m.out.mono ?_;rintro e r ⟨rfl,b,d⟩;have y:=kH.c4 b;rw[a]at y;have B:=kH.fr b;have n:Hid (jR (r.setCell (Ad P 4) (Im (wrap64 (c+1)))) P s g.IE/\w.grownBy (r.setCell (Ad P 4) (Im (wrap64 (c+1)))) (some P)):=by
   refine⟨?_,DY d _ _⟩;have x:=kH.set b 4 (Im (wrap64 (c+1))) g.k (wrap64 (c+1)) g.en g.ea (by omega) rfl rfl rfl rfl rfl rfl;unfold jR Hx.Ps.IE;rw[a];exact x
  clear b d m a;go_wp2_with fail;go_end0;exact⟨rfl,n.out⟩
theorem NG(h:jR w P s p)(i:p.Ok s)(g:s.size<=4000)(l:List UInt8):
 Calls prog 240 #[Pt P 0,.string ⟨l.toArray⟩] w (qN P s w (.tuple #[]) (p.close s l)):=by
 have c:=jA (EW h i g l);have f:p.close s l=(p.expect s l).VR:=rfl;rw[f];clear f;generalize p.expect s l=a at *;generalize ByteArray.mk l.toArray=t at *;clear h i g;go_enter func240,ntmps240;go_wp2_with fail;refine c.out.mono ?_;rintro e j ⟨rfl,b,d⟩;have n:=kH.c4 b;have o:=kH.fr b;have m:Hid (jR (j.setCell (Ad P 4) (Im (wrap64 (a.dp-1)))) P s a.VR/\w.grownBy (j.setCell (Ad P 4) (Im (wrap64 (a.dp-1)))) (some P)):=
  ⟨kH.set b 4 (Im (wrap64 (a.dp-1))) a.k (wrap64 (a.dp-1)) a.en a.ea (by omega) rfl rfl rfl rfl rfl rfl,DY d _ _⟩
 clear b d c;go_wp2_with fail;go_end0;exact⟨rfl,m.out⟩
def TN(d:Wd):jm:=.agg #[.string d.text,Im d.at']
theorem aeZ(a:Array jm)(w:jk)(g:Nat)(d:Wd)(b:a[2]? =some (Pt g 0))(h:w.heap[g]? =some (.cells #[.string d.text,Im d.at'] 316)):
 (results Tryz.f232 a).run prog w=.ok (TN d) w:=by
 have c:=jJ 0 h rfl;have e:=jJ 1 h rfl;simp[results,Tryz.results232,go_sem,b,c,e,TN]
theorem Ei(w:jk)(g:Nat)(T:jo)(d b a c:jm)(h:w.heap[g]? =some (.cells #[d,b] T)):
 ((w.setCell (Ad g 0) a).setCell (Ad g 1) c).heap[g]? =some (.cells #[a,c] T):=by
 have e:(w.setCell (Ad g 0) a).heap[g]? =some (.cells #[a,b] T):=aK _ _ _ _ _ _ h;exact aK _ _ _ _ _ _ e
theorem jR.Ej(h:jR w P s p){g:Nat}(a:P≠g)(j:Nat)(v:jm):jR (w.setCell (Ad g j) v) P s p:=kH.pI h (mM w g j v) a
theorem KR(h:jR w P s p)(K:p.Ok s)(H:s.size<=4000):Calls prog 232 #[Pt P 0] w (qN P s w (TN (p.name s).1) (p.name s).2):=by
 have a:P≠w.heap.size:=by have:=h.lt;omega
 have x:w.grownBy (w.alloc (.cells #[.string ⟨#[]⟩,Im 0] 316)) none:=ah w _ none;have y:=h.grow x;have d:(w.alloc (.cells #[.string ⟨#[]⟩,Im 0] 316)).heap[w.heap.size]? =some (.cells #[.string ⟨#[]⟩,Im 0] 316):=aY w _;have E:=kH.c1 h;have u:=jA (EX y);have o:=jA (xQ y K H);have n:Hid (∀b,(w.alloc (.cells #[.string ⟨#[]⟩,Im 0] 316)).grownBy b (some P)->b.heap[w.heap.size]? =some (.cells #[.string ⟨#[]⟩,Im 0] 316)/\w.grownBy b (some P)):=λb C=>
  ⟨(C.block _ (lT d) (by simpa using Ne.symm a)).trans d,(x.but _).trans C⟩
 have G:=h.lt;have S:=a;have T:¬w.heap.size=P:=λe=>a e.symm;clear h y d x;by_cases f:p.k.kind=2
 .have i:p.name s=(⟨p.k.text,p.k.at'⟩,p.next s):=by unfold Hx.Ps.name;rw[jh f]
  rw[i];rw[f]at E;have m:xY p.k=.agg #[Im p.k.kind,.string p.k.text,Im p.k.at']:=rfl;rw[m]at o;clear i m u f;generalize p.k.kind=J at *;generalize p.k.text=r at *;generalize p.k.at'=q at *;generalize p.next s=D at *;go_enter func232,ntmps232;go_wp2_with fail;refine o.out.mono ?_;rintro e b ⟨rfl,j,l⟩;obtain⟨c,g⟩:=n.out b l;have L:=jJ 0 c rfl;have M:=jJ 1 c rfl;have N:=qV c;have I:=lT c;have U:¬w.heap.size=b.heap.size:=by omega
  have v:=jA (jd j (jd g c));clear j l c g o n;go_wp2_with fail;obtain⟨z,A,B⟩:=v.out;have t:=Ei b w.heap.size _ _ _ (.string r) (Im q) B;have Q:w.grownBy ((b.setCell (Ad w.heap.size 0) (.string r)).setCell (Ad w.heap.size 1) (Im q)) (some P):=pR (pR A (aj _) _ _) (aj _) _ _;have O:jR ((b.setCell (Ad w.heap.size 0) (.string r)).setCell (Ad w.heap.size 1) (Im q)) P s D:=(z.Ej a _ _).Ej a _ _;refine cu (aeZ _ _ w.heap.size ⟨r,q⟩ rfl ((fP _ _ _ (lT t)).trans t)) rfl ⟨rfl,O.grow (ah _ _ none),Q.trans ((ah _ _ none).but _)⟩
 .have i:p.name s=(⟨⟨#[]⟩,0⟩,p.fail):=by unfold Hx.Ps.name;rw[jg f]
  rw[i];have R:(p.k.kind==2)=false:=by simp[f]
  have F:(p.k.kind !=2)=true:=by simp[f]
  clear i o f;generalize p.k.kind=J at *;generalize p.fail=D at *;go_enter func232,ntmps232;go_wp2_with fail;refine u.out.mono ?_;rintro e b ⟨rfl,j,l⟩;obtain⟨c,g⟩:=n.out b l;have L:=jJ 0 c rfl;have M:=jJ 1 c rfl;have N:=qV c;have v:=jA (jd j (jd g c));clear j l c g u n;go_wp2_with fail;obtain⟨z,A,B⟩:=v.out;have t:=Ei b w.heap.size _ _ _ (.string ⟨#[]⟩) (Im 0) B;refine cu (aeZ _ _ w.heap.size ⟨⟨#[]⟩,0⟩ rfl t) rfl ⟨rfl,(z.Ej a _ _).Ej a _ _,pR (pR A (aj _) _ _) (aj _) _ _⟩
end
end
namespace Hx
def pX(u:List UInt8):Int:=if u==[124,124]then 0 else if u==[38,38]then 1 else if u==[61,61]then 2 else if u==[33,61]then 2 else if u==[60]then 3 else if u==[60,61]then 3 else if u==[62]then 3 else if u==[62,61]then 3 else if u==[43]then 4 else if u==[45]then 4 else if u==[42]then 5 else if u==[47]then 5 else if u==[37]then 5 else 6
def mJ(u:List UInt8):Int×Int:=if u==[124,124]then (2,2)else if u==[38,38]then (2,2)else if u==[61,61]then (0,2)else if u==[33,61]then (0,2)else if u==[60]then (1,2)else if u==[60,61]then (1,2)else if u==[62]then (1,2)else if u==[62,61]then (1,2)else (1,1)
def kY(u:List UInt8):Int×Int:=if u==[105,100]then (3,1)else if u==[114,116,116]then (3,1)else if u==[99,119,110,100]then (3,1)else if u==[111,117,116]then (3,1)else if u==[108,111,115,115,121]then (3,2)else if u==[115,101,113]then (4,1)else if u==[115,105,122,101]then (4,1)else (0,0)
def pU(u:List UInt8):Int:=if u==[105,100]then 28 else if u==[114,116,116]then 29 else if u==[99,119,110,100]then 30 else if u==[111,117,116]then 31 else if u==[108,111,115,115,121]then 32 else if u==[115,101,113]then 33 else 34
def vH(u:List UInt8):Int:=if u==[43]then 10 else if u==[45]then 11 else if u==[42]then 12 else if u==[47]then 13 else if u==[37]then 14 else if u==[60]then 15 else if u==[60,61]then 16 else if u==[61,61]then 17 else if u==[33,61]then 18 else if u==[38,38]then 19 else 20
end Hx
section
open Go.RowKit Hx
theorem aeh(t:ji)(w:jk):Calls prog 266 #[.string t] w λe o=>e=.returned (Im (pX t.data.toList))/\o=w:=by
 rw[<-aZ];cases a:(t.toList==[124,124])with
 |true=>
  go_enter func266,ntmps266;go_wp2;go_ret;exact⟨by simp[pX,a],rfl⟩
 |false=>
  cases b:(t.toList==[38,38])with
  |true=>
   go_enter func266,ntmps266;go_wp2;go_ret;exact⟨by simp[pX,a,b],rfl⟩
  |false=>
   cases c:(t.toList==[61,61])with
   |true=>
    go_enter func266,ntmps266;go_wp2;go_ret;exact⟨by simp[pX,a,b,c],rfl⟩
   |false=>
    cases d:(t.toList==[33,61])with
    |true=>
     go_enter func266,ntmps266;go_wp2;go_ret;exact⟨by simp[pX,a,b,c,d],rfl⟩
    |false=>
     cases f:(t.toList==[60])with
     |true=>
      go_enter func266,ntmps266;go_wp2;go_ret;exact⟨by simp[pX,a,b,c,d,f],rfl⟩
     |false=>
      cases h:(t.toList==[60,61])with
      |true=>
       go_enter func266,ntmps266;go_wp2;go_ret;exact⟨by simp[pX,a,b,c,d,f,h],rfl⟩
      |false=>
       cases i:(t.toList==[62])with
       |true=>
        go_enter func266,ntmps266;go_wp2;go_ret;exact⟨by simp[pX,a,b,c,d,f,h,i],rfl⟩
       |false=>
        cases k:(t.toList==[62,61])with
        |true=>
         go_enter func266,ntmps266;go_wp2;go_ret;exact⟨by simp[pX,a,b,c,d,f,h,i,k],rfl⟩
        |false=>
         cases l:(t.toList==[43])with
         |true=>
          go_enter func266,ntmps266;go_wp2;go_ret;exact⟨by simp[pX,a,b,c,d,f,h,i,k,l],rfl⟩
         |false=>
          cases n:(t.toList==[45])with
          |true=>
           go_enter func266,ntmps266;go_wp2;go_ret;exact⟨by simp[pX,a,b,c,d,f,h,i,k,l,n],rfl⟩
          |false=>
           cases g:(t.toList==[42])with
           |true=>
            go_enter func266,ntmps266;go_wp2;go_ret;exact⟨by simp[pX,a,b,c,d,f,h,i,k,l,n,g],rfl⟩
           |false=>
            cases j:(t.toList==[47])with
            |true=>
             go_enter func266,ntmps266;go_wp2;go_ret;exact⟨by simp[pX,a,b,c,d,f,h,i,k,l,n,g,j],rfl⟩
            |false=>
             cases m:(t.toList==[37])with
             |true=>
              go_enter func266,ntmps266;go_wp2;go_ret;exact⟨by simp[pX,a,b,c,d,f,h,i,k,l,n,g,j,m],rfl⟩
             |false=>
              go_enter func266,ntmps266;go_wp2;go_ret;exact⟨by simp[pX,a,b,c,d,f,h,i,k,l,n,g,j,m],rfl⟩
theorem ahb(t:ji)(w:jk):Calls prog 267 #[.string t] w λe j=>e=.returned (.tuple #[Im (mJ t.data.toList).1,Im (mJ t.data.toList).2])/\j=w:=by
 rw[<-aZ];cases a:(t.toList==[124,124])with
 |true=>
  go_enter func267,ntmps267;go_wp2;go_ret2;exact⟨by simp[mJ,a],rfl⟩
 |false=>
  cases b:(t.toList==[38,38])with
  |true=>
   go_enter func267,ntmps267;go_wp2;go_ret2;exact⟨by simp[mJ,a,b],rfl⟩
  |false=>
   cases c:(t.toList==[61,61])with
   |true=>
    go_enter func267,ntmps267;go_wp2;go_ret2;exact⟨by simp[mJ,a,b,c],rfl⟩
   |false=>
    cases d:(t.toList==[33,61])with
    |true=>
     go_enter func267,ntmps267;go_wp2;go_ret2;exact⟨by simp[mJ,a,b,c,d],rfl⟩
    |false=>
     cases f:(t.toList==[60])with
     |true=>
      go_enter func267,ntmps267;go_wp2;go_ret2;exact⟨by simp[mJ,a,b,c,d,f],rfl⟩
     |false=>
      cases g:(t.toList==[60,61])with
      |true=>
       go_enter func267,ntmps267;go_wp2;go_ret2;exact⟨by simp[mJ,a,b,c,d,f,g],rfl⟩
      |false=>
       cases h:(t.toList==[62])with
       |true=>
        go_enter func267,ntmps267;go_wp2;go_ret2;exact⟨by simp[mJ,a,b,c,d,f,g,h],rfl⟩
       |false=>
        cases i:(t.toList==[62,61])with
        |true=>
         go_enter func267,ntmps267;go_wp2;go_ret2;exact⟨by simp[mJ,a,b,c,d,f,g,h,i],rfl⟩
        |false=>
         go_enter func267,ntmps267;go_wp2;go_ret2;exact⟨by simp[mJ,a,b,c,d,f,g,h,i],rfl⟩
theorem agb(t:ji)(w:jk):Calls prog 272 #[.string t] w λe i=>e=.returned (.tuple #[Im (kY t.data.toList).1,Im (kY t.data.toList).2])/\i=w:=by
 rw[<-aZ];cases a:(t.toList==[105,100])with
 |true=>
  go_enter func272,ntmps272;go_wp2;go_ret2;exact⟨by simp[kY,a],rfl⟩
 |false=>
  cases b:(t.toList==[114,116,116])with
  |true=>
   go_enter func272,ntmps272;go_wp2;go_ret2;exact⟨by simp[kY,a,b],rfl⟩
  |false=>
   cases c:(t.toList==[99,119,110,100])with
   |true=>
    go_enter func272,ntmps272;go_wp2;go_ret2;exact⟨by simp[kY,a,b,c],rfl⟩
   |false=>
    cases d:(t.toList==[111,117,116])with
    |true=>
     go_enter func272,ntmps272;go_wp2;go_ret2;exact⟨by simp[kY,a,b,c,d],rfl⟩
    |false=>
     cases f:(t.toList==[108,111,115,115,121])with
     |true=>
      go_enter func272,ntmps272;go_wp2;go_ret2;exact⟨by simp[kY,a,b,c,d,f],rfl⟩
     |false=>
      cases g:(t.toList==[115,101,113])with
      |true=>
       go_enter func272,ntmps272;go_wp2;go_ret2;exact⟨by simp[kY,a,b,c,d,f,g],rfl⟩
      |false=>
       cases h:(t.toList==[115,105,122,101])with
       |true=>
        go_enter func272,ntmps272;go_wp2;go_ret2;exact⟨by simp[kY,a,b,c,d,f,g,h],rfl⟩
       |false=>
        go_enter func272,ntmps272;go_wp2;go_ret2;exact⟨by simp[kY,a,b,c,d,f,g,h],rfl⟩
theorem arl(t:ji)(w:jk):Calls prog 372 #[.string t] w λe h=>e=.returned (.int .u8 (pU t.data.toList))/\h=w:=by
 rw[<-aZ];cases a:(t.toList==[105,100])with
 |true=>
  go_enter func372,ntmps372;go_wp2;go_ret;exact⟨by simp[pU,a],rfl⟩
 |false=>
  cases b:(t.toList==[114,116,116])with
  |true=>
   go_enter func372,ntmps372;go_wp2;go_ret;exact⟨by simp[pU,a,b],rfl⟩
  |false=>
   cases c:(t.toList==[99,119,110,100])with
   |true=>
    go_enter func372,ntmps372;go_wp2;go_ret;exact⟨by simp[pU,a,b,c],rfl⟩
   |false=>
    cases d:(t.toList==[111,117,116])with
    |true=>
     go_enter func372,ntmps372;go_wp2;go_ret;exact⟨by simp[pU,a,b,c,d],rfl⟩
    |false=>
     cases f:(t.toList==[108,111,115,115,121])with
     |true=>
      go_enter func372,ntmps372;go_wp2;go_ret;exact⟨by simp[pU,a,b,c,d,f],rfl⟩
     |false=>
      cases g:(t.toList==[115,101,113])with
      |true=>
       go_enter func372,ntmps372;go_wp2;go_ret;exact⟨by simp[pU,a,b,c,d,f,g],rfl⟩
      |false=>
       go_enter func372,ntmps372;go_wp2;go_ret;exact⟨by simp[pU,a,b,c,d,f,g],rfl⟩
theorem aty(t:ji)(w:jk):Calls prog 363 #[.string t] w λe l=>e=.returned (.int .u8 (vH t.data.toList))/\l=w:=by
 rw[<-aZ];cases a:(t.toList==[43])with
 |true=>
  go_enter func363,ntmps363;go_wp2;go_ret;exact⟨by simp[vH,a],rfl⟩
 |false=>
  cases b:(t.toList==[45])with
  |true=>
   go_enter func363,ntmps363;go_wp2;go_ret;exact⟨by simp[vH,a,b],rfl⟩
  |false=>
   cases c:(t.toList==[42])with
   |true=>
    go_enter func363,ntmps363;go_wp2;go_ret;exact⟨by simp[vH,a,b,c],rfl⟩
   |false=>
    cases d:(t.toList==[47])with
    |true=>
     go_enter func363,ntmps363;go_wp2;go_ret;exact⟨by simp[vH,a,b,c,d],rfl⟩
    |false=>
     cases f:(t.toList==[37])with
     |true=>
      go_enter func363,ntmps363;go_wp2;go_ret;exact⟨by simp[vH,a,b,c,d,f],rfl⟩
     |false=>
      cases g:(t.toList==[60])with
      |true=>
       go_enter func363,ntmps363;go_wp2;go_ret;exact⟨by simp[vH,a,b,c,d,f,g],rfl⟩
      |false=>
       cases h:(t.toList==[60,61])with
       |true=>
        go_enter func363,ntmps363;go_wp2;go_ret;exact⟨by simp[vH,a,b,c,d,f,g,h],rfl⟩
       |false=>
        cases i:(t.toList==[61,61])with
        |true=>
         go_enter func363,ntmps363;go_wp2;go_ret;exact⟨by simp[vH,a,b,c,d,f,g,h,i],rfl⟩
        |false=>
         cases j:(t.toList==[33,61])with
         |true=>
          go_enter func363,ntmps363;go_wp2;go_ret;exact⟨by simp[vH,a,b,c,d,f,g,h,i,j],rfl⟩
         |false=>
          cases k:(t.toList==[38,38])with
          |true=>
           go_enter func363,ntmps363;go_wp2;go_ret;exact⟨by simp[vH,a,b,c,d,f,g,h,i,j,k],rfl⟩
          |false=>
           go_enter func363,ntmps363;go_wp2;go_ret;exact⟨by simp[vH,a,b,c,d,f,g,h,i,j,k],rfl⟩
end
namespace Hx
open Go.RowKit
structure Kn where
 name:ji
 kind:Int
 isVar:Bool
structure Ck where
 jy:List Kn
 en:Int
 ea:Int
def Xm:Kn:=⟨⟨#[]⟩,0,false⟩
def lJ(ns:List Kn)(t:ji):Kn:=(ns.find? λk=>k.name.data.toList==t.data.toList).getD Xm
def Ck.fail(c:Ck)(e a:Int):Ck:=if c.en=0 then ⟨c.jy,e,a⟩else c
def Ck.want(c:Ck)(k at' is:Int):Ck:=if k=is then c else c.fail 3 at'
def Ck.nD(c:Ck)(t:ji)(at':Int):Ck:=if (lJ c.jy t).kind=0 then c else c.fail 2 at'
def Ck.add(c:Ck)(t:ji)(kind:Int)(isVar:Bool):Ck:=⟨c.jy++[⟨t,kind,isVar⟩],c.en,c.ea⟩
def Ck.cut(c:Ck)(n:Nat):Ck:=⟨c.jy.take n,c.en,c.ea⟩
def qH:Nat->Nat->List Int
 |0,r=>[(r:Int)]
 |f+1,r=>if 128<=r then ((r%128+128:Nat):Int)::qH f (r/128)else [(r:Int)]
def rD(n:Int):Nat:=(if n<0 then 18446744073709551615-(2 * n)%18446744073709551616 else (2 * n)%18446744073709551616).toNat
def pY(n:Int):List Int:=qH 9 (rD n)
structure Co where
 code:List Int
 jy:List (ji×Int)
 free:Int
def Co.lay(c:Co)(o:Int)(ns:List Int):Co:=⟨c.code++o::ns.flatMap pY,c.jy,c.free⟩
def Co.kC(c:Co)(f:Int):Co:=⟨c.code,c.jy,f⟩
def Co.hold(c:Co):Co×Int:=(c.kC (wrap64 (c.free+1)),wrap64 (wrap64 (c.free+1)-1))
def Co.choose(c:Co)(into:Int):Co×Int:=if into= -1 then c.hold else (c,into)
def Co.wK(c:Co)(t:ji):Int:=((c.jy.find? λn=>n.1.data.toList==t.data.toList).map (·.2)).getD (-1)
def Co.know(c:Co)(t:ji)(slot:Int):Co:=⟨c.code,c.jy++[(t,slot)],c.free⟩
def Co.cut(c:Co)(n:Nat):Co:=⟨c.code,c.jy.take n,c.free⟩
structure oK where
 tag:Int:=0
 val:Int:=0
 give:Co->Int->Co×Int:=λc _=>(c,0)
 sub:Co->Int->Co×Int:=λc _=>(c,0)
structure Dn where
 jZ:List Kn->Int:=λ_=>0
 look:Ck->Ck:=λc=>c
 give:Co->Int->Co×Int:=λc _=>(c,0)
 fd:oK:={}
def oK.dn(f:oK):Dn:={give:=f.give}
structure L8 where
 lay:Co->Co:=λc=>c
 idle:Bool:=false
 ends:Bool:=false
structure Ds where
 look:Ck->Ck:=λc=>c
 lay:Co->Co:=λc=>c
 fs:L8:={}
def Ck.bracket(c:Ck)(t:ji)(ta:Int)(e:Dn)(ea one want:Int):Ck:=
 ((e.look ((c.nD t ta).add t one false)).want (e.jZ ((c.nD t ta).add t one false).jy) ea want).cut c.jy.length
def Co.inside(c:Co)(t:ji)(e:Dn)(one:Int):Co×Int:=((e.give (c.know t one) (-1)).1.cut c.jy.length,(e.give (c.know t one) (-1)).2)
def Co.one(c:Co)(o into:Int)(e:Dn):Co×Int:=
 let r:=e.give c (-1)
 let k:=(r.1.kC c.free).choose into
 (k.1.lay o [k.2,r.2],k.2)
def Co.two(c:Co)(o into:Int)(e f:Dn):Co×Int:=
 let r:=e.give c (-1)
 let q:=f.give r.1 (-1)
 let k:=(q.1.kC c.free).choose into
 (k.1.lay o [k.2,r.2,q.2],k.2)
def Co.store(c:Co)(slot:Int)(e:Dn):Co:=
 let r:=e.give c slot
 (if r.2=slot then r.1 else r.1.lay 7 [slot,r.2]).kC c.free
def bytes(ns:List Int):List UInt8:=ns.map λn=>UInt8.ofNat n.toNat
theorem abP(a b:List Int):bytes (a++b)=bytes a++bytes b:=dF
theorem Ny(a:List Int):(bytes a).length=a.length:=List.length_map _
theorem akM{a:List Int}{i:Nat}{x:Int}(h:a[i]? =some x):(bytes a)[i]? =some (UInt8.ofNat x.toNat):=by simp[bytes,h]
def yu(s:List UInt8)(p:Nat)(xs:List Int):Prop:=∃r,s.drop p=bytes xs++r
theorem yu.get{s:List UInt8}{p:Nat}{xs:List Int}(h:yu s p xs){i:Nat}{x:Int}(a:xs[i]? =some x):s[p+i]? =some (UInt8.ofNat x.toNat):=by
 obtain⟨r,c⟩:=h;have b:(s.drop p)[i]? =s[p+i]? :=List.getElem?_drop;rw[<-b,c,aT (by rw[Ny];exact(List.getElem?_eq_some_iff.1 a).1)];exact akM a
theorem yu.left{s:List UInt8}{p:Nat}{a b:List Int}(h:yu s p (a++b)):yu s p a:=by
 obtain⟨r,c⟩:=h;exact⟨bytes b++r,by rw[c,abP,bY]⟩
theorem yu.right{s:List UInt8}{p:Nat}{a b:List Int}(h:yu s p (a++b)):yu s (p+a.length) b:=by
 obtain⟨r,c⟩:=h;refine⟨r,?_⟩;rw[<-List.drop_drop,c,abP,bY,<-Ny a,List.drop_left]
theorem yu.len{s:List UInt8}{p:Nat}{xs:List Int}(h:yu s p xs)(c:xs≠[]):p+xs.length<=s.length:=by
 obtain⟨r,b⟩:=h;have a:=congrArg List.length b;rw[fA,aA,Ny]at a;have d:=List.length_pos_iff.2 c;omega
theorem Vb(f r:Nat):qH f r≠[]:=by
 cases f with
 |zero=>simp[qH]
 |succ f=>unfold qH;split<;>simp
theorem XB(a b i:Nat)(d:a<2^i)(h:a+b * 2^i<18446744073709551616):bits .or .u64 (a:Int) ((b * 2^i:Nat):Int)=((a+b * 2^i:Nat):Int):=by
 have c:a|||b * 2^i=a+b * 2^i:=by
  rw[Nat.or_comm,Nat.mul_comm b,<-Nat.two_pow_add_eq_or_of_lt d];omega
 rw[bits_or_u64_nat a _ (by omega) (by omega),c]
theorem aal(x:Nat)(h:x<18446744073709551616):IntKind.u64.wrap (x:Int)=(x:Int):=by
 rw[IntKind.wrap_u64];omega
theorem TM(x:Nat)(h:x<256):(UInt8.ofNat x).toNat=x:=by
 rw[UInt8.toNat_ofNat'];exact iO h
theorem agv(s:List UInt8)(p:Nat):∀(f i r c:Nat),i+f=9->c<2^(7 * i)->c+r * 2^(7 * i)<18446744073709551616->yu s (p+i) (qH f r)->∀n,(qH f r).length<=n->n+i<=10->
 uw s p n i (c:Int)=(signed ((c+r * 2^(7 * i):Nat):Int),((i+(qH f r).length:Nat):Int))
 |0,i,r,c,q,ha,hz,hs,n,hn,hn2=>by
  have q:i=9:=by omega
  subst q;simp only[qH,eG]at hn;obtain⟨d,rfl⟩:∃d,n=d+1:=⟨n-1,by omega⟩;have y:r<=1:=by omega
  have g:=hs.get (i:=0) (x:=(r:Int)) rfl;have e:(s.getD (p+9) 0).toNat=r:=by
   rw[aU,show p+9=p+9+0 from rfl,g];show(UInt8.ofNat (r:Int).toNat).toNat=r;rw[bK,TM r (by omega)]
  unfold uw;rw[e,jg (by omega),jh (by omega),iO (by omega)];have j:(((r:Nat):Int) * 2^(9 * 7))=((r * 2^(7 * 9):Nat):Int):=by rw[iJ,Int.natCast_pow];rfl
  rw[j,aal _ (by omega),XB c r (7 * 9) ha hz]
  rfl
 |f+1,i,r,c,q,ha,hz,hs,n,hn,hn2=>by
  obtain⟨d,rfl⟩:∃d,n=d+1:=⟨n-1,by
   have:=List.length_pos_iff.2 (Vb (f+1) r);omega⟩
  have m:2^(7 * (i+1))=128 * 2^(7 * i):=by rw[show 7 * (i+1)=7+7 * i by omega,Nat.pow_add]
  have v:0<2^(7 * i):=Nat.two_pow_pos _;by_cases h:128<=r
  .have o:qH (f+1) r=((r%128+128:Nat):Int)::qH f (r/128):=by rw[qH,jh h]
   rw[o]at hs hn⊢;have g:=hs.get (i:=0) (x:=((r%128+128:Nat):Int)) rfl;have e:(s.getD (p+i) 0).toNat=r%128+128:=by
    rw[aU,show p+i=p+i+0 from rfl,g];show(UInt8.ofNat ((r%128+128:Nat):Int).toNat).toNat=_;rw[bK,TM _ (by omega)]
   have k:(r%128+128)%128=r%128:=by omega
   have j:(((r%128:Nat):Int) * 2^(i * 7))=((r%128 * 2^(7 * i):Nat):Int):=by rw[Nat.mul_comm i 7,iJ,Int.natCast_pow];rfl
   have l:r * 2^(7 * i)=r%128 * 2^(7 * i)+r/128 * (128 * 2^(7 * i)):=by
    rw[<-Nat.mul_assoc,<-Nat.add_mul]
    congr 1
    omega
   have t:r%128 * 2^(7 * i)<=r * 2^(7 * i):=gQ _ (Nat.mod_le _ _);unfold uw;rw[e,jg (by omega),jg (by omega),k,j,aal _ (by omega),XB c (r%128) (7 * i) ha (by omega)];have u:=agv s p f (i+1) (r/128) (c+r%128 * 2^(7 * i)) (by omega) (by
    rw[m];have:r%128 * 2^(7 * i)<=127 * 2^(7 * i):=gQ _ (by omega);omega) (by rw[m];omega) (by
    have:=hs.right (a:=[((r%128+128:Nat):Int)]) (b:=qH f (r/128));rw[show p+(i+1)=p+i+[((r%128+128:Nat):Int)].length from rfl];exact this) d (by simp only[aF]at hn;omega) (by omega)
   rw[u,m]
   congr 2
   .congr 1
    omega
   .simp only[aF];omega
  .have o:qH (f+1) r=[(r:Int)]:=by rw[qH,jg h]
   rw[o]at hs hn⊢;have g:=hs.get (i:=0) (x:=(r:Int)) rfl;have e:(s.getD (p+i) 0).toNat=r:=by
    rw[aU,show p+i=p+i+0 from rfl,g];show(UInt8.ofNat (r:Int).toNat).toNat=r;rw[bK,TM r (by omega)]
   have j:(((r:Nat):Int) * 2^(i * 7))=((r * 2^(7 * i):Nat):Int):=by rw[Nat.mul_comm i 7,iJ,Int.natCast_pow];rfl
   unfold uw;rw[e,jg (by omega),jh (by omega),iO (by omega),j,aal _ (by omega),XB c r (7 * i) ha hz]
   rfl
theorem aam(n:Int):rD n<18446744073709551616:=by
 unfold rD;split<;>omega
theorem avO(x:Nat)(h:x<9223372036854775808):bits .xor .i64 (-1) (x:Int)= -(x:Int)-1:=by
 have a:BitVec.ofInt 64 (-1)=BitVec.allOnes 64:=by decide
 have b:(BitVec.ofInt 64 (x:Int)).toNat=x:=by
  rw[BitVec.ofInt_natCast,BitVec.toNat_ofNat];exact iO (by omega)
 show IntKind.i64.wrap ((BitVec.ofInt 64 (-1)^^^BitVec.ofInt 64 (x:Int)).toNat:Int)=_;rw[a,BitVec.allOnes_xor,BitVec.toNat_not,b];rw[IntKind.wrap_i64];omega
theorem atz(n:Int)(h:jK n):signed (rD n:Int)=n:=by
 unfold jK at h;have c:bits .and .u64 ((rD n:Nat):Int) 1=((rD n&&&1:Nat):Int):=bits_and_u64_nat _ 1 (aam n) (by omega);unfold signed;rw[c,Nat.and_one_is_mod];by_cases b:n<0
 .have a:rD n=(-2 * n-1).toNat:=by unfold rD;rw[jh b];omega
  have d:((rD n:Nat):Int)/2=(((-n-1).toNat:Nat):Int):=by rw[a];omega
  rw[jh (by rw[a];simp;omega),d,avO _ (by omega)];omega
 .have a:rD n=(2 * n).toNat:=by unfold rD;rw[jg b];omega
  rw[jg (by rw[a];simp;omega),a];omega
theorem ar9{s:List UInt8}{p:Nat}{n:Int}(b:yu s p (pY n))(h:jK n):read s p=(n,((pY n).length:Int)):=by
 have g:=b.len (Vb _ _);have d:=aam n;have a:(qH 9 (rD n)).length<=10:=by
  have e:∀f r,(qH f r).length<=f+1:=by
   intro f;induction f with
   |zero=>intro r;simp[qH]
   |succ f ih=>intro r;unfold qH;split<;>simp;exact dH (ih _) (by omega)
  exact e 9 _
 unfold read;have:=agv s p 9 0 (rD n) 0 rfl (by simp) (by simpa using d) (by rw[Nat.add_zero];exact b) (min (s.length-p) 10) (by
  have:(pY n).length=(qH 9 (rD n)).length:=rfl;omega) (by omega)
 rw[show((0:Nat):Int)=0 from rfl]at this;rw[this];have c:(0+rD n * 2^(7 * 0):Nat)=rD n:=by simp
 rw[c,atz n h,gW]
 rfl
structure I where
 o:Int
 ns:List Int
def enc(i:I):List Int:=i.o::i.ns.flatMap pY
def jX(is:List I):List Int:=is.flatMap enc
theorem ny(i:I)(is:List I):jX (i::is)=enc i++jX is:=c8
theorem nN(a b:List I):jX (a++b)=jX a++jX b:=gu
theorem mD:jX []=[]:=rfl
def aaV(c:UInt8)(n:Int):Prop:=jK n/\(c=115->0<=n/\n<2008)/\(c=108->0<=n/\n<3)
def JH:List UInt8->List Int->Prop
 |[],ns=>ns=[]
 |c::cs,ns=>∃n ns',ns=n::ns'/\aaV c n/\JH cs ns'
structure rE(i:I):Prop where
 op:0<=i.o/\i.o<=36
 Xp:JH (shape i.o) i.ns
def slotsOf:List UInt8->List Int->Int->Int
 |c::cs,n::ns,sl=>slotsOf cs ns (if c=115 then max sl (n+1)else sl)
 |_,_,sl=>sl
def stepOf(i:I):St:=⟨i.o,i.ns.getD 0 0,i.ns.getD 1 0,i.ns.getD 2 0,i.ns.getD 3 0,0,0⟩
end Hx
section
open Go.RowKit Hx
theorem O5{bs:List UInt8}:∀{b:List UInt8}{a:List Int}{p:Nat}{d:Int},JH b a->yu bs p (a.flatMap pY)->xk bs b p d=some (a,p+(a.flatMap pY).length,slotsOf b a d)
 |[],a,p,d,h,hs=>by
  have h:a=[]:=h;subst h
  rfl
 |c::b,_,p,d,⟨n,a,rfl,h1,h2⟩,hs=>by
  rw[c8]at hs;have f:=ar9 hs.left h1.1;have g:0<(pY n).length:=List.length_pos_iff.2 (Vb _ _);unfold xk;rw[f];simp only;rw[jg (by omega),jg (by rintro⟨e,h⟩;have:=h1.2.1 e;omega),jg (by rintro⟨e,h⟩;have:=h1.2.2 e;omega)];rw[bK,O5 h2 hs.right];simp only[iH,c8,aA,slotsOf,bJ,Prod.mk.injEq,true_and,and_true];omega
def uj(l:Ls)(i:I):Ls:=lH {l with pos:=l.pos+(enc i).length,jD:=slotsOf (Hx.shape i.o) i.ns l.jD} (stepOf i)
theorem O6{bs:List UInt8}{l:Ls}{i:I}(h:rE i)(j:0<=l.pos)(e:yu bs l.pos.toNat (enc i)):xW bs l=some (stepOf i,{l with pos:=l.pos+(enc i).length,jD:=slotsOf (Hx.shape i.o) i.ns l.jD}):=by
 have d:=e.get (i:=0) (x:=i.o) rfl;have g:=h.op;have f:(UInt8.ofNat i.o.toNat).toNat=i.o.toNat:=TM _ (by omega);have c:((UInt8.ofNat i.o.toNat).toNat:Int)=i.o:=by rw[f];omega
 unfold xW;rw[Nat.add_zero]at d;rw[d];simp only;rw[c,jh (by unfold Fp;simp;omega),O5 h.Xp (by
  have:=e.right (a:=[i.o]) (b:=i.ns.flatMap pY);exact this)]
 simp only[stepOf,bJ,Prod.mk.injEq,true_and]
 congr 1
 simp only[enc,aF];omega
def EO:List I->Ls->Prop
 |[],_=>True
 |i::is,l=>l.jH≠[]/\l.bad=false/\rE i/\EO is (uj l i)
theorem EO.append:∀{a b:List I}{l:Ls},EO a l->EO b (a.foldl uj l)->EO (a++b) l
 |[],_,_,_,h=>h
 |_::_,_,_,⟨h1,h2,h3,h4⟩,h=>⟨h1,h2,h3,EO.append h4 h⟩
theorem anG(l:Ls)(s:St):(lH l s).pos=l.pos:=by
 unfold lH;repeat' split
 all_goals first|rfl|(unfold Jr;split<;>rfl)
theorem aeu{bs:List UInt8}:∀(a:List I)(l:Ls)(f:Nat),0<=l.pos->EO a l->yu bs l.pos.toNat (jX a)->vw bs (f+a.length) l=vw bs f (a.foldl uj l)
 |[],_,_,_,_,_=>rfl
 |i::a,l,f,h0,⟨h1,h2,h3,h4⟩,hs=>by
  rw[ny]at hs;have e:f+(i::a).length=(f+a.length)+1:=by simp only[aF];omega
  rw[e]
  conv=>lhs;unfold vw
  rw[jg (by rw[h2];simpa using h1),O6 h3 h0 hs.left];simp only;have b:(uj l i).pos=l.pos+(enc i).length:=anG _ _;have c:=aeu a (uj l i) f (by rw[b];omega) h4 (by
   rw[b,show(l.pos+((enc i).length:Int)).toNat=l.pos.toNat+(enc i).length by omega];exact hs.right)
  rw[bP,<-c]
  rfl
end
end Go.Proofs.YthllhabjfchgiaaGreatDoor
