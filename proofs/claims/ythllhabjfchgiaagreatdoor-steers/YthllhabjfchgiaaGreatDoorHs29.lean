import Derived.Test.YthllhabjfchgiaaGreatDoorHs28
set_option maxRecDepth 100000
set_option maxHeartbeats 8000000
set_option linter.unusedSimpArgs false
namespace Go.Proofs.YthllhabjfchgiaaGreatDoor
open _root_.Go.Proofs.Tryz
section
open Go.RowKit Hx
structure qG(ck:Ck)(e:List (ji×Int))(σ:Int->Int):Prop where
 jF:∀i,0<=i->i<8->jK (σ i)
 jy:ck.jy.map (λk=>k.name.data.toList)=e.map (λn=>n.1.data.toList)
 vals:∀(j:Nat)(k:Kn)(n:ji×Int),ck.jy[j]? =some k->e[j]? =some n->jK n.2/\(k.kind=2->n.2=0\/n.2=1)
theorem Ty.env{ck:Ck}{c:Co}{σ:Int->Int}(h:Ty ck c σ)(l:Fit ck c):qG ck (lM c σ) σ:=by
 refine⟨h.jF,by rw[l.jy,lM,List.map_map];rfl,λj k n o g=>?_⟩;unfold lM at g;rw[fV]at g;cases i:c.jy[j]?with
 |none=>rw[i]at g;cases g
 |some q=>
  rw[i]at g;simp only[iH,bJ]at g;subst g;exact⟨h.num q (bT i),h.lD j k q o i⟩
theorem Mx.eq{P:Ck->Prop}{g:Co->Int->Co×Int}{z:Sz}{f f':Val}(h:Mx P g z f)(E:uD f')(G:∀i e v σ,P i->qG i e σ->nM v->f e v σ=f' e v σ):Mx P g z f':=
 ⟨E,λi c j o n I hi=>by
   obtain⟨t,r,q,e,x,w⟩:=h.lay i c j o n I hi;refine⟨t,r,q,e,x,λv S J k K m s D F l H p=>?_⟩;obtain⟨L,y,A,B⟩:=w v S J k K m s D F l H p;exact⟨L,y,by rw[A];exact G i _ v _ n (p.env o) s,B⟩⟩
def kX(e:Ex)(ck:Ck):Prop:=(e.does.look ck).en=0
structure MX(e:Ex)(z:Sz)(f:Val):Prop where
 look:∀ck,kX e ck->e.does.look ck=ck
 give:Mx (kX e) e.does.give z f
 fold:Mx (kX e) e.does.fd.give z f
 ty:∀ck en v σ,kX e ck->qG ck en σ->nM v->jK (f en v σ)/\(e.does.jZ ck.jy=2->f en v σ=0\/f en v σ=1)
 FN:e.does.fd.tag=1->∀ck,kX e ck->jK e.does.fd.val/\(∀en v σ,qG ck en σ->nM v->f en v σ=e.does.fd.val)/\e.does.jZ ck.jy=1
 Eu:e.does.fd.tag=2->∀ck,kX e ck->(e.does.fd.val=0\/e.does.fd.val=1)/\(∀en v σ,qG ck en σ->nM v->f en v σ=e.does.fd.val)/\e.does.jZ ck.jy≠1
 Pv:e.does.fd.tag=3->∃f',Mx (kX e) e.does.fd.sub z f'/\∀ck en v σ,kX e ck->qG ck en σ->nM v->jK (f' en v σ)/\((e.does.jZ ck.jy=1/\f en v σ=wrap64 (-f' en v σ))\/(e.does.jZ ck.jy=2/\(f' en v σ=0\/f' en v σ=1)/\f en v σ=lD (f' en v σ==0)))
structure Cc(t:Int)(e:Ex)(z:Sz):Prop where
 tok:1<=t
 wide:0<=z.wide/\2 * z.wide<=t+1
 jL:0<=z.jL/\z.jL<=20 * t
 jC:0<=z.jC
 jw:0<=e.jw/\e.jw<=1000001
 all:e.jw<=1000000->z.jC<=40 * e.jw+1/\((8^z.deep:Nat):Int)<=e.jw+1
def QX(t:Int)(e:Ex):Prop:=∃z f,MX e z f/\Cc t e z
def QF(t:Int)(e:Ex)(f:Val):Prop:=∃z,MX e z f/\Cc t e z
theorem Xo(a n:Int)(g:jK n):QF 1 (Ak a n) (λ_ _ _=>n):=by
 refine⟨⟨1,0,1,13⟩,⟨λi _=>rfl,OB _ n g,OB _ n g,λi j v σ _ _ _=>⟨g,λh=>jl h (by show¬(1:Int)=2;decide)⟩,λ_ _ _=>⟨g,λ_ _ _ _ _=>rfl,rfl⟩,λh=>jl h (by show¬(1:Int)=2;decide),λh=>jl h (by show¬(1:Int)=3;decide)⟩,⟨by omega,by decide,by decide,by decide,by show(0:Int)<=1/\(1:Int)<=1000001;decide,λ_=>by show(1:Int)<=40 * 1+1/\((8^0:Nat):Int)<=1+1;decide⟩⟩
theorem ap5(a n:Int)(g:jK n):QX 1 (Ak a n):=by
 obtain⟨h,q⟩:=Xo a n g;exact⟨h,_,q⟩
theorem au4(a jw kind:Int)(o:kind=2\/kind=0)(l:0<=jw/\jw<=1000001)(b:Bool):QF 1 (AB a jw kind b) (λ_ _ _=>if b then 1 else 0):=by
 have i:∀b:Bool,(if b then (1:Int)else 0)=0\/(if b then (1:Int)else 0)=1:=λb=>by cases b<;>simp
 have g:jK (if b then (1:Int)else 0):=by cases b<;>(unfold jK;simp)
 refine⟨⟨1,0,1,13⟩,⟨λj _=>rfl,OB _ _ g,OB _ _ g,λj n v σ _ _ _=>⟨g,λ_=>i b⟩,λh=>jl h (by show¬(2:Int)=1;decide),λ_ _ _=>⟨i b,λ_ _ _ _ _=>rfl,by show kind≠1;omega⟩,λh=>jl h (by show¬(2:Int)=3;decide)⟩,⟨by omega,by decide,by decide,by decide,l,λ_=>⟨by show(1:Int)<=40 * jw+1;omega,by show((8^0:Nat):Int)<=jw+1;omega⟩⟩⟩
theorem ah5(a jw kind:Int)(h:kind=2\/kind=0)(g:0<=jw/\jw<=1000001)(b:Bool):QX 1 (AB a jw kind b):=by
 obtain⟨i,q⟩:=au4 a jw kind h g b;exact⟨i,_,q⟩
theorem asi(a i:Int)(hi:0<=i/\i<8):QF 1 (Ee a i) (λ_ _ σ=>σ i):=by
 have j:Mx (kX (Ee a i)) (λc _=>(c,i)) ⟨0,0,0,0⟩ (λ_ _ σ=>σ i):=ahf _ (λ_=>i) _ (λ_ _ σ τ h=>h i hi.1 hi.2) λg c l _=>⟨hi.1,by have:=l.free;omega,λ_ _=>rfl⟩;exact⟨⟨0,0,0,0⟩,⟨λg _=>rfl,j,j,λg o v σ _ n _=>⟨n.jF i hi.1 hi.2,λh=>jl h (by show¬(1:Int)=2;decide)⟩,λh=>jl h (by show¬(0:Int)=1;decide),λh=>jl h (by show¬(0:Int)=2;decide),λh=>jl h (by show¬(0:Int)=3;decide)⟩,⟨by omega,by decide,by decide,by decide,by show(0:Int)<=1/\(1:Int)<=1000001;decide,λ_=>by show(0:Int)<=40 * 1+1/\((8^0:Nat):Int)<=1+1;decide⟩⟩
theorem ash(a i:Int)(hi:0<=i/\i<8):QX 1 (Ee a i):=by
 obtain⟨g,q⟩:=asi a i hi;exact⟨g,_,q⟩
def lookup(t:ji)(e:List (ji×Int)):Int:=((e.find? λn=>n.1.data.toList==t.data.toList).map (·.2)).getD 0
theorem Vm{t:ji}:∀{g:List Kn}{l:List (ji×Int)},g.map (λk=>k.name.data.toList)=l.map (λn=>n.1.data.toList)->(lJ g t).kind≠0->
 ∃(j:Nat)(k:Kn)(n:ji×Int),g[j]? =some k/\l[j]? =some n/\lJ g t=k/\l.find? (λn=>n.1.data.toList==t.data.toList)=some n
 |[],[],_,h=>jl rfl h
 |[],_::_,h,_=>by simp at h
 |_::_,[],h,_=>by simp at h
 |k::g,n::l,h,hk=>by
  simp only[dL,iy]at h;by_cases i:(k.name.data.toList==t.data.toList)=true
  .refine⟨0,k,n,rfl,rfl,?_,?_⟩
   .unfold lJ;rw[fF,i]
    rfl
   .rw[fF,show(n.1.data.toList==t.data.toList)=true by rw[<-h.1];exact i]
  .have i:(k.name.data.toList==t.data.toList)=false:=by simpa using i
   have o:lJ (k::g) t=lJ g t:=by
    unfold lJ;rw[fF,i]
   rw[o]at hk;obtain⟨j,p,q,r,s,y,z⟩:=Vm h.2 hk;refine⟨j+1,p,q,r,s,by rw[o];exact y,?_⟩;rw[fF,show(n.1.data.toList==t.data.toList)=false by rw[<-h.1];exact i];exact z
theorem alP(c:Co)(σ:Int->Int)(t:ji):(lM c σ).find? (λn=>n.1.data.toList==t.data.toList)=(c.jy.find? λn=>n.1.data.toList==t.data.toList).map λn=>(n.1,σ n.2):=by
 unfold lM;rw[List.find?_map]
 rfl
theorem aad{a:Int}{t:Wd}{ck:Ck}(h:kX (nK a t) ck):(lJ ck.jy t.text).kind≠0/\ck.en=0:=by
 have h:(if (lJ ck.jy t.text).kind=0 then ck.fail 2 t.at' else ck).en=0:=h;split at h
 .unfold Ck.fail at h;split at h
  .exact jl h (by show¬(2:Int)=0;decide)
  .rename_i i;exact jl h i
 .rename_i g;exact⟨g,h⟩
theorem y8(a:Int)(t:Wd):QF 1 (nK a t) (λe _ _=>lookup t.text e):=by
 have p:Mx (kX (nK a t)) (λc _=>(c,c.wK t.text)) ⟨0,0,0,0⟩ (λe _ _=>lookup t.text e):=by
  refine ahf _ (λB=>((B.find? λn=>n.1.data.toList==t.text.data.toList).map (·.2)).getD (-1)) _ (λ_ _ _ _ _=>rfl) λg c q A=>?_;obtain⟨j,k,n,y,o,z,i⟩:=Vm q.jy (aad A).1;have r:=q.jD n (bT o);refine⟨?_,?_,λv σ=>?_⟩
  .rw[i];exact r.1
  .rw[i];exact r.2
  .rw[i];unfold lookup;rw[alP,i]
   rfl
 refine⟨⟨0,0,0,0⟩,⟨λg h=>?_,p,p,λg l v σ h s _=>?_,λh=>jl h (by show¬(0:Int)=1;decide),λh=>jl h (by show¬(0:Int)=2;decide),λh=>jl h (by show¬(0:Int)=3;decide)⟩,⟨by omega,by decide,by decide,by decide,by show(0:Int)<=1/\(1:Int)<=1000001;decide,λ_=>by show(0:Int)<=40 * 1+1/\((8^0:Nat):Int)<=1+1;decide⟩⟩
 .show(if (lJ g.jy t.text).kind=0 then g.fail 2 t.at' else g)=g;rw[jg (aad h).1]
 .obtain⟨j,k,n,y,o,z,i⟩:=Vm s.jy (aad h).1;obtain⟨D,E⟩:=s.vals j k n y o;have e:lookup t.text l=n.2:=by unfold lookup;rw[i];rfl
  show jK (lookup t.text l)/\((lJ g.jy t.text).kind=2->lookup t.text l=0\/lookup t.text l=1);rw[e,z];exact⟨D,E⟩
theorem avp(a:Int)(t:Wd):QX 1 (nK a t):=by
 obtain⟨g,q⟩:=y8 a t;exact⟨g,_,q⟩
theorem avD{t:Int}{e:Ex}{f:Val}(h:QF t e f)(a:Int):QF t (e.widen a) (f):=by
 obtain⟨z,g,i⟩:=h;exact⟨z,⟨g.look,g.give,g.fold,g.ty,g.FN,g.Eu,g.Pv⟩,⟨i.tok,i.wide,i.jL,i.jC,i.jw,i.all⟩⟩
theorem avC{t:Int}{e:Ex}(h:QX t e)(a:Int):QX t (e.widen a):=by
 obtain⟨z,f,g,i⟩:=h;obtain⟨j,q⟩:=avD ⟨z,g,i⟩ a;exact⟨j,_,q⟩
theorem AO{c:Ck}{k a is:Int}(h:(c.want k a is).en=0):k=is/\c.want k a is=c/\c.en=0:=by
 unfold Ck.want at h⊢;by_cases g:k=is
 .rw[jh g]at h⊢;exact⟨g,rfl,h⟩
 .rw[jg g]at h;unfold Ck.fail at h;split at h
  .exact jl h (by show¬(3:Int)=0;decide)
  .rename_i i;exact jl h i
theorem Vh{c:Ck}{e a:Int}(g:e≠0):(c.fail e a).en≠0:=by
 unfold Ck.fail;split
 .exact g
 .rename_i h;exact h
theorem Xj{c:Ck}{t:ji}{a:Int}(h:(c.nD t a).en=0):(lJ c.jy t).kind=0/\c.nD t a=c/\c.en=0:=by
 unfold Ck.nD at h⊢;by_cases g:(lJ c.jy t).kind=0
 .rw[jh g]at h⊢;exact⟨g,rfl,h⟩
 .rw[jg g]at h;exact jl h (Vh (by decide))
theorem TD{t:Int}{e j:Ex}{z:Sz}(h:Cc t e z)(i:j.jw=jS [e.jw]):Cc (t+1) j ⟨max z.wide 1,z.deep,z.jC+1,z.jL+13⟩:=by
 have q:=h.wide;have r:=h.jL;have s:=h.tok;have y:=h.jC;have g:=h.jw;refine⟨by omega,⟨by show 0<=max z.wide 1;omega,by show 2 * max z.wide 1<=t+1+1;omega⟩,⟨by show 0<=z.jL+13;omega,by show z.jL+13<=20 * (t+1);omega⟩,by show 0<=z.jC+1;omega,by rw[i];exact qx g,λl=>?_⟩;rw[i]at l;have n:=yU g.1 g.2 l;obtain⟨o,p⟩:=h.all (by omega);rw[i,n];exact⟨by show z.jC+1<=_;omega,by show((8^z.deep:Nat):Int)<=_;omega⟩
theorem QJ{P:Ck->Prop}{g:Co->Int->Co×Int}{z:Sz}{f:Val}(h:Mx P g z f):Mx P g ⟨max z.wide 1,z.deep,z.jC+1,z.jL+13⟩ f:=h.grow (by show z.wide<=max z.wide 1;omega) (aj _) (by show z.jC<=z.jC+1;omega) (by show z.jL<=z.jL+13;omega)
theorem G9{P:Ck->Prop}{g:Co->Int->Co×Int}{z:Sz}{f:Val}{o:Int}(h:Mx P g z f)(j:rW o):Mx P (λc i=>c.one o i {give:=g}) ⟨max z.wide 1,z.deep,z.jC+1,z.jL+13⟩ (λl v σ=>outcome v o (f l v σ) 0):=(aqr h j).grow (aV _) (aj _) (aV _) (by show z.jL+5<=z.jL+13;omega)
theorem WT{P:Ck->Prop}{n:Int}{z:Sz}{f:Val}(o:uD f)(l:1<=z.wide/\1<=z.jC/\13<=z.jL)(h:∀g,P g->jK n/\∀j v σ,qG g j σ->nM v->f j v σ=n):Mx P (wZ n) z f:=
 ⟨o,λg c i t s D hi=>by
   obtain⟨p,r⟩:=h g s;have y:Mx (λq=>q=g) (wZ n) z f:=((OB (λq=>q=g) n p).grow l.1 (bD _) l.2.1 l.2.2).eq o λE j v σ e A B=>by
    subst e;exact(r j v σ A B).symm
   exact y.lay g c i t rfl D hi⟩
theorem aeY{P:Ck->Prop}{g:Co->Int->Co×Int}{z:Sz}{f:Val}(l:uD f)(h:∀i,¬P i):Mx P g z f:=⟨l,λi _ _ _ j=>jl j (h i)⟩
theorem aqQ(v:Vw)(a:Int):outcome v 8 a 0=wrap64 (-a):=by simp[outcome]
theorem aqR(v:Vw)(a:Int):outcome v 9 a 0=lD (a==0):=by simp[outcome]
theorem wrap_wrap(a:Int)(h:jK a):wrap64 (-wrap64 (-a))=a:=by unfold jK at h;unfold wrap64;omega
theorem FQ(b:Bool):lD b=0\/lD b=1:=by cases b<;>simp[lD]
theorem ad4{t:Int}{e:Ex}{f:Val}(h:QF t e f)(a:Int):QF (t+1) (yP a e) (λj v σ=>outcome v 27 (f j v σ) 0):=by
 obtain⟨z,l,s⟩:=h;have p:∀g,kX (yP a e) g->kX e g/\(yP a e).does.look g=g:=λg i=>by
  have i:(if e.does.jZ g.jy=3 then e.does.look g else (e.does.look g).want (e.does.jZ g.jy) e.at' 4).en=0:=i;show kX e g/\(if e.does.jZ g.jy=3 then e.does.look g else (e.does.look g).want (e.does.jZ g.jy) e.at' 4)=g;split at i
  .rename_i n;rw[jh n];exact⟨i,l.look g i⟩
  .rename_i n;rw[jg n];obtain⟨_,y,q⟩:=AO i;rw[y];exact⟨q,l.look g q⟩
 refine⟨_,⟨λg i=>(p g i).2,(G9 l.give (o:=27) (by unfold rW;omega)).of λg i=>(p g i).1,(G9 l.fold (o:=27) (by unfold rW;omega)).of λg i=>(p g i).1,λg j v σ i A B=>?_,λh=>jl h (by show¬(0:Int)=1;decide),λh=>jl h (by show¬(0:Int)=2;decide),λh=>jl h (by show¬(0:Int)=3;decide)⟩,TD s rfl⟩;have r:outcome v 27 (f j v σ) 0=lD (f j v σ== -1):=by simp[outcome]
 rw[r];exact⟨IZ _,λ_=>FQ _⟩
theorem anM{t:Int}{e:Ex}(h:QX t e)(a:Int):QX (t+1) (yP a e):=by
 obtain⟨z,f,g,i⟩:=h;obtain⟨j,q⟩:=ad4 ⟨z,g,i⟩ a;exact⟨j,_,q⟩
theorem afx{a kind:Int}{g:ji}{e:Ex}{z:Sz}{f:Val}(h:MX e z f){ck:Ck}(i:kX (sG a kind g e) ck):kX e ck/\e.does.jZ ck.jy=kind/\(sG a kind g e).does.look ck=ck:=by
 have i:=i;obtain⟨l,n,j⟩:=AO i;refine⟨j,l,?_⟩;show(e.does.look ck).want (e.does.jZ ck.jy) e.at' kind=ck;rw[n];exact h.look ck j
theorem apF{t:Int}{e:Ex}{f:Val}(h:QF t e f)(a:Int)(l:ji)(P:l.data.toList=[45]):QF (t+1) (sG a 1 l e) (λo v σ=>wrap64 (-f o v σ)):=by
 obtain⟨z,q,K⟩:=h;have I:(l.data.toList==[45])=true:=by rw[P];rfl
 have N:rW 8:=by unfold rW;omega
 have W:=K.jC;have X:=K.jL;have G:uD (λo v σ=>wrap64 (-f o v σ)):=λo v σ τ O=>by show wrap64 (-f o v σ)=wrap64 (-f o v τ);rw[q.give.pO o v σ τ O]
 have D:(λ(S:List (ji×Int)) v σ=>outcome v 8 (f S v σ) 0)=(λo v σ=>wrap64 (-f o v σ)):=by
  funext o v σ
  exact aqQ v _
 have B:(sG a 1 l e).does.fd=um 1 l e.does.fd:=rfl;have j:=λg (i:kX (sG a 1 l e) g)=>afx q i;refine⟨_,⟨λg i=>(j g i).2.2,?_,?_,λg o v σ i E F=>⟨D7 _,λh=>jl h (by show¬(1:Int)=2;decide)⟩,?_,?_,?_⟩,TD K rfl⟩
 .rw[<-D];have:=(G9 q.give N).of λg i=>(j g i).1;show Mx _ (λc J=>c.one (if l.data.toList==[45]then 8 else 9) J e.does) _ _;rw[I];exact this
 .rw[B];unfold um;by_cases p:e.does.fd.tag=1
  .rw[jh p];have y:sK 1 (wrap64 (-e.does.fd.val))={tag:=1,val:=wrap64 (-e.does.fd.val),give:=wZ (wrap64 (-e.does.fd.val))}:=jg (by decide);rw[y];refine WT G ⟨by show 1<=max z.wide 1;omega,by show 1<=z.jC+1;omega,by show 13<=z.jL+13;omega⟩ λg i=>?_;obtain⟨_,L,_⟩:=q.FN p g (j g i).1;exact⟨D7 _,λo v σ E F=>by rw[L o v σ E F]⟩
  .rw[jg p];by_cases r:e.does.fd.tag=2
   .rw[jh r];refine aeY G λg i=>?_;obtain⟨A,H,_⟩:=j g i;exact(q.Eu r g A).2.2 H
   .rw[jg r];by_cases s:e.does.fd.tag=3
    .rw[jh s];obtain⟨V,Q,R⟩:=q.Pv s;refine QJ ((Q.of λg i=>(j g i).1).eq G λg o v σ i E F=>?_);obtain⟨A,H,_⟩:=j g i;obtain⟨U,M⟩:=R g o v σ A E F;rcases M with⟨_,M⟩|⟨Y,_⟩
     .rw[M,wrap_wrap _ U]
     .omega
    .rw[jg s,<-D];have:=(G9 q.fold N).of λg i=>(j g i).1;rw[I];exact this
 .intro tg g i;rw[B]at tg⊢;obtain⟨A,H,_⟩:=j g i;unfold um at tg⊢;by_cases p:e.does.fd.tag=1
  .rw[jh p];have y:sK 1 (wrap64 (-e.does.fd.val))={tag:=1,val:=wrap64 (-e.does.fd.val),give:=wZ (wrap64 (-e.does.fd.val))}:=jg (by decide);rw[y];obtain⟨_,L,_⟩:=q.FN p g A;exact⟨D7 _,λo v σ E F=>by show wrap64 (-f o v σ)=wrap64 (-e.does.fd.val);rw[L o v σ E F],rfl⟩
  .rw[jg p]at tg;by_cases r:e.does.fd.tag=2
   .exact jl H (q.Eu r g A).2.2
   .rw[jg r]at tg;by_cases s:e.does.fd.tag=3
    .rw[jh s]at tg;exact jl tg (by show¬(0:Int)=1;decide)
    .rw[jg s]at tg;exact jl tg (by show¬(3:Int)=1;decide)
 .intro tg g i;rw[B]at tg;obtain⟨A,H,_⟩:=j g i;unfold um at tg;by_cases p:e.does.fd.tag=1
  .rw[jh p,show sK 1 (wrap64 (-e.does.fd.val))={tag:=1,val:=wrap64 (-e.does.fd.val),give:=wZ (wrap64 (-e.does.fd.val))}from jg (by decide)]at tg;exact jl tg (by show¬(1:Int)=2;decide)
  .rw[jg p]at tg;by_cases r:e.does.fd.tag=2
   .exact jl H (q.Eu r g A).2.2
   .rw[jg r]at tg;by_cases s:e.does.fd.tag=3
    .rw[jh s]at tg;exact jl tg (by show¬(0:Int)=2;decide)
    .rw[jg s]at tg;exact jl tg (by show¬(3:Int)=2;decide)
 .intro tg;rw[B]at tg⊢;unfold um at tg⊢;by_cases p:e.does.fd.tag=1
  .rw[jh p,show sK 1 (wrap64 (-e.does.fd.val))={tag:=1,val:=wrap64 (-e.does.fd.val),give:=wZ (wrap64 (-e.does.fd.val))}from jg (by decide)]at tg;exact jl tg (by show¬(1:Int)=3;decide)
  .rw[jg p]at tg⊢;by_cases r:e.does.fd.tag=2
   .rw[jh r]at tg⊢;rw[show∀n,sK 1 n={tag:=1,val:=n,give:=wZ n}fromλn=>jg (by decide)]at tg;exact jl tg (by show¬(1:Int)=3;decide)
   .rw[jg r]at tg⊢;by_cases s:e.does.fd.tag=3
    .rw[jh s]at tg;exact jl tg (by show¬(0:Int)=3;decide)
    .rw[jg s];refine⟨f,QJ (q.fold.of λg i=>(j g i).1),λg o v σ i E F=>?_⟩;obtain⟨A,H,_⟩:=j g i;exact⟨(q.ty g o v σ A E F).1,jf ⟨rfl,rfl⟩⟩
theorem apE{t:Int}{e:Ex}(h:QX t e)(a:Int)(g:ji)(l:g.data.toList=[45]):QX (t+1) (sG a 1 g e):=by
 obtain⟨z,f,i,j⟩:=h;obtain⟨n,q⟩:=apF ⟨z,i,j⟩ a g l;exact⟨n,_,q⟩
theorem afb{t:Int}{e:Ex}{f:Val}(h:QF t e f)(a:Int)(j:ji)(Z:j.data.toList=[33]):QF (t+1) (sG a 2 j e) (λl v σ=>lD (f l v σ==0)):=by
 obtain⟨z,s,N⟩:=h;have J:(j.data.toList==[45])=false:=by rw[Z];rfl
 have S:rW 9:=by unfold rW;omega
 have h4:=N.jC;have h5:=N.jL;have E:uD (λl v σ=>lD (f l v σ==0)):=λl v σ τ X=>by show lD (f l v σ==0)=lD (f l v τ==0);rw[s.give.pO l v σ τ X]
 have G:(λ(ns:List (ji×Int)) v σ=>outcome v 9 (f ns v σ) 0)=(λl v σ=>lD (f l v σ==0)):=by
  funext l v σ
  exact aqR v _
 have F:(sG a 2 j e).does.fd=um 2 j e.does.fd:=rfl;have i:=λg (o:kX (sG a 2 j e) g)=>afx s o;have p:∀n,sK 2 n={tag:=2,val:=if n=0 then 0 else 1,give:=Ic (decide (n≠0))}:=λn=>jh rfl;have R:∀x:Int,x=0\/x=1->(Ic (decide ((if x=0 then (1:Int)else 0)≠0))=wZ (lD (x==0))/\(if (if x=0 then (1:Int)else 0)=0 then (0:Int)else 1)=lD (x==0)):=λx hx=>by
  rcases hx with rfl|rfl<;>exact⟨rfl,rfl⟩
 refine⟨_,⟨λg o=>(i g o).2.2,?_,?_,λg l v σ o H I=>⟨IZ _,λ_=>FQ _⟩,?_,?_,?_⟩,TD N rfl⟩
 .rw[<-G];have:=(G9 s.give S).of λg o=>(i g o).1;show Mx _ (λc B=>c.one (if j.data.toList==[45]then 8 else 9) B e.does) _ _;rw[J];exact this
 .rw[F];unfold um;by_cases y:e.does.fd.tag=1
  .rw[jh y];refine aeY E λg o=>?_;obtain⟨D,K,_⟩:=i g o;have:=(s.FN y g D).2.2;omega
  .rw[jg y];by_cases r:e.does.fd.tag=2
   .rw[jh r,p];refine⟨E,λg c B W V hw hi=>?_⟩;obtain⟨O,P,_⟩:=s.Eu r g (i g V).1;obtain⟨Q,L⟩:=R _ O;have Y:Mx (λq=>q=g) (wZ (lD (e.does.fd.val==0))) ⟨max z.wide 1,z.deep,z.jC+1,z.jL+13⟩ (λl v σ=>lD (f l v σ==0)):=WT E ⟨by show 1<=max z.wide 1;omega,by show 1<=z.jC+1;omega,by show 13<=z.jL+13;omega⟩ λwQ U=>by
     subst U;exact⟨IZ _,λl v σ H I=>by rw[P l v σ H I]⟩
    rw[Q];exact Y.lay g c B W rfl hw hi
   .rw[jg r];by_cases A:e.does.fd.tag=3
    .rw[jh A];obtain⟨f',m1,m2⟩:=s.Pv A;refine QJ ((m1.of λg o=>(i g o).1).eq E λg l v σ o H I=>?_);obtain⟨D,K,_⟩:=i g o;obtain⟨Q,L⟩:=m2 g l v σ D H I;rcases L with⟨M,_⟩|⟨_,M,r4⟩
     .omega
     .rw[r4];rcases M with M|M<;>rw[M]<;>rfl
    .rw[jg A,<-G];have:=(G9 s.fold S).of λg o=>(i g o).1;rw[J];exact this
 .intro tg g o;rw[F]at tg;obtain⟨D,K,_⟩:=i g o;unfold um at tg;by_cases y:e.does.fd.tag=1
  .have:=(s.FN y g D).2.2;omega
  .rw[jg y]at tg;by_cases r:e.does.fd.tag=2
   .rw[jh r,p]at tg;exact jl tg (by show¬(2:Int)=1;decide)
   .rw[jg r]at tg;by_cases A:e.does.fd.tag=3
    .rw[jh A]at tg;exact jl tg (by show¬(0:Int)=1;decide)
    .rw[jg A]at tg;exact jl tg (by show¬(3:Int)=1;decide)
 .intro tg g o;rw[F]at tg⊢;obtain⟨D,K,_⟩:=i g o;unfold um at tg⊢;by_cases y:e.does.fd.tag=1
  .have:=(s.FN y g D).2.2;omega
  .rw[jg y]at tg⊢;by_cases r:e.does.fd.tag=2
   .rw[jh r,p];obtain⟨O,P,_⟩:=s.Eu r g D;obtain⟨Q,L⟩:=R _ O;refine⟨?_,λl v σ H I=>?_,by show¬(2:Int)=1;decide⟩
    .show(if (if e.does.fd.val=0 then (1:Int)else 0)=0 then (0:Int)else 1)=0\/_=1;rw[L];exact FQ _
    .show lD (f l v σ==0)=(if (if e.does.fd.val=0 then (1:Int)else 0)=0 then (0:Int)else 1);rw[L,P l v σ H I]
   .rw[jg r]at tg;by_cases A:e.does.fd.tag=3
    .rw[jh A]at tg;exact jl tg (by show¬(0:Int)=2;decide)
    .rw[jg A]at tg;exact jl tg (by show¬(3:Int)=2;decide)
 .intro tg;rw[F]at tg⊢;unfold um at tg⊢;by_cases y:e.does.fd.tag=1
  .rw[jh y,p]at tg;exact jl tg (by show¬(2:Int)=3;decide)
  .rw[jg y]at tg⊢;by_cases r:e.does.fd.tag=2
   .rw[jh r,p]at tg;exact jl tg (by show¬(2:Int)=3;decide)
   .rw[jg r]at tg⊢;by_cases A:e.does.fd.tag=3
    .rw[jh A]at tg;exact jl tg (by show¬(0:Int)=3;decide)
    .rw[jg A];refine⟨f,QJ (s.fold.of λg o=>(i g o).1),λg l v σ o H I=>?_⟩;obtain⟨D,K,_⟩:=i g o;obtain⟨y1,y2⟩:=s.ty g l v σ D H I;exact⟨y1,je ⟨rfl,y2 K,rfl⟩⟩
theorem apY{t:Int}{e:Ex}(h:QX t e)(a:Int)(g:ji)(l:g.data.toList=[33]):QX (t+1) (sG a 2 g e):=by
 obtain⟨z,f,i,j⟩:=h;obtain⟨n,q⟩:=afb ⟨z,i,j⟩ a g l;exact⟨n,_,q⟩
theorem arj(u:List UInt8):rW (pU u)/\((kY u).2=2->pU u=32):=by
 unfold pU kY rW;repeat' split
 all_goals (constructor<;>simp)
theorem Df{t:Int}{e:Ex}{f:Val}(h:QF t e f)(a:Int)(d:Wd):QF (t+1) (oQ a (kY d.text.data.toList).2 (kY d.text.data.toList).1 e d) (λo v σ=>outcome v (pU d.text.data.toList) (f o v σ) 0):=by
 obtain⟨z,q,E⟩:=h;obtain⟨A,p⟩:=arj d.text.data.toList;generalize F:kY d.text.data.toList=I at p;obtain⟨i,l⟩:=I;have s:∀g,kX (oQ a l i e d) g->kX e g/\(oQ a l i e d).does.look g=g:=λg j=>by
  have j:=j;show kX e g/\(if i=0 then (e.does.look g).fail 2 d.at' else e.does.look g).want (e.does.jZ g.jy) e.at' i=g;obtain⟨_,J,y⟩:=AO j;rw[J];split at y
  .exact jl y (Vh (by decide))
  .rename_i G;rw[jg G];exact⟨y,q.look g y⟩
 refine⟨_,⟨λg j=>(s g j).2,(G9 q.give A).of λg j=>(s g j).1,(G9 q.fold A).of λg j=>(s g j).1,λg o v σ j H B=>⟨Wj B.1 _ _ _ (q.ty g o v σ (s g j).1 H B).1,λn=>?_⟩,λh=>jl h (by show¬(0:Int)=1;decide),λh=>jl h (by show¬(0:Int)=2;decide),λh=>jl h (by show¬(0:Int)=3;decide)⟩,TD E rfl⟩;have n:=n;rw[p n];have D:outcome v 32 (f o v σ) 0=uP 32 (v.mG (f o v σ)):=by simp[outcome]
 rw[D];cases v.mG (f o v σ)with
 |none=>exact jf rfl
 |some r=>exact FQ r.wo
theorem arp{t:Int}{e:Ex}(h:QX t e)(a:Int)(d:Wd):QX (t+1) (oQ a (kY d.text.data.toList).2 (kY d.text.data.toList).1 e d):=by
 obtain⟨z,f,g,i⟩:=h;obtain⟨j,q⟩:=Df ⟨z,g,i⟩ a d;exact⟨j,_,q⟩
theorem ahX{t t':Int}{e o q:Ex}{z z':Sz}(h:Cc t e z)(g:Cc t' o z')(j:q.jw=jS [e.jw,o.jw]):Cc (t+1+t') q ⟨max (max z.wide (1+z'.wide)) 1,max z.deep z'.deep,z.jC+z'.jC+1,z.jL+z'.jL+13⟩:=by
 have D:=h.wide;have E:=h.jL;have F:=h.tok;have G:=h.jC;have i:=h.jw;have H:=g.wide;have I:=g.jL;have J:=g.tok;have K:=g.jC;have n:=g.jw;refine⟨by omega,⟨by show 0<=max (max z.wide (1+z'.wide)) 1;omega,by show 2 * max (max z.wide (1+z'.wide)) 1<=t+1+t'+1;omega⟩,⟨by show 0<=z.jL+z'.jL+13;omega,by show z.jL+z'.jL+13<=20 * (t+1+t');omega⟩,by show 0<=z.jC+z'.jC+1;omega,by rw[j];exact rO i n,λp=>?_⟩;rw[j]at p;have r:=Ap i.1 i.2 n.1 n.2 p;obtain⟨s,y⟩:=h.all (by omega);obtain⟨A,B⟩:=g.all (by omega);rw[j,r];refine⟨by show z.jC+z'.jC+1<=_;omega,?_⟩;show((8^max z.deep z'.deep:Nat):Int)<=_;rcases gX z.deep z'.deep with l|l
 .rw[gG l];omega
 .rw[gV l];omega
theorem RJ{P:Ck->Prop}{g j:Co->Int->Co×Int}{z z':Sz}{f f':Val}{o:Int}(h:Mx P g z f)(n:Mx P j z' f')(p:AY o):Mx P (λc i=>c.two o i {give:=g} {give:=j}) ⟨max (max z.wide (1+z'.wide)) 1,max z.deep z'.deep,z.jC+z'.jC+1,z.jL+z'.jL+13⟩ (λl v σ=>outcome v o (f l v σ) (f' l v σ)):=
 (avb h n p).grow (aV _) (aj _) (aV _) (by show z.jL+z'.jL+7<=z.jL+z'.jL+13;omega)
theorem afq{t t':Int}{l r:Ex}{f:Val}(I:QF t l f){f':Val}(J:QF t' r f')(a:Int):QF (t+1+t') (wG a l r) (λn v σ=>outcome v 35 (f n v σ) (f' n v σ)):=by
 obtain⟨z,q,H⟩:=I;obtain⟨P,s,K⟩:=J;have A:AY 35:=je rfl;have j:∀g,kX (wG a l r) g->kX l g/\kX r g/\(wG a l r).does.look g=g:=λg i=>by
  have i:=i;have F:(wG a l r).does.look g=(r.does.look ((l.does.look g).want (l.does.jZ g.jy) l.at' 4)).want (r.does.jZ ((l.does.look g).want (l.does.jZ g.jy) l.at' 4).jy) r.at' 3:=rfl;obtain⟨_,L,p⟩:=AO i;have y:=s.look _ p;have M:((l.does.look g).want (l.does.jZ g.jy) l.at' 4).en=0:=by
   have o:=p;rw[y]at o;exact o
  obtain⟨_,B,D⟩:=AO M;have E:=q.look g D;rw[B,E]at p y;rw[F,L,B,E];exact⟨D,p,y⟩
 refine⟨_,⟨λg i=>(j g i).2.2,RJ (q.give.of λg i=>(j g i).1) (s.give.of λg i=>(j g i).2.1) A,RJ (q.fold.of λg i=>(j g i).1) (s.fold.of λg i=>(j g i).2.1) A,λg n v σ i N O=>?_,λh=>jl h (by show¬(0:Int)=1;decide),λh=>jl h (by show¬(0:Int)=2;decide),λh=>jl h (by show¬(0:Int)=3;decide)⟩,ahX H K rfl⟩;have G:outcome v 35 (f n v σ) (f' n v σ)=lD (Oo (v.nJ (f n v σ)) (v.mG (f' n v σ))):=by simp[outcome]
 rw[G];exact⟨IZ _,λ_=>FQ _⟩
theorem aqj{t t':Int}{l r:Ex}(i:QX t l)(j:QX t' r)(a:Int):QX (t+1+t') (wG a l r):=by
 obtain⟨z,f,g,h⟩:=i;obtain⟨p,s,n,o⟩:=j;obtain⟨y,q⟩:=afq ⟨z,g,h⟩ ⟨p,n,o⟩ a;exact⟨y,_,q⟩
end
section
open Go.RowKit Hx
attribute [local go_sem ↓] Go.wp_at_zero Go.wp_at_succ
attribute [local go_sem] kN
section
variable {w w' w1 w2 w3 w4:jk}{C lo hi b d m k:Nat}{c:Ck}{u v:jm}{e f:Ex}{a:Int}{T:jo}{x:Sx}
structure AQ(d:Nat)(s:jI):Prop where
 ok:oI s
 jy:∀c,∃more,(s.does.look c).jy=c.jy++more/\more.length<=1
 look:∀w lo hi T b C c,s.here w lo hi (.iface T (Pt b 0))->hi<=C->kV w C c->c.jy.length+10000 * d<=805000->
  ∃f,(∀w,(method 576 T (Pt b 0) "helm/lang.look").run prog w=.ok (f,Pt b 0) w)/\Enters f/\
   Calls prog f #[Pt b 0,Pt C 0] w λen w'=>en=.returned (.tuple #[])/\s.here w' lo hi (.iface T (Pt b 0))/\kV w' C (s.does.look c)/\Lk w w' lo hi C
theorem Lr{c i:Ck}(h:i.jy=c.jy):∃g,i.jy=c.jy++g/\g.length<=1:=⟨[],by rw[h,aX],by simp⟩
theorem WG{T' T:jo}{at' jw:Int}{mk:List jm->List jm}{ds:Ds}{o:Ck}{l:jk}(y:kT e)(q:lo<=b)(r:b<hi)(z:hi<=C)(s:w.heap[b]? =some (.cells (Im at'::Im jw::mk [u]).toArray T))
 {n:Nat}(p:Lk w l 0 0 C)(h:og e e.at' l w1 lo b u n C o)(i:Lk w1 w2 0 0 C)(t:kV w2 C (ds.look c)):(yS T' T at' jw (oD (e.here e.at')) mk ds).here w2 lo hi (.iface T' (Pt b 0))/\kV w2 C ((yS T' T at' jw (oD (e.here e.at')) mk ds).does.look c)/\Lk w w2 lo hi C:=by
 have j:=(p.all _ _).trans (h.keep.trans (i.all _ _));have g:=(j.keep b (by omega) (je (aj _))).trans s;exact⟨⟨b,[u],rfl,q,r,⟨u,rfl,(y.law _).lk h.here i (by omega) (je (bD _))⟩,g⟩,t,j.wide (aj _) (by omega)⟩
theorem agA(a:Int):oI (yV a):=uO (by simp[o7]) C9 (by omega)
theorem auG(a i:Int)(h:kT e):oI (uQ a i e):=uO (by simp[o7]) (qW (h.law _)) (qx h.jw)
theorem atn(t:Wd)(h:kT e):oI (sV t e):=uO (by simp[o7]) (qW (h.law _)) (qx h.jw)
theorem apf(a:Int)(t:Wd)(h:kT e):oI (sF a t e):=uO (by simp[o7]) (qW (h.law _)) (qx h.jw)
theorem arA(a:Int)(h:kT e)(k:kT f):oI (sQ a e f):=uO (by simp[o7]) (wU (h.law _) (k.law _)) (rO h.jw k.jw)
theorem aso(d:Nat)(a:Int):AQ d (yV a):=by
 refine⟨agA a,λc=>Lr rfl,?_⟩;rintro w lo hi T b C c ⟨r,q,p,n,o,h,i⟩ s j t;cases p;refine⟨333,λw=>by kernel_rfl,λg w=>by kernel_rfl,?_⟩;have l:Hid ((yV a).here w lo hi (.iface 336 (Pt b 0))/\kV w C c/\Lk w w lo hi C):=⟨⟨b,q,rfl,n,o,h,i⟩,j,Lk.refl _ _ _ _⟩;clear i j h;go_enter func333,ntmps333;go_wp2_with fail;go_end0;exact⟨rfl,l.out⟩
theorem auF(h:mg k e)(R:k<=10000 * d)(a i:Int):AQ d (uQ a i e):=by
 refine⟨auG a i h.ok,λc=>Lr ?_,?_⟩
 .show((e.does.look c).want (e.does.jZ c.jy) e.at' 1).jy=c.jy;rw[wL,h.jy]
 rintro w lo hi T b C c ⟨O,W,N,J,K,⟨u,rfl,A⟩,s⟩ y z M;cases N;obtain⟨I,p,r,rfl,L,S,U,V,B,l⟩:=h.use (C:=C) (c:=c) A (by omega) z (by omega);have P:=jJ 3 s rfl;have B:∀g w,(callFunc r g).run prog w=.ok (.enter r g) w:=B;have l:Hid (Calls prog r #[Pt p 0,Pt C 0] w λq w'=>q=.returned (.tuple #[])/\og e e.at' w w' lo b (.iface I (Pt p 0)) p C c):=l;have n:=jA (jd h y);have t:=jA s;refine⟨320,λw=>by kernel_rfl,λg w=>by kernel_rfl,?_⟩;clear A s z M y h;go_enter func320,ntmps320;go_wp2_with fail;refine l.out.mono ?_;rintro q w1 ⟨rfl,o⟩;have j:=(o.keep.keep b (by have:=n.out.2;omega) (je (aj _))).trans t.out;have Q:=jJ 3 j rfl;have H:=jA (o.want n.out.1.ok 1 0);have G:=jA o;clear o j l;go_wp2_with fail;refine H.out.mono ?_;rintro q w2 ⟨rfl,D,E⟩;have F:Hid ((uQ a i e).here w2 lo hi (.iface 327 (Pt b 0))/\kV w2 C ((uQ a i e).does.look c)/\Lk w w2 lo hi C):=WG n.out.1.ok J K n.out.2 t.out (Lk.refl _ _ _ _) G.out E D;clear D E;go_wp2_with fail;go_end0;exact⟨rfl,F.out⟩
theorem ape(h:mg k e)(hk:k<=10000 * d)(a:Int)(t:Wd):AQ d (sF a t e):=by
 obtain⟨g,i⟩:=t;refine⟨apf a _ h.ok,λc=>⟨[⟨g,e.does.jZ (c.nD g i).jy,true⟩],?_,by simp⟩,?_⟩
 .show((e.does.look (c.nD g i)).add g (e.does.jZ (c.nD g i).jy) true).jy=_;unfold Ck.add;rw[h.jy,LW]
 rintro w lo hi T b C c ⟨b',us,hv,h1,h2,⟨u,rfl,L⟩,I⟩ R S hn;cases hv;obtain⟨Q,y,rfl,B,_⟩:=h.ok.head _ _ _ _ _ L;have c2:=jJ 2 I rfl;have c3:=jJ 3 I rfl;have O:=jA (U8 S g i (by omega));have l:Hid (mg k e/\hi<=C/\c.jy.length+k<=899999/\e.here e.at' w lo b (.iface Q (Pt y 0))):=⟨h,R,by omega,L⟩;have N:=jA I;refine⟨323,λw=>by kernel_rfl,λj w=>by kernel_rfl,?_⟩;have m2:=B.sort y;clear L I S hn R h;go_enter func323,ntmps323;go_wp2_with fail;refine O.out.mono ?_;rintro p V ⟨rfl,A,s⟩;have D:b<C:=by have:=l.out.2.1;omega
 have q:=(s.keep b D (je (bD _))).trans N.out;have d4:=jJ 4 q rfl;have E:=(l.out.1.ok.law _).lk l.out.2.2.2 s (by omega) (je (bD _));have r:=LW c g i;obtain⟨K,m1,U,H⟩:=l.out.1.look _ _ _ _ _ _ C _ E (by omega) A (by rw[r];have:=l.out.2.2.1;omega);have U:∀j w,(callFunc K j).run prog w=.ok (.enter K j) w:=U;have H:Hid (Calls prog K #[Pt y 0,Pt C 0] V λp w'=>p=.returned (.tuple #[])/\og e e.at' V w' lo b (.iface Q (Pt y 0)) y C (c.nD g i)):=H;have P:=jA (jd s q);clear A s q E O;go_wp2_with fail;refine H.out.mono ?_;rintro p w1 ⟨rfl,z⟩;have o:=(z.keep.keep b D (je (aj _))).trans P.out.2;have e2:=jJ 2 o rfl;have e3:=jJ 3 o rfl;have e4:=jJ 4 o rfl;have J:=jA (λn=>Ph y _ ((lu w1 n).cell z.kind (by simp)));have Y:Hid (∀n,Calls prog 326 #[Pt C 0,.agg #[.string g,Im i],Im (e.does.jZ (c.nD g i).jy),.bool true] (w1.drewN n) λp w'=>p=.returned (.tuple #[])/\kV w' C ((e.does.look (c.nD g i)).add g (e.does.jZ (c.nD g i).jy) true)/\Lk w1 w' 0 0 C):=λn=>by
  refine(U5 (z.ck.grow (lu w1 n)) g i _ true (by rw[l.out.1.jy,r];have:=l.out.2.2.1;omega)).mono ?_;rintro p w' ⟨r1,r2,r3⟩;exact⟨r1,r2,(Lk.grown (lu w1 n) z.ck.lt).trans r3⟩
 have X:=jA z;clear z o H r B;generalize F:e.does.jZ (c.nD g i).jy=kd at *;have Z:=jA F;clear F;go_wp2_with fail;refine nO 10 (by kernel_rfl) (by kernel_rfl) ?_;simp only[aC,aO,aG,aQ];repeat (go_big_quiet_step ((go_at_call 356;exact dN (J.out _))))
 refine bF ?_;intro _ M;obtain⟨n3,G⟩:=M;subst G;go_wp2_with fail;refine(Y.out _).mono ?_;rintro p w2 ⟨rfl,A,s⟩;rw[<-Z.out]at A;have W:Hid ((sF a ⟨g,i⟩ e).here w2 lo hi (.iface 331 (Pt b 0))/\kV w2 C ((sF a ⟨g,i⟩ e).does.look c)/\Lk w w2 lo hi C):=WG l.out.1.ok h1 h2 l.out.2.1 N.out P.out.1 X.out s A;clear A s;go_wp2_with fail;go_end0;exact⟨rfl,W.out⟩
end
end
end Go.Proofs.YthllhabjfchgiaaGreatDoor
