import Derived.Test.YthllhabjfchgiaaGreatDoorHk28
set_option maxRecDepth 100000
set_option maxHeartbeats 8000000
set_option linter.unusedSimpArgs false
namespace Go.Proofs.YthllhabjfchgiaaGreatDoor
open _root_.Go.Proofs.Tryz
section
open Go.RowKit Hx
structure qC(ck:Ck)(e:List (ji×Int))(σ:Int->Int):Prop where
 jF:∀i,0<=i->i<8->jJ (σ i)
 jy:ck.jy.map (λk=>k.name.data.toList)=e.map (λn=>n.1.data.toList)
 vals:∀(j:Nat)(k:Kn)(n:ji×Int),ck.jy[j]? =some k->e[j]? =some n->jJ n.2/\(k.kind=2->n.2=0\/n.2=1)
theorem Ty.env{ck:Ck}{c:Co}{σ:Int->Int}(h:Ty ck c σ)(hf:Fit ck c):qC ck (lS c σ) σ:=by
 refine⟨h.jF,by rw[hf.jy,lS,List.map_map];rfl,λj k n hk hn=>?_⟩;unfold lS at hn;rw[fV]at hn;cases hc:c.jy[j]?with
 |none=>rw[hc]at hn;cases hn
 |some q=>
  rw[hc]at hn;simp only[iH,bJ]at hn;subst hn;exact⟨h.num q (bT hc),h.kW j k q hk hc⟩
theorem Mx.eq{P:Ck->Prop}{g:Co->Int->Co×Int}{z:Sz}{f f':Val}(h:Mx P g z f)(hc:uy f')(he:∀ck e v σ,P ck->qC ck e σ->nM v->f e v σ=f' e v σ):Mx P g z f':=
 ⟨hc,λck c into hf hP hw hi=>by
   obtain⟨fr,r,q,e,x,w⟩:=h.lay ck c into hf hP hw hi;refine⟨fr,r,q,e,x,λv S jF k lp m hv hS hd hll hl ht=>?_⟩;obtain⟨m',g1,g2,g3⟩:=w v S jF k lp m hv hS hd hll hl ht;exact⟨m',g1,by rw[g2];exact he ck _ v _ hP (ht.env hf) hv,g3⟩⟩
def lg(e:Ex)(ck:Ck):Prop:=(e.does.look ck).en=0
structure MX(e:Ex)(z:Sz)(f:Val):Prop where
 look:∀ck,lg e ck->e.does.look ck=ck
 give:Mx (lg e) e.does.give z f
 fold:Mx (lg e) e.does.fd.give z f
 ty:∀ck en v σ,lg e ck->qC ck en σ->nM v->jJ (f en v σ)/\(e.does.jW ck.jy=2->f en v σ=0\/f en v σ=1)
 EJ:e.does.fd.tag=1->∀ck,lg e ck->jJ e.does.fd.val/\(∀en v σ,qC ck en σ->nM v->f en v σ=e.does.fd.val)/\e.does.jW ck.jy=1
 DJ:e.does.fd.tag=2->∀ck,lg e ck->(e.does.fd.val=0\/e.does.fd.val=1)/\(∀en v σ,qC ck en σ->nM v->f en v σ=e.does.fd.val)/\e.does.jW ck.jy≠1
 NR:e.does.fd.tag=3->∃f',Mx (lg e) e.does.fd.sub z f'/\∀ck en v σ,lg e ck->qC ck en σ->nM v->jJ (f' en v σ)/\((e.does.jW ck.jy=1/\f en v σ=wrap64 (-f' en v σ))\/(e.does.jW ck.jy=2/\(f' en v σ=0\/f' en v σ=1)/\f en v σ=kW (f' en v σ==0)))
structure BG(t:Int)(e:Ex)(z:Sz):Prop where
 tok:1<=t
 wide:0<=z.wide/\2 * z.wide<=t+1
 jL:0<=z.jL/\z.jL<=20 * t
 jC:0<=z.jC
 jw:0<=e.jw/\e.jw<=1000001
 all:e.jw<=1000000->z.jC<=40 * e.jw+1/\((8^z.deep:Nat):Int)<=e.jw+1
def QX(t:Int)(e:Ex):Prop:=∃z f,MX e z f/\BG t e z
def QF(t:Int)(e:Ex)(f:Val):Prop:=∃z,MX e z f/\BG t e z
theorem rX(a n:Int)(hn:jJ n):QF 1 (kN a n) (λ_ _ _=>n):=by
 refine⟨⟨1,0,1,13⟩,⟨λck _=>rfl,Nb _ n hn,Nb _ n hn,λck en v σ _ _ _=>⟨hn,λh=>jl h (by show¬(1:Int)=2;decide)⟩,λ_ _ _=>⟨hn,λ_ _ _ _ _=>rfl,rfl⟩,λh=>jl h (by show¬(1:Int)=2;decide),λh=>jl h (by show¬(1:Int)=3;decide)⟩,⟨by omega,by decide,by decide,by decide,by show(0:Int)<=1/\(1:Int)<=1000001;decide,λ_=>by show(1:Int)<=40 * 1+1/\((8^0:Nat):Int)<=1+1;decide⟩⟩
theorem aoB(a n:Int)(hn:jJ n):QX 1 (kN a n):=by
 obtain⟨z',q⟩:=rX a n hn;exact⟨z',_,q⟩
theorem atx(a jw kind:Int)(hk:kind=2\/kind=0)(hc:0<=jw/\jw<=1000001)(b:Bool):QF 1 (zY a jw kind b) (λ_ _ _=>if b then 1 else 0):=by
 have hv:∀b:Bool,(if b then (1:Int)else 0)=0\/(if b then (1:Int)else 0)=1:=λb=>by cases b<;>simp
 have hn:jJ (if b then (1:Int)else 0):=by cases b<;>(unfold jJ;simp)
 refine⟨⟨1,0,1,13⟩,⟨λck _=>rfl,Nb _ _ hn,Nb _ _ hn,λck en v σ _ _ _=>⟨hn,λ_=>hv b⟩,λh=>jl h (by show¬(2:Int)=1;decide),λ_ _ _=>⟨hv b,λ_ _ _ _ _=>rfl,by show kind≠1;omega⟩,λh=>jl h (by show¬(2:Int)=3;decide)⟩,⟨by omega,by decide,by decide,by decide,hc,λ_=>⟨by show(1:Int)<=40 * jw+1;omega,by show((8^0:Nat):Int)<=jw+1;omega⟩⟩⟩
theorem agL(a jw kind:Int)(hk:kind=2\/kind=0)(hc:0<=jw/\jw<=1000001)(b:Bool):QX 1 (zY a jw kind b):=by
 obtain⟨z',q⟩:=atx a jw kind hk hc b;exact⟨z',_,q⟩
theorem ED(a i:Int)(hi:0<=i/\i<8):QF 1 (wQ a i) (λ_ _ σ=>σ i):=by
 have h0:Mx (lg (wQ a i)) (λc _=>(c,i)) ⟨0,0,0,0⟩ (λ_ _ σ=>σ i):=af2 _ (λ_=>i) _ (λ_ _ σ τ h=>h i hi.1 hi.2) λck c hf _=>⟨hi.1,by have:=hf.free;omega,λ_ _=>rfl⟩;exact⟨⟨0,0,0,0⟩,⟨λck _=>rfl,h0,h0,λck en v σ _ ht _=>⟨ht.jF i hi.1 hi.2,λh=>jl h (by show¬(1:Int)=2;decide)⟩,λh=>jl h (by show¬(0:Int)=1;decide),λh=>jl h (by show¬(0:Int)=2;decide),λh=>jl h (by show¬(0:Int)=3;decide)⟩,⟨by omega,by decide,by decide,by decide,by show(0:Int)<=1/\(1:Int)<=1000001;decide,λ_=>by show(0:Int)<=40 * 1+1/\((8^0:Nat):Int)<=1+1;decide⟩⟩
theorem aqR(a i:Int)(hi:0<=i/\i<8):QX 1 (wQ a i):=by
 obtain⟨z',q⟩:=ED a i hi;exact⟨z',_,q⟩
def lookup(t:ji)(e:List (ji×Int)):Int:=((e.find? λn=>n.1.data.toList==t.data.toList).map (·.2)).getD 0
theorem TL{t:ji}:∀{ks:List Kn}{ns:List (ji×Int)},ks.map (λk=>k.name.data.toList)=ns.map (λn=>n.1.data.toList)->(lJ ks t).kind≠0->
 ∃(j:Nat)(k:Kn)(n:ji×Int),ks[j]? =some k/\ns[j]? =some n/\lJ ks t=k/\ns.find? (λn=>n.1.data.toList==t.data.toList)=some n
 |[],[],_,h=>jl rfl h
 |[],_::_,h,_=>by simp at h
 |_::_,[],h,_=>by simp at h
 |k::ks,n::ns,h,hk=>by
  simp only[dL,iy]at h;by_cases he:(k.name.data.toList==t.data.toList)=true
  .refine⟨0,k,n,rfl,rfl,?_,?_⟩
   .unfold lJ;rw[fF,he]
    rfl
   .rw[fF,show(n.1.data.toList==t.data.toList)=true by rw[<-h.1];exact he]
  .have he:(k.name.data.toList==t.data.toList)=false:=by simpa using he
   have e1:lJ (k::ks) t=lJ ks t:=by
    unfold lJ;rw[fF,he]
   rw[e1]at hk;obtain⟨j,k',n',q1,q2,q3,q4⟩:=TL h.2 hk;refine⟨j+1,k',n',q1,q2,by rw[e1];exact q3,?_⟩;rw[fF,show(n.1.data.toList==t.data.toList)=false by rw[<-h.1];exact he];exact q4
theorem akB(c:Co)(σ:Int->Int)(t:ji):(lS c σ).find? (λn=>n.1.data.toList==t.data.toList)=(c.jy.find? λn=>n.1.data.toList==t.data.toList).map λn=>(n.1,σ n.2):=by
 unfold lS;rw[List.find?_map]
 rfl
theorem YK{a:Int}{t:Wd}{ck:Ck}(h:lg (oZ a t) ck):(lJ ck.jy t.text).kind≠0/\ck.en=0:=by
 have h:(if (lJ ck.jy t.text).kind=0 then ck.fail 2 t.at' else ck).en=0:=h;split at h
 .unfold Ck.fail at h;split at h
  .exact jl h (by show¬(2:Int)=0;decide)
  .rename_i hn;exact jl h hn
 .rename_i hk;exact⟨hk,h⟩
theorem sU(a:Int)(t:Wd):QF 1 (oZ a t) (λe _ _=>lookup t.text e):=by
 have h0:Mx (lg (oZ a t)) (λc _=>(c,c.wu t.text)) ⟨0,0,0,0⟩ (λe _ _=>lookup t.text e):=by
  refine af2 _ (λns=>((ns.find? λn=>n.1.data.toList==t.text.data.toList).map (·.2)).getD (-1)) _ (λ_ _ _ _ _=>rfl) λck c hf hP=>?_;obtain⟨j,k,n,q1,q2,q3,q4⟩:=TL hf.jy (YK hP).1;have hs:=hf.jD n (bT q2);refine⟨?_,?_,λv σ=>?_⟩
  .rw[q4];exact hs.1
  .rw[q4];exact hs.2
  .rw[q4];unfold lookup;rw[akB,q4]
   rfl
 refine⟨⟨0,0,0,0⟩,⟨λck h=>?_,h0,h0,λck en v σ h ht _=>?_,λh=>jl h (by show¬(0:Int)=1;decide),λh=>jl h (by show¬(0:Int)=2;decide),λh=>jl h (by show¬(0:Int)=3;decide)⟩,⟨by omega,by decide,by decide,by decide,by show(0:Int)<=1/\(1:Int)<=1000001;decide,λ_=>by show(0:Int)<=40 * 1+1/\((8^0:Nat):Int)<=1+1;decide⟩⟩
 .show(if (lJ ck.jy t.text).kind=0 then ck.fail 2 t.at' else ck)=ck;rw[jg (YK h).1]
 .obtain⟨j,k,n,q1,q2,q3,q4⟩:=TL ht.jy (YK h).1;obtain⟨v1,v2⟩:=ht.vals j k n q1 q2;have e:lookup t.text en=n.2:=by unfold lookup;rw[q4];rfl
  show jJ (lookup t.text en)/\((lJ ck.jy t.text).kind=2->lookup t.text en=0\/lookup t.text en=1);rw[e,q3];exact⟨v1,v2⟩
theorem atQ(a:Int)(t:Wd):QX 1 (oZ a t):=by
 obtain⟨z',q⟩:=sU a t;exact⟨z',_,q⟩
theorem YP{t:Int}{e:Ex}{f:Val}(h:QF t e f)(a:Int):QF t (e.widen a) (f):=by
 obtain⟨z,h1,h2⟩:=h;exact⟨z,⟨h1.look,h1.give,h1.fold,h1.ty,h1.EJ,h1.DJ,h1.NR⟩,⟨h2.tok,h2.wide,h2.jL,h2.jC,h2.jw,h2.all⟩⟩
theorem atX{t:Int}{e:Ex}(h:QX t e)(a:Int):QX t (e.widen a):=by
 obtain⟨z,f,h1,h2⟩:=h;obtain⟨z',q⟩:=YP ⟨z,h1,h2⟩ a;exact⟨z',_,q⟩
theorem Aa{c:Ck}{k a is:Int}(h:(c.want k a is).en=0):k=is/\c.want k a is=c/\c.en=0:=by
 unfold Ck.want at h⊢;by_cases hk:k=is
 .rw[jh hk]at h⊢;exact⟨hk,rfl,h⟩
 .rw[jg hk]at h;unfold Ck.fail at h;split at h
  .exact jl h (by show¬(3:Int)=0;decide)
  .rename_i hn;exact jl h hn
theorem TG{c:Ck}{e a:Int}(he:e≠0):(c.fail e a).en≠0:=by
 unfold Ck.fail;split
 .exact he
 .rename_i hn;exact hn
theorem Vp{c:Ck}{t:ji}{a:Int}(h:(c.nG t a).en=0):(lJ c.jy t).kind=0/\c.nG t a=c/\c.en=0:=by
 unfold Ck.nG at h⊢;by_cases hk:(lJ c.jy t).kind=0
 .rw[jh hk]at h⊢;exact⟨hk,rfl,h⟩
 .rw[jg hk]at h;exact jl h (TG (by decide))
theorem Ri{t:Int}{e e':Ex}{z:Sz}(h:BG t e z)(hc:e'.jw=jR [e.jw]):BG (t+1) e' ⟨max z.wide 1,z.deep,z.jC+1,z.jL+13⟩:=by
 have h1:=h.wide;have h2:=h.jL;have h3:=h.tok;have h4:=h.jC;have h5:=h.jw;refine⟨by omega,⟨by show 0<=max z.wide 1;omega,by show 2 * max z.wide 1<=t+1+1;omega⟩,⟨by show 0<=z.jL+13;omega,by show z.jL+13<=20 * (t+1);omega⟩,by show 0<=z.jC+1;omega,by rw[hc];exact qj h5,λhk=>?_⟩;rw[hc]at hk;have hp:=yG h5.1 h5.2 hk;obtain⟨a1,a2⟩:=h.all (by omega);rw[hc,hp];exact⟨by show z.jC+1<=_;omega,by show((8^z.deep:Nat):Int)<=_;omega⟩
theorem O7{P:Ck->Prop}{g:Co->Int->Co×Int}{z:Sz}{f:Val}(h:Mx P g z f):Mx P g ⟨max z.wide 1,z.deep,z.jC+1,z.jL+13⟩ f:=h.grow (by show z.wide<=max z.wide 1;omega) (aj _) (by show z.jC<=z.jC+1;omega) (by show z.jL<=z.jL+13;omega)
theorem FW{P:Ck->Prop}{g:Co->Int->Co×Int}{z:Sz}{f:Val}{o:Int}(h:Mx P g z f)(ho:rO o):Mx P (λc into=>c.one o into {give:=g}) ⟨max z.wide 1,z.deep,z.jC+1,z.jL+13⟩ (λns v σ=>outcome v o (f ns v σ) 0):=(aoQ h ho).grow (aV _) (aj _) (aV _) (by show z.jL+5<=z.jL+13;omega)
theorem U2{P:Ck->Prop}{n:Int}{z:Sz}{f:Val}(hc:uy f)(hz:1<=z.wide/\1<=z.jC/\13<=z.jL)(h:∀ck,P ck->jJ n/\∀en v σ,qC ck en σ->nM v->f en v σ=n):Mx P (wO n) z f:=
 ⟨hc,λck c into hf hP hw hi=>by
   obtain⟨h1,h2⟩:=h ck hP;have hm:Mx (λq=>q=ck) (wO n) z f:=((Nb (λq=>q=ck) n h1).grow hz.1 (bD _) hz.2.1 hz.2.2).eq hc λwI en v σ e ht hv=>by
    subst e;exact(h2 en v σ ht hv).symm
   exact hm.lay ck c into hf rfl hw hi⟩
theorem adF{P:Ck->Prop}{g:Co->Int->Co×Int}{z:Sz}{f:Val}(hc:uy f)(h:∀ck,¬P ck):Mx P g z f:=⟨hc,λck _ _ _ hP=>jl hP (h ck)⟩
theorem ao9(v:Vw)(a:Int):outcome v 8 a 0=wrap64 (-a):=by simp[outcome]
theorem apa(v:Vw)(a:Int):outcome v 9 a 0=kW (a==0):=by simp[outcome]
theorem wrap_wrap(a:Int)(h:jJ a):wrap64 (-wrap64 (-a))=a:=by unfold jJ at h;unfold wrap64;omega
theorem EK(b:Bool):kW b=0\/kW b=1:=by cases b<;>simp[kW]
theorem amm{t:Int}{e:Ex}{f:Val}(h:QF t e f)(a:Int):QF (t+1) (yZ a e) (λen v σ=>outcome v 27 (f en v σ) 0):=by
 obtain⟨z,h1,h2⟩:=h;have hl:∀ck,lg (yZ a e) ck->lg e ck/\(yZ a e).does.look ck=ck:=λck hk=>by
  have hk:(if e.does.jW ck.jy=3 then e.does.look ck else (e.does.look ck).want (e.does.jW ck.jy) e.at' 4).en=0:=hk;show lg e ck/\(if e.does.jW ck.jy=3 then e.does.look ck else (e.does.look ck).want (e.does.jW ck.jy) e.at' 4)=ck;split at hk
  .rename_i h3;rw[jh h3];exact⟨hk,h1.look ck hk⟩
  .rename_i h3;rw[jg h3];obtain⟨_,q2,q3⟩:=Aa hk;rw[q2];exact⟨q3,h1.look ck q3⟩
 refine⟨_,⟨λck hk=>(hl ck hk).2,(FW h1.give (o:=27) (by unfold rO;omega)).of λck hk=>(hl ck hk).1,(FW h1.fold (o:=27) (by unfold rO;omega)).of λck hk=>(hl ck hk).1,λck en v σ hk ht hv=>?_,λh=>jl h (by show¬(0:Int)=1;decide),λh=>jl h (by show¬(0:Int)=2;decide),λh=>jl h (by show¬(0:Int)=3;decide)⟩,Ri h2 rfl⟩;have e1:outcome v 27 (f en v σ) 0=kW (f en v σ== -1):=by simp[outcome]
 rw[e1];exact⟨He _,λ_=>EK _⟩
theorem aml{t:Int}{e:Ex}(h:QX t e)(a:Int):QX (t+1) (yZ a e):=by
 obtain⟨z,f,h1,h2⟩:=h;obtain⟨z',q⟩:=amm ⟨z,h1,h2⟩ a;exact⟨z',_,q⟩
theorem ad8{a kind:Int}{sign:ji}{e:Ex}{z:Sz}{f:Val}(h:MX e z f){ck:Ck}(hk:lg (oV a kind sign e) ck):lg e ck/\e.does.jW ck.jy=kind/\(oV a kind sign e).does.look ck=ck:=by
 have hk:=hk;obtain⟨q1,q2,q3⟩:=Aa hk;refine⟨q3,q1,?_⟩;show(e.does.look ck).want (e.does.jW ck.jy) e.at' kind=ck;rw[q2];exact h.look ck q3
theorem Qk{t:Int}{e:Ex}{f:Val}(h:QF t e f)(a:Int)(sign:ji)(hs:sign.data.toList=[45]):QF (t+1) (oV a 1 sign e) (λen v σ=>wrap64 (-f en v σ)):=by
 obtain⟨z,h1,h2⟩:=h;have hsg:(sign.data.toList==[45])=true:=by rw[hs];rfl
 have ho:rO 8:=by unfold rO;omega
 have h4:=h2.jC;have h5:=h2.jL;have hcg:uy (λen v σ=>wrap64 (-f en v σ)):=λen v σ τ hh=>by show wrap64 (-f en v σ)=wrap64 (-f en v τ);rw[h1.give.pJ en v σ τ hh]
 have hout:(λ(ns:List (ji×Int)) v σ=>outcome v 8 (f ns v σ) 0)=(λen v σ=>wrap64 (-f en v σ)):=by
  funext en v σ
  exact ao9 v _
 have hfd:(oV a 1 sign e).does.fd=ug 1 sign e.does.fd:=rfl;have hkl:=λck (hk:lg (oV a 1 sign e) ck)=>ad8 h1 hk;refine⟨_,⟨λck hk=>(hkl ck hk).2.2,?_,?_,λck en v σ hk ht hv=>⟨Dv _,λh=>jl h (by show¬(1:Int)=2;decide)⟩,?_,?_,?_⟩,Ri h2 rfl⟩
 .rw[<-hout];have:=(FW h1.give ho).of λck hk=>(hkl ck hk).1;show Mx _ (λc into=>c.one (if sign.data.toList==[45]then 8 else 9) into e.does) _ _;rw[hsg];exact this
 .rw[hfd];unfold ug;by_cases t1:e.does.fd.tag=1
  .rw[jh t1];have hlit:sF 1 (wrap64 (-e.does.fd.val))={tag:=1,val:=wrap64 (-e.does.fd.val),give:=wO (wrap64 (-e.does.fd.val))}:=jg (by decide);rw[hlit];refine U2 hcg ⟨by show 1<=max z.wide 1;omega,by show 1<=z.jC+1;omega,by show 13<=z.jL+13;omega⟩ λck hk=>?_;obtain⟨_,q2,_⟩:=h1.EJ t1 ck (hkl ck hk).1;exact⟨Dv _,λen v σ ht hv=>by rw[q2 en v σ ht hv]⟩
  .rw[jg t1];by_cases t2:e.does.fd.tag=2
   .rw[jh t2];refine adF hcg λck hk=>?_;obtain⟨p1,p2,_⟩:=hkl ck hk;exact(h1.DJ t2 ck p1).2.2 p2
   .rw[jg t2];by_cases t3:e.does.fd.tag=3
    .rw[jh t3];obtain⟨f',m1,m2⟩:=h1.NR t3;refine O7 ((m1.of λck hk=>(hkl ck hk).1).eq hcg λck en v σ hk ht hv=>?_);obtain⟨p1,p2,_⟩:=hkl ck hk;obtain⟨r1,r2⟩:=m2 ck en v σ p1 ht hv;rcases r2 with⟨_,r2⟩|⟨r3,_⟩
     .rw[r2,wrap_wrap _ r1]
     .omega
    .rw[jg t3,<-hout];have:=(FW h1.fold ho).of λck hk=>(hkl ck hk).1;rw[hsg];exact this
 .intro tg ck hk;rw[hfd]at tg⊢;obtain⟨p1,p2,_⟩:=hkl ck hk;unfold ug at tg⊢;by_cases t1:e.does.fd.tag=1
  .rw[jh t1];have hlit:sF 1 (wrap64 (-e.does.fd.val))={tag:=1,val:=wrap64 (-e.does.fd.val),give:=wO (wrap64 (-e.does.fd.val))}:=jg (by decide);rw[hlit];obtain⟨_,q2,_⟩:=h1.EJ t1 ck p1;exact⟨Dv _,λen v σ ht hv=>by show wrap64 (-f en v σ)=wrap64 (-e.does.fd.val);rw[q2 en v σ ht hv],rfl⟩
  .rw[jg t1]at tg;by_cases t2:e.does.fd.tag=2
   .exact jl p2 (h1.DJ t2 ck p1).2.2
   .rw[jg t2]at tg;by_cases t3:e.does.fd.tag=3
    .rw[jh t3]at tg;exact jl tg (by show¬(0:Int)=1;decide)
    .rw[jg t3]at tg;exact jl tg (by show¬(3:Int)=1;decide)
 .intro tg ck hk;rw[hfd]at tg;obtain⟨p1,p2,_⟩:=hkl ck hk;unfold ug at tg;by_cases t1:e.does.fd.tag=1
  .rw[jh t1,show sF 1 (wrap64 (-e.does.fd.val))={tag:=1,val:=wrap64 (-e.does.fd.val),give:=wO (wrap64 (-e.does.fd.val))}from jg (by decide)]at tg;exact jl tg (by show¬(1:Int)=2;decide)
  .rw[jg t1]at tg;by_cases t2:e.does.fd.tag=2
   .exact jl p2 (h1.DJ t2 ck p1).2.2
   .rw[jg t2]at tg;by_cases t3:e.does.fd.tag=3
    .rw[jh t3]at tg;exact jl tg (by show¬(0:Int)=2;decide)
    .rw[jg t3]at tg;exact jl tg (by show¬(3:Int)=2;decide)
 .intro tg;rw[hfd]at tg⊢;unfold ug at tg⊢;by_cases t1:e.does.fd.tag=1
  .rw[jh t1,show sF 1 (wrap64 (-e.does.fd.val))={tag:=1,val:=wrap64 (-e.does.fd.val),give:=wO (wrap64 (-e.does.fd.val))}from jg (by decide)]at tg;exact jl tg (by show¬(1:Int)=3;decide)
  .rw[jg t1]at tg⊢;by_cases t2:e.does.fd.tag=2
   .rw[jh t2]at tg⊢;rw[show∀n,sF 1 n={tag:=1,val:=n,give:=wO n}fromλn=>jg (by decide)]at tg;exact jl tg (by show¬(1:Int)=3;decide)
   .rw[jg t2]at tg⊢;by_cases t3:e.does.fd.tag=3
    .rw[jh t3]at tg;exact jl tg (by show¬(0:Int)=3;decide)
    .rw[jg t3];refine⟨f,O7 (h1.fold.of λck hk=>(hkl ck hk).1),λck en v σ hk ht hv=>?_⟩;obtain⟨p1,p2,_⟩:=hkl ck hk;exact⟨(h1.ty ck en v σ p1 ht hv).1,jf ⟨rfl,rfl⟩⟩
theorem aoc{t:Int}{e:Ex}(h:QX t e)(a:Int)(sign:ji)(hs:sign.data.toList=[45]):QX (t+1) (oV a 1 sign e):=by
 obtain⟨z,f,h1,h2⟩:=h;obtain⟨z',q⟩:=Qk ⟨z,h1,h2⟩ a sign hs;exact⟨z',_,q⟩
theorem adQ{t:Int}{e:Ex}{f:Val}(h:QF t e f)(a:Int)(sign:ji)(hs:sign.data.toList=[33]):QF (t+1) (oV a 2 sign e) (λen v σ=>kW (f en v σ==0)):=by
 obtain⟨z,h1,h2⟩:=h;have hsg:(sign.data.toList==[45])=false:=by rw[hs];rfl
 have ho:rO 9:=by unfold rO;omega
 have h4:=h2.jC;have h5:=h2.jL;have hcg:uy (λen v σ=>kW (f en v σ==0)):=λen v σ τ hh=>by show kW (f en v σ==0)=kW (f en v τ==0);rw[h1.give.pJ en v σ τ hh]
 have hout:(λ(ns:List (ji×Int)) v σ=>outcome v 9 (f ns v σ) 0)=(λen v σ=>kW (f en v σ==0)):=by
  funext en v σ
  exact apa v _
 have hfd:(oV a 2 sign e).does.fd=ug 2 sign e.does.fd:=rfl;have hkl:=λck (hk:lg (oV a 2 sign e) ck)=>ad8 h1 hk;have hlit:∀n,sF 2 n={tag:=2,val:=if n=0 then 0 else 1,give:=Gm (decide (n≠0))}:=λn=>jh rfl;have Jr:∀x:Int,x=0\/x=1->(Gm (decide ((if x=0 then (1:Int)else 0)≠0))=wO (kW (x==0))/\(if (if x=0 then (1:Int)else 0)=0 then (0:Int)else 1)=kW (x==0)):=λx hx=>by
  rcases hx with rfl|rfl<;>exact⟨rfl,rfl⟩
 refine⟨_,⟨λck hk=>(hkl ck hk).2.2,?_,?_,λck en v σ hk ht hv=>⟨He _,λ_=>EK _⟩,?_,?_,?_⟩,Ri h2 rfl⟩
 .rw[<-hout];have:=(FW h1.give ho).of λck hk=>(hkl ck hk).1;show Mx _ (λc into=>c.one (if sign.data.toList==[45]then 8 else 9) into e.does) _ _;rw[hsg];exact this
 .rw[hfd];unfold ug;by_cases t1:e.does.fd.tag=1
  .rw[jh t1];refine adF hcg λck hk=>?_;obtain⟨p1,p2,_⟩:=hkl ck hk;have:=(h1.EJ t1 ck p1).2.2;omega
  .rw[jg t1];by_cases t2:e.does.fd.tag=2
   .rw[jh t2,hlit];refine⟨hcg,λck c into hf hP hw hi=>?_⟩;obtain⟨q1,q2,_⟩:=h1.DJ t2 ck (hkl ck hP).1;obtain⟨r1,r2⟩:=Jr _ q1;have hm:Mx (λq=>q=ck) (wO (kW (e.does.fd.val==0))) ⟨max z.wide 1,z.deep,z.jC+1,z.jL+13⟩ (λen v σ=>kW (f en v σ==0)):=U2 hcg ⟨by show 1<=max z.wide 1;omega,by show 1<=z.jC+1;omega,by show 13<=z.jL+13;omega⟩ λwI e'=>by
     subst e';exact⟨He _,λen v σ ht hv=>by rw[q2 en v σ ht hv]⟩
    rw[r1];exact hm.lay ck c into hf rfl hw hi
   .rw[jg t2];by_cases t3:e.does.fd.tag=3
    .rw[jh t3];obtain⟨f',m1,m2⟩:=h1.NR t3;refine O7 ((m1.of λck hk=>(hkl ck hk).1).eq hcg λck en v σ hk ht hv=>?_);obtain⟨p1,p2,_⟩:=hkl ck hk;obtain⟨r1,r2⟩:=m2 ck en v σ p1 ht hv;rcases r2 with⟨r3,_⟩|⟨_,r3,r4⟩
     .omega
     .rw[r4];rcases r3 with r3|r3<;>rw[r3]<;>rfl
    .rw[jg t3,<-hout];have:=(FW h1.fold ho).of λck hk=>(hkl ck hk).1;rw[hsg];exact this
 .intro tg ck hk;rw[hfd]at tg;obtain⟨p1,p2,_⟩:=hkl ck hk;unfold ug at tg;by_cases t1:e.does.fd.tag=1
  .have:=(h1.EJ t1 ck p1).2.2;omega
  .rw[jg t1]at tg;by_cases t2:e.does.fd.tag=2
   .rw[jh t2,hlit]at tg;exact jl tg (by show¬(2:Int)=1;decide)
   .rw[jg t2]at tg;by_cases t3:e.does.fd.tag=3
    .rw[jh t3]at tg;exact jl tg (by show¬(0:Int)=1;decide)
    .rw[jg t3]at tg;exact jl tg (by show¬(3:Int)=1;decide)
 .intro tg ck hk;rw[hfd]at tg⊢;obtain⟨p1,p2,_⟩:=hkl ck hk;unfold ug at tg⊢;by_cases t1:e.does.fd.tag=1
  .have:=(h1.EJ t1 ck p1).2.2;omega
  .rw[jg t1]at tg⊢;by_cases t2:e.does.fd.tag=2
   .rw[jh t2,hlit];obtain⟨q1,q2,_⟩:=h1.DJ t2 ck p1;obtain⟨r1,r2⟩:=Jr _ q1;refine⟨?_,λen v σ ht hv=>?_,by show¬(2:Int)=1;decide⟩
    .show(if (if e.does.fd.val=0 then (1:Int)else 0)=0 then (0:Int)else 1)=0\/_=1;rw[r2];exact EK _
    .show kW (f en v σ==0)=(if (if e.does.fd.val=0 then (1:Int)else 0)=0 then (0:Int)else 1);rw[r2,q2 en v σ ht hv]
   .rw[jg t2]at tg;by_cases t3:e.does.fd.tag=3
    .rw[jh t3]at tg;exact jl tg (by show¬(0:Int)=2;decide)
    .rw[jg t3]at tg;exact jl tg (by show¬(3:Int)=2;decide)
 .intro tg;rw[hfd]at tg⊢;unfold ug at tg⊢;by_cases t1:e.does.fd.tag=1
  .rw[jh t1,hlit]at tg;exact jl tg (by show¬(2:Int)=3;decide)
  .rw[jg t1]at tg⊢;by_cases t2:e.does.fd.tag=2
   .rw[jh t2,hlit]at tg;exact jl tg (by show¬(2:Int)=3;decide)
   .rw[jg t2]at tg⊢;by_cases t3:e.does.fd.tag=3
    .rw[jh t3]at tg;exact jl tg (by show¬(0:Int)=3;decide)
    .rw[jg t3];refine⟨f,O7 (h1.fold.of λck hk=>(hkl ck hk).1),λck en v σ hk ht hv=>?_⟩;obtain⟨p1,p2,_⟩:=hkl ck hk;obtain⟨y1,y2⟩:=h1.ty ck en v σ p1 ht hv;exact⟨y1,je ⟨rfl,y2 p2,rfl⟩⟩
theorem aou{t:Int}{e:Ex}(h:QX t e)(a:Int)(sign:ji)(hs:sign.data.toList=[33]):QX (t+1) (oV a 2 sign e):=by
 obtain⟨z,f,h1,h2⟩:=h;obtain⟨z',q⟩:=adQ ⟨z,h1,h2⟩ a sign hs;exact⟨z',_,q⟩
theorem apJ(u:List UInt8):rO (xC u)/\((pG u).2=2->xC u=32):=by
 unfold xC pG rO;repeat' split
 all_goals (constructor<;>simp)
theorem apO{t:Int}{e:Ex}{f:Val}(h:QF t e f)(a:Int)(d:Wd):QF (t+1) (vY a (pG d.text.data.toList).2 (pG d.text.data.toList).1 e d) (λen v σ=>outcome v (xC d.text.data.toList) (f en v σ) 0):=by
 obtain⟨z,h1,h2⟩:=h;obtain⟨ho,hk2⟩:=apJ d.text.data.toList;generalize hkd:pG d.text.data.toList=kd at hk2;obtain⟨owner,kind⟩:=kd;have hl:∀ck,lg (vY a kind owner e d) ck->lg e ck/\(vY a kind owner e d).does.look ck=ck:=λck hk=>by
  have hk:=hk;show lg e ck/\(if owner=0 then (e.does.look ck).fail 2 d.at' else e.does.look ck).want (e.does.jW ck.jy) e.at' owner=ck;obtain⟨_,q2,q3⟩:=Aa hk;rw[q2];split at q3
  .exact jl q3 (TG (by decide))
  .rename_i hn;rw[jg hn];exact⟨q3,h1.look ck q3⟩
 refine⟨_,⟨λck hk=>(hl ck hk).2,(FW h1.give ho).of λck hk=>(hl ck hk).1,(FW h1.fold ho).of λck hk=>(hl ck hk).1,λck en v σ hk ht hv=>⟨Uz hv.1 _ _ _ (h1.ty ck en v σ (hl ck hk).1 ht hv).1,λhkk=>?_⟩,λh=>jl h (by show¬(0:Int)=1;decide),λh=>jl h (by show¬(0:Int)=2;decide),λh=>jl h (by show¬(0:Int)=3;decide)⟩,Ri h2 rfl⟩;have hkk:=hkk;rw[hk2 hkk];have e1:outcome v 32 (f en v σ) 0=JU 32 (v.sN (f en v σ)):=by simp[outcome]
 rw[e1];cases v.sN (f en v σ)with
 |none=>exact jf rfl
 |some r=>exact EK r.U8
theorem apN{t:Int}{e:Ex}(h:QX t e)(a:Int)(d:Wd):QX (t+1) (vY a (pG d.text.data.toList).2 (pG d.text.data.toList).1 e d):=by
 obtain⟨z,f,h1,h2⟩:=h;obtain⟨z',q⟩:=apO ⟨z,h1,h2⟩ a d;exact⟨z',_,q⟩
theorem agB{t t':Int}{e e' q:Ex}{z z':Sz}(h:BG t e z)(h':BG t' e' z')(hc:q.jw=jR [e.jw,e'.jw]):BG (t+1+t') q ⟨max (max z.wide (1+z'.wide)) 1,max z.deep z'.deep,z.jC+z'.jC+1,z.jL+z'.jL+13⟩:=by
 have h1:=h.wide;have h2:=h.jL;have h3:=h.tok;have h4:=h.jC;have h5:=h.jw;have k1:=h'.wide;have k2:=h'.jL;have k3:=h'.tok;have k4:=h'.jC;have k5:=h'.jw;refine⟨by omega,⟨by show 0<=max (max z.wide (1+z'.wide)) 1;omega,by show 2 * max (max z.wide (1+z'.wide)) 1<=t+1+t'+1;omega⟩,⟨by show 0<=z.jL+z'.jL+13;omega,by show z.jL+z'.jL+13<=20 * (t+1+t');omega⟩,by show 0<=z.jC+z'.jC+1;omega,by rw[hc];exact rG h5 k5,λhk=>?_⟩;rw[hc]at hk;have hp:=zU h5.1 h5.2 k5.1 k5.2 hk;obtain⟨a1,a2⟩:=h.all (by omega);obtain⟨b1,b2⟩:=h'.all (by omega);rw[hc,hp];refine⟨by show z.jC+z'.jC+1<=_;omega,?_⟩;show((8^max z.deep z'.deep:Nat):Int)<=_;rcases gX z.deep z'.deep with hh|hh
 .rw[gG hh];omega
 .rw[gV hh];omega
theorem Qh{P:Ck->Prop}{g g':Co->Int->Co×Int}{z z':Sz}{f f':Val}{o:Int}(h:Mx P g z f)(h':Mx P g' z' f')(ho:Ah o):Mx P (λc into=>c.two o into {give:=g} {give:=g'}) ⟨max (max z.wide (1+z'.wide)) 1,max z.deep z'.deep,z.jC+z'.jC+1,z.jL+z'.jL+13⟩ (λns v σ=>outcome v o (f ns v σ) (f' ns v σ)):=
 (atE h h' ho).grow (aV _) (aj _) (aV _) (by show z.jL+z'.jL+7<=z.jL+z'.jL+13;omega)
theorem aoL{t t':Int}{l r:Ex}{f:Val}(hl:QF t l f){f':Val}(hr:QF t' r f')(a:Int):QF (t+1+t') (x9 a l r) (λen v σ=>outcome v 35 (f en v σ) (f' en v σ)):=by
 obtain⟨z,h1,h2⟩:=hl;obtain⟨z',k1,k2⟩:=hr;have ho:Ah 35:=je rfl;have hlk:∀ck,lg (x9 a l r) ck->lg l ck/\lg r ck/\(x9 a l r).does.look ck=ck:=λck hk=>by
  have hk:=hk;have e0:(x9 a l r).does.look ck=(r.does.look ((l.does.look ck).want (l.does.jW ck.jy) l.at' 4)).want (r.does.jW ((l.does.look ck).want (l.does.jW ck.jy) l.at' 4).jy) r.at' 3:=rfl;obtain⟨_,q2,q3⟩:=Aa hk;have q4:=k1.look _ q3;have q5:((l.does.look ck).want (l.does.jW ck.jy) l.at' 4).en=0:=by
   have q3':=q3;rw[q4]at q3';exact q3'
  obtain⟨_,q6,q7⟩:=Aa q5;have q8:=h1.look ck q7;rw[q6,q8]at q3 q4;rw[e0,q2,q6,q8];exact⟨q7,q3,q4⟩
 refine⟨_,⟨λck hk=>(hlk ck hk).2.2,Qh (h1.give.of λck hk=>(hlk ck hk).1) (k1.give.of λck hk=>(hlk ck hk).2.1) ho,Qh (h1.fold.of λck hk=>(hlk ck hk).1) (k1.fold.of λck hk=>(hlk ck hk).2.1) ho,λck en v σ hk ht hv=>?_,λh=>jl h (by show¬(0:Int)=1;decide),λh=>jl h (by show¬(0:Int)=2;decide),λh=>jl h (by show¬(0:Int)=3;decide)⟩,agB h2 k2 rfl⟩;have e1:outcome v 35 (f en v σ) (f' en v σ)=kW (UG (v.uM (f en v σ)) (v.sN (f' en v σ))):=by simp[outcome]
 rw[e1];exact⟨He _,λ_=>EK _⟩
theorem aoJ{t t':Int}{l r:Ex}(hl:QX t l)(hr:QX t' r)(a:Int):QX (t+1+t') (x9 a l r):=by
 obtain⟨z,f,h1,h2⟩:=hl;obtain⟨z',f',k1,k2⟩:=hr;obtain⟨y,q⟩:=aoL ⟨z,h1,h2⟩ ⟨z',k1,k2⟩ a;exact⟨y,_,q⟩
end
section
open Go.RowKit Hx
attribute [local go_sem ↓] Go.wp_at_zero Go.wp_at_succ
attribute [local go_sem] kP
section
variable {w w' w1 w2 w3 w4:jk}{C lo hi b d m k:Nat}{c:Ck}{u v:jm}{e f:Ex}{a:Int}{T:jo}{x:Sx}
structure Ae(d:Nat)(s:jG):Prop where
 ok:oI s
 jy:∀c,∃more,(s.does.look c).jy=c.jy++more/\more.length<=1
 look:∀w lo hi T b C c,s.here w lo hi (.iface T (Pt b 0))->hi<=C->kY w C c->c.jy.length+10000 * d<=805000->
  ∃f,(∀w,(method 576 T (Pt b 0) "helm/lang.look").run prog w=.ok (f,Pt b 0) w)/\Enters f/\
   Calls prog f #[Pt b 0,Pt C 0] w λen w'=>en=.returned (.tuple #[])/\s.here w' lo hi (.iface T (Pt b 0))/\kY w' C (s.does.look c)/\Lk w w' lo hi C
theorem J3{c c':Ck}(h:c'.jy=c.jy):∃more,c'.jy=c.jy++more/\more.length<=1:=⟨[],by rw[h,aX],by simp⟩
theorem UN{T' T:jo}{at' jw:Int}{mk:List jm->List jm}{ds:Ds}{c':Ck}{w0:jk}(he:kV e)(h1:lo<=b)(h2:b<hi)(hC:hi<=C)(hb:w.heap[b]? =some (.cells (Im at'::Im jw::mk [u]).toArray T))
 {bk:Nat}(h0:Lk w w0 0 0 C)(hl:nU e e.at' w0 w1 lo b u bk C c')(hw:Lk w1 w2 0 0 C)(hc:kY w2 C (ds.look c)):(yF T' T at' jw (og (e.here e.at')) mk ds).here w2 lo hi (.iface T' (Pt b 0))/\kY w2 C ((yF T' T at' jw (og (e.here e.at')) mk ds).does.look c)/\Lk w w2 lo hi C:=by
 have kk:=(h0.all _ _).trans (hl.keep.trans (hw.all _ _));have hb2:=(kk.keep b (by omega) (je (aj _))).trans hb;exact⟨⟨b,[u],rfl,h1,h2,⟨u,rfl,(he.law _).lk hl.here hw (by omega) (je (bD _))⟩,hb2⟩,hc,kk.wide (aj _) (by omega)⟩
theorem aff(a:Int):oI (yH a):=uK (by simp[o7]) Cc (by omega)
theorem ata(a i:Int)(h:kV e):oI (mY a i e):=uK (by simp[o7]) (qW (h.law _)) (qj h.jw)
theorem asu(t:Wd)(h:kV e):oI (sO t e):=uK (by simp[o7]) (qW (h.law _)) (qj h.jw)
theorem anU(a:Int)(t:Wd)(h:kV e):oI (sJ a t e):=uK (by simp[o7]) (qW (h.law _)) (qj h.jw)
theorem apX(a:Int)(h:kV e)(k:kV f):oI (vg a e f):=uK (by simp[o7]) (wJ (h.law _) (k.law _)) (rG h.jw k.jw)
theorem aq7(d:Nat)(a:Int):Ae d (yH a):=by
 refine⟨aff a,λc=>J3 rfl,?_⟩;rintro w lo hi T b C c ⟨b',us,hv,h1,h2,h3,hb⟩ hC hc hn;cases hv;refine⟨333,λw=>by kernel_rfl,λargs w=>by kernel_rfl,?_⟩;have HE:Hid ((yH a).here w lo hi (.iface 336 (Pt b 0))/\kY w C c/\Lk w w lo hi C):=⟨⟨b,us,rfl,h1,h2,h3,hb⟩,hc,Lk.refl _ _ _ _⟩;clear hb hc h3;go_enter func333,ntmps333;go_wp2_with fail;go_end0;exact⟨rfl,HE.out⟩
theorem as9(h:mD k e)(hk:k<=10000 * d)(a i:Int):Ae d (mY a i e):=by
 refine⟨ata a i h.ok,λc=>J3 ?_,?_⟩
 .show((e.does.look c).want (e.does.jW c.jy) e.at' 1).jy=c.jy;rw[wE,h.jy]
 rintro w lo hi T b C c ⟨b',us,hv,h1,h2,⟨u,rfl,hu⟩,hb⟩ hC hc hn;cases hv;obtain⟨T1,b1,f1,rfl,hT1,l1,l2,m1,kM,H1⟩:=h.use (C:=C) (c:=c) hu (by omega) hc (by omega);have c3:=jK 3 hb rfl;have kM:∀args w,(callFunc f1 args).run prog w=.ok (.enter f1 args) w:=kM;have H1:Hid (Calls prog f1 #[Pt b1 0,Pt C 0] w λen w'=>en=.returned (.tuple #[])/\nU e e.at' w w' lo b (.iface T1 (Pt b1 0)) b1 C c):=H1;have HC:=jA (jd h hC);have HB:=jA hb;refine⟨320,λw=>by kernel_rfl,λargs w=>by kernel_rfl,?_⟩;clear hu hb hc hn hC h;go_enter func320,ntmps320;go_wp2_with fail;refine H1.out.mono ?_;rintro en w1 ⟨rfl,hl⟩;have hb1:=(hl.keep.keep b (by have:=HC.out.2;omega) (je (aj _))).trans HB.out;have e3:=jK 3 hb1 rfl;have HW:=jA (hl.want HC.out.1.ok 1 0);have HL:=jA hl;clear hl hb1 H1;go_wp2_with fail;refine HW.out.mono ?_;rintro en w2 ⟨rfl,p1,p2⟩;have HE:Hid ((mY a i e).here w2 lo hi (.iface 327 (Pt b 0))/\kY w2 C ((mY a i e).does.look c)/\Lk w w2 lo hi C):=UN HC.out.1.ok h1 h2 HC.out.2 HB.out (Lk.refl _ _ _ _) HL.out p2 p1;clear p1 p2;go_wp2_with fail;go_end0;exact⟨rfl,HE.out⟩
theorem anT(h:mD k e)(hk:k<=10000 * d)(a:Int)(t:Wd):Ae d (sJ a t e):=by
 obtain⟨tt,ta⟩:=t;refine⟨anU a _ h.ok,λc=>⟨[⟨tt,e.does.jW (c.nG tt ta).jy,true⟩],?_,by simp⟩,?_⟩
 .show((e.does.look (c.nG tt ta)).add tt (e.does.jW (c.nG tt ta).jy) true).jy=_;unfold Ck.add;rw[h.jy,Kr]
 rintro w lo hi T b C c ⟨b',us,hv,h1,h2,⟨u,rfl,hu⟩,hb⟩ hC hc hn;cases hv;obtain⟨T1,b1,rfl,hT1,_⟩:=h.ok.head _ _ _ _ _ hu;have c2:=jK 2 hb rfl;have c3:=jK 3 hb rfl;have HN:=jA (Tj hc tt ta (by omega));have HC:Hid (mD k e/\hi<=C/\c.jy.length+k<=899999/\e.here e.at' w lo b (.iface T1 (Pt b1 0))):=⟨h,hC,by omega,hu⟩;have HB:=jA hb;refine⟨323,λw=>by kernel_rfl,λargs w=>by kernel_rfl,?_⟩;have m2:=hT1.sort b1;clear hu hb hc hn hC h;go_enter func323,ntmps323;go_wp2_with fail;refine HN.out.mono ?_;rintro en w0 ⟨rfl,p1,p2⟩;have hbC:b<C:=by have:=HC.out.2.1;omega
 have hb0:=(p2.keep b hbC (je (bD _))).trans HB.out;have d4:=jK 4 hb0 rfl;have hh0:=(HC.out.1.ok.law _).lk HC.out.2.2.2 p2 (by omega) (je (bD _));have hnm:=Kr c tt ta;obtain⟨f1,m1,kM,H1⟩:=HC.out.1.look _ _ _ _ _ _ C _ hh0 (by omega) p1 (by rw[hnm];have:=HC.out.2.2.1;omega);have kM:∀args w,(callFunc f1 args).run prog w=.ok (.enter f1 args) w:=kM;have H1:Hid (Calls prog f1 #[Pt b1 0,Pt C 0] w0 λen w'=>en=.returned (.tuple #[])/\nU e e.at' w0 w' lo b (.iface T1 (Pt b1 0)) b1 C (c.nG tt ta)):=H1;have NZ:=jA (jd p2 hb0);clear p1 p2 hb0 hh0 HN;go_wp2_with fail;refine H1.out.mono ?_;rintro en w1 ⟨rfl,hl⟩;have hb1:=(hl.keep.keep b hbC (je (aj _))).trans NZ.out.2;have e2:=jK 2 hb1 rfl;have e3:=jK 3 hb1 rfl;have e4:=jK 4 hb1 rfl;have HSo:=jA (λn=>NK b1 _ ((lK w1 n).cell hl.kind (by simp)));have Gu:Hid (∀n,Calls prog 326 #[Pt C 0,.agg #[.string tt,Im ta],Im (e.does.jW (c.nG tt ta).jy),.bool true] (w1.drewN n) λen w'=>en=.returned (.tuple #[])/\kY w' C ((e.does.look (c.nG tt ta)).add tt (e.does.jW (c.nG tt ta).jy) true)/\Lk w1 w' 0 0 C):=λn=>by
  refine(Td (hl.ck.grow (lK w1 n)) tt ta _ true (by rw[HC.out.1.jy,hnm];have:=HC.out.2.2.1;omega)).mono ?_;rintro en w' ⟨r1,r2,r3⟩;exact⟨r1,r2,(Lk.grown (lK w1 n) hl.ck.lt).trans r3⟩
 have HL:=jA hl;clear hl hb1 H1 hnm hT1;generalize hkd:e.does.jW (c.nG tt ta).jy=kd at *;have N7:=jA hkd;clear hkd;go_wp2_with fail;refine nP 10 (by kernel_rfl) (by kernel_rfl) ?_;simp only[aC,aO,aG,aQ];repeat (go_big_quiet_step ((go_at_call 356;exact dN (HSo.out _))))
 refine bF ?_;intro _ hw';obtain⟨n3,hw''⟩:=hw';subst hw'';go_wp2_with fail;refine(Gu.out _).mono ?_;rintro en w2 ⟨rfl,p1,p2⟩;rw[<-N7.out]at p1;have HE:Hid ((sJ a ⟨tt,ta⟩ e).here w2 lo hi (.iface 331 (Pt b 0))/\kY w2 C ((sJ a ⟨tt,ta⟩ e).does.look c)/\Lk w w2 lo hi C):=UN HC.out.1.ok h1 h2 HC.out.2.1 HB.out NZ.out.1 HL.out p2 p1;clear p1 p2;go_wp2_with fail;go_end0;exact⟨rfl,HE.out⟩
end
end
end Go.Proofs.YthllhabjfchgiaaGreatDoor
