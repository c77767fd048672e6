import Derived.Test.YthllhabjfchgiaaGreatDoorHb28
set_option maxRecDepth 100000
set_option maxHeartbeats 8000000
set_option linter.unusedSimpArgs false
namespace Go.Proofs.YthllhabjfchgiaaGreatDoor
open _root_.Go.Proofs.Tryz
section
open Go.RowKit Hx
structure pJ(ck:Ck)(e:List (jm×Int))(σ:Int->Int):Prop where
 jG:∀i,0<=i->i<8->jO (σ i)
 jA:ck.jA.map (λk=>k.name.data.toList)=e.map (λn=>n.1.data.toList)
 vals:∀(j:Nat)(k:Kn)(n:jm×Int),ck.jA[j]? =some k->e[j]? =some n->jO n.2/\(k.kind=2->n.2=0\/n.2=1)
theorem Ty.env{ck:Ck}{c:Co}{σ:Int->Int}(h:Ty ck c σ)(hf:Fit ck c):pJ ck (lu c σ) σ:=by
 refine⟨h.jG,by rw[hf.jA,lu,List.map_map];rfl,λj k n hk hn=>?_⟩;unfold lu at hn;rw[fV]at hn;cases hc:c.jA[j]?with
 |none=>rw[hc]at hn;cases hn
 |some q=>
  rw[hc]at hn;simp only[iJ,bJ]at hn;subst hn;exact⟨h.num q (bT hc),h.oI j k q hk hc⟩
theorem Mx.eq{P:Ck->Prop}{g:Co->Int->Co×Int}{z:Sz}{f f':Val}(h:Mx P g z f)(hc:uj f')(he:∀ck e v σ,P ck->pJ ck e σ->nH v->f e v σ=f' e v σ):Mx P g z f':=
 ⟨hc,λck c into hf hP hw hi=>by
   obtain⟨fr,r,q,e,x,w⟩:=h.lay ck c into hf hP hw hi;refine⟨fr,r,q,e,x,λv S jG k lp m hv hS hd hll hl ht=>?_⟩;obtain⟨m',g1,g2,g3⟩:=w v S jG k lp m hv hS hd hll hl ht;exact⟨m',g1,by rw[g2];exact he ck _ v _ hP (ht.env hf) hv,g3⟩⟩
def kZ(e:Ex)(ck:Ck):Prop:=(e.does.look ck).en=0
structure MX(e:Ex)(z:Sz)(f:Val):Prop where
 look:∀ck,kZ e ck->e.does.look ck=ck
 give:Mx (kZ e) e.does.give z f
 fold:Mx (kZ e) e.does.fd.give z f
 ty:∀ck en v σ,kZ e ck->pJ ck en σ->nH v->jO (f en v σ)/\(e.does.jU ck.jA=2->f en v σ=0\/f en v σ=1)
 ER:e.does.fd.tag=1->∀ck,kZ e ck->jO e.does.fd.val/\(∀en v σ,pJ ck en σ->nH v->f en v σ=e.does.fd.val)/\e.does.jU ck.jA=1
 DF:e.does.fd.tag=2->∀ck,kZ e ck->(e.does.fd.val=0\/e.does.fd.val=1)/\(∀en v σ,pJ ck en σ->nH v->f en v σ=e.does.fd.val)/\e.does.jU ck.jA≠1
 NT:e.does.fd.tag=3->∃f',Mx (kZ e) e.does.fd.sub z f'/\∀ck en v σ,kZ e ck->pJ ck en σ->nH v->jO (f' en v σ)/\((e.does.jU ck.jA=1/\f en v σ=wrap64 (-f' en v σ))\/(e.does.jU ck.jA=2/\(f' en v σ=0\/f' en v σ=1)/\f en v σ=oI (f' en v σ==0)))
structure CQ(t:Int)(e:Ex)(z:Sz):Prop where
 tok:1<=t
 wide:0<=z.wide/\2 * z.wide<=t+1
 jM:0<=z.jM/\z.jM<=20 * t
 jD:0<=z.jD
 jy:0<=e.jy/\e.jy<=1000001
 all:e.jy<=1000000->z.jD<=40 * e.jy+1/\((8^z.deep:Nat):Int)<=e.jy+1
def QX(t:Int)(e:Ex):Prop:=∃z f,MX e z f/\CQ t e z
theorem QX.more{t t':Int}{e:Ex}(h:QX t e)(ht:t<=t'):QX t' e:=by
 obtain⟨z,f,h1,h2⟩:=h;have:=h2.wide;have:=h2.jM;have:=h2.tok;exact⟨z,f,h1,⟨by omega,⟨by omega,by omega⟩,⟨by omega,by omega⟩,h2.jD,h2.jy,h2.all⟩⟩
theorem anI(a n:Int)(hn:jO n):QX 1 (BN a n):=by
 refine⟨⟨1,0,1,13⟩,λ_ _ _=>n,⟨λck _=>rfl,MV _ n hn,MV _ n hn,λck en v σ _ _ _=>⟨hn,λh=>jq h (by show¬(1:Int)=2;decide)⟩,λ_ _ _=>⟨hn,λ_ _ _ _ _=>rfl,rfl⟩,λh=>jq h (by show¬(1:Int)=2;decide),λh=>jq h (by show¬(1:Int)=3;decide)⟩,⟨by omega,by decide,by decide,by decide,by show(0:Int)<=1/\(1:Int)<=1000001;decide,λ_=>by show(1:Int)<=40 * 1+1/\((8^0:Nat):Int)<=1+1;decide⟩⟩
theorem agb(a jy kind:Int)(hk:kind=2\/kind=0)(hc:0<=jy/\jy<=1000001)(b:Bool):QX 1 (zO a jy kind b):=by
 have hv:∀b:Bool,(if b then (1:Int)else 0)=0\/(if b then (1:Int)else 0)=1:=λb=>by cases b<;>simp
 have hn:jO (if b then (1:Int)else 0):=by cases b<;>(unfold jO;simp)
 refine⟨⟨1,0,1,13⟩,λ_ _ _=>if b then 1 else 0,⟨λck _=>rfl,MV _ _ hn,MV _ _ hn,λck en v σ _ _ _=>⟨hn,λ_=>hv b⟩,λh=>jq h (by show¬(2:Int)=1;decide),λ_ _ _=>⟨hv b,λ_ _ _ _ _=>rfl,by show kind≠1;omega⟩,λh=>jq h (by show¬(2:Int)=3;decide)⟩,⟨by omega,by decide,by decide,by decide,hc,λ_=>⟨by show(1:Int)<=40 * jy+1;omega,by show((8^0:Nat):Int)<=jy+1;omega⟩⟩⟩
theorem apI(a i:Int)(hi:0<=i/\i<8):QX 1 (Dv a i):=by
 have h0:Mx (kZ (Dv a i)) (λc _=>(c,i)) ⟨0,0,0,0⟩ (λ_ _ σ=>σ i):=afs _ (λ_=>i) _ (λ_ _ σ τ h=>h i hi.1 hi.2) λck c hf _=>⟨hi.1,by have:=hf.free;omega,λ_ _=>rfl⟩;exact⟨⟨0,0,0,0⟩,λ_ _ σ=>σ i,⟨λck _=>rfl,h0,h0,λck en v σ _ ht _=>⟨ht.jG i hi.1 hi.2,λh=>jq h (by show¬(1:Int)=2;decide)⟩,λh=>jq h (by show¬(0:Int)=1;decide),λh=>jq h (by show¬(0:Int)=2;decide),λh=>jq h (by show¬(0:Int)=3;decide)⟩,⟨by omega,by decide,by decide,by decide,by show(0:Int)<=1/\(1:Int)<=1000001;decide,λ_=>by show(0:Int)<=40 * 1+1/\((8^0:Nat):Int)<=1+1;decide⟩⟩
def lookup(t:jm)(e:List (jm×Int)):Int:=((e.find? λn=>n.1.data.toList==t.data.toList).map (·.2)).getD 0
theorem Ua{t:jm}:∀{ks:List Kn}{ns:List (jm×Int)},ks.map (λk=>k.name.data.toList)=ns.map (λn=>n.1.data.toList)->(lG ks t).kind≠0->
 ∃(j:Nat)(k:Kn)(n:jm×Int),ks[j]? =some k/\ns[j]? =some n/\lG ks t=k/\ns.find? (λn=>n.1.data.toList==t.data.toList)=some n
 |[],[],_,h=>jq rfl h
 |[],_::_,h,_=>by simp at h
 |_::_,[],h,_=>by simp at h
 |k::ks,n::ns,h,hk=>by
  simp only[dL,iD]at h;by_cases he:(k.name.data.toList==t.data.toList)=true
  .refine⟨0,k,n,rfl,rfl,?_,?_⟩
   .unfold lG;rw[fF,he]
    rfl
   .rw[fF,show(n.1.data.toList==t.data.toList)=true by rw[<-h.1];exact he]
  .have he:(k.name.data.toList==t.data.toList)=false:=by simpa using he
   have e1:lG (k::ks) t=lG ks t:=by
    unfold lG;rw[fF,he]
   rw[e1]at hk;obtain⟨j,k',n',q1,q2,q3,q4⟩:=Ua h.2 hk;refine⟨j+1,k',n',q1,q2,by rw[e1];exact q3,?_⟩;rw[fF,show(n.1.data.toList==t.data.toList)=false by rw[<-h.1];exact he];exact q4
theorem ajB(c:Co)(σ:Int->Int)(t:jm):(lu c σ).find? (λn=>n.1.data.toList==t.data.toList)=(c.jA.find? λn=>n.1.data.toList==t.data.toList).map λn=>(n.1,σ n.2):=by
 unfold lu;rw[List.find?_map]
 rfl
theorem YG{a:Int}{t:Wd}{ck:Ck}(h:kZ (y8 a t) ck):(lG ck.jA t.text).kind≠0/\ck.en=0:=by
 have h:(if (lG ck.jA t.text).kind=0 then ck.fail 2 t.at' else ck).en=0:=h;split at h
 .unfold Ck.fail at h;split at h
  .exact jq h (by show¬(2:Int)=0;decide)
  .rename_i hn;exact jq h hn
 .rename_i hk;exact⟨hk,h⟩
theorem arN(a:Int)(t:Wd):QX 1 (y8 a t):=by
 have h0:Mx (kZ (y8 a t)) (λc _=>(c,c.vW t.text)) ⟨0,0,0,0⟩ (λe _ _=>lookup t.text e):=by
  refine afs _ (λns=>((ns.find? λn=>n.1.data.toList==t.text.data.toList).map (·.2)).getD (-1)) _ (λ_ _ _ _ _=>rfl) λck c hf hP=>?_;obtain⟨j,k,n,q1,q2,q3,q4⟩:=Ua hf.jA (YG hP).1;have hs:=hf.jE n (bT q2);refine⟨?_,?_,λv σ=>?_⟩
  .rw[q4];exact hs.1
  .rw[q4];exact hs.2
  .rw[q4];unfold lookup;rw[ajB,q4]
   rfl
 refine⟨⟨0,0,0,0⟩,λe _ _=>lookup t.text e,⟨λck h=>?_,h0,h0,λck en v σ h ht _=>?_,λh=>jq h (by show¬(0:Int)=1;decide),λh=>jq h (by show¬(0:Int)=2;decide),λh=>jq h (by show¬(0:Int)=3;decide)⟩,⟨by omega,by decide,by decide,by decide,by show(0:Int)<=1/\(1:Int)<=1000001;decide,λ_=>by show(0:Int)<=40 * 1+1/\((8^0:Nat):Int)<=1+1;decide⟩⟩
 .show(if (lG ck.jA t.text).kind=0 then ck.fail 2 t.at' else ck)=ck;rw[jk (YG h).1]
 .obtain⟨j,k,n,q1,q2,q3,q4⟩:=Ua ht.jA (YG h).1;obtain⟨v1,v2⟩:=ht.vals j k n q1 q2;have e:lookup t.text en=n.2:=by unfold lookup;rw[q4];rfl
  show jO (lookup t.text en)/\((lG ck.jA t.text).kind=2->lookup t.text en=0\/lookup t.text en=1);rw[e,q3];exact⟨v1,v2⟩
theorem arT{t:Int}{e:Ex}(h:QX t e)(a:Int):QX t (e.widen a):=by
 obtain⟨z,f,h1,h2⟩:=h;exact⟨z,f,⟨h1.look,h1.give,h1.fold,h1.ty,h1.ER,h1.DF,h1.NT⟩,⟨h2.tok,h2.wide,h2.jM,h2.jD,h2.jy,h2.all⟩⟩
theorem zQ{c:Ck}{k a is:Int}(h:(c.want k a is).en=0):k=is/\c.want k a is=c/\c.en=0:=by
 unfold Ck.want at h⊢;by_cases hk:k=is
 .rw[jl hk]at h⊢;exact⟨hk,rfl,h⟩
 .rw[jk hk]at h;unfold Ck.fail at h;split at h
  .exact jq h (by show¬(3:Int)=0;decide)
  .rename_i hn;exact jq h hn
theorem TV{c:Ck}{e a:Int}(he:e≠0):(c.fail e a).en≠0:=by
 unfold Ck.fail;split
 .exact he
 .rename_i hn;exact hn
theorem VE{c:Ck}{t:jm}{a:Int}(h:(c.mD t a).en=0):(lG c.jA t).kind=0/\c.mD t a=c/\c.en=0:=by
 unfold Ck.mD at h⊢;by_cases hk:(lG c.jA t).kind=0
 .rw[jl hk]at h⊢;exact⟨hk,rfl,h⟩
 .rw[jk hk]at h;exact jq h (TV (by decide))
theorem Rw{t:Int}{e e':Ex}{z:Sz}(h:CQ t e z)(hc:e'.jy=jS [e.jy]):CQ (t+1) e' ⟨max z.wide 1,z.deep,z.jD+1,z.jM+13⟩:=by
 have h1:=h.wide;have h2:=h.jM;have h3:=h.tok;have h4:=h.jD;have h5:=h.jy;refine⟨by omega,⟨by show 0<=max z.wide 1;omega,by show 2 * max z.wide 1<=t+1+1;omega⟩,⟨by show 0<=z.jM+13;omega,by show z.jM+13<=20 * (t+1);omega⟩,by show 0<=z.jD+1;omega,by rw[hc];exact pW h5,λhk=>?_⟩;rw[hc]at hk;have hp:=yA h5.1 h5.2 hk;obtain⟨a1,a2⟩:=h.all (by omega);rw[hc,hp];exact⟨by show z.jD+1<=_;omega,by show((8^z.deep:Nat):Int)<=_;omega⟩
theorem Pm{P:Ck->Prop}{g:Co->Int->Co×Int}{z:Sz}{f:Val}(h:Mx P g z f):Mx P g ⟨max z.wide 1,z.deep,z.jD+1,z.jM+13⟩ f:=h.grow (by show z.wide<=max z.wide 1;omega) (aj _) (by show z.jD<=z.jD+1;omega) (by show z.jM<=z.jM+13;omega)
theorem F9{P:Ck->Prop}{g:Co->Int->Co×Int}{z:Sz}{f:Val}{o:Int}(h:Mx P g z f)(ho:rF o):Mx P (λc into=>c.one o into {give:=g}) ⟨max z.wide 1,z.deep,z.jD+1,z.jM+13⟩ (λns v σ=>outcome v o (f ns v σ) 0):=(anX h ho).grow (aV _) (aj _) (aV _) (by show z.jM+5<=z.jM+13;omega)
theorem Vg{P:Ck->Prop}{n:Int}{z:Sz}{f:Val}(hc:uj f)(hz:1<=z.wide/\1<=z.jD/\13<=z.jM)(h:∀ck,P ck->jO n/\∀en v σ,pJ ck en σ->nH v->f en v σ=n):Mx P (wH n) z f:=
 ⟨hc,λck c into hf hP hw hi=>by
   obtain⟨h1,h2⟩:=h ck hP;have hm:Mx (λq=>q=ck) (wH n) z f:=((MV (λq=>q=ck) n h1).grow hz.1 (bD _) hz.2.1 hz.2.2).eq hc λwB en v σ e ht hv=>by
    subst e;exact(h2 en v σ ht hv).symm
   exact hm.lay ck c into hf rfl hw hi⟩
theorem adl{P:Ck->Prop}{g:Co->Int->Co×Int}{z:Sz}{f:Val}(hc:uj f)(h:∀ck,¬P ck):Mx P g z f:=⟨hc,λck _ _ _ hP=>jq hP (h ck)⟩
theorem aog(v:Vw)(a:Int):outcome v 8 a 0=wrap64 (-a):=by simp[outcome]
theorem aoh(v:Vw)(a:Int):outcome v 9 a 0=oI (a==0):=by simp[outcome]
theorem wrap_wrap(a:Int)(h:jO a):wrap64 (-wrap64 (-a))=a:=by unfold jO at h;unfold wrap64;omega
theorem ET(b:Bool):oI b=0\/oI b=1:=by cases b<;>simp[oI]
theorem alj{t:Int}{e:Ex}(h:QX t e)(a:Int):QX (t+1) (yV a e):=by
 obtain⟨z,f,h1,h2⟩:=h;have hl:∀ck,kZ (yV a e) ck->kZ e ck/\(yV a e).does.look ck=ck:=λck hk=>by
  have hk:(if e.does.jU ck.jA=3 then e.does.look ck else (e.does.look ck).want (e.does.jU ck.jA) e.at' 4).en=0:=hk;show kZ e ck/\(if e.does.jU ck.jA=3 then e.does.look ck else (e.does.look ck).want (e.does.jU ck.jA) e.at' 4)=ck;split at hk
  .rename_i h3;rw[jl h3];exact⟨hk,h1.look ck hk⟩
  .rename_i h3;rw[jk h3];obtain⟨_,q2,q3⟩:=zQ hk;rw[q2];exact⟨q3,h1.look ck q3⟩
 refine⟨_,_,⟨λck hk=>(hl ck hk).2,(F9 h1.give (o:=27) (by unfold rF;omega)).of λck hk=>(hl ck hk).1,(F9 h1.fold (o:=27) (by unfold rF;omega)).of λck hk=>(hl ck hk).1,λck en v σ hk ht hv=>?_,λh=>jq h (by show¬(0:Int)=1;decide),λh=>jq h (by show¬(0:Int)=2;decide),λh=>jq h (by show¬(0:Int)=3;decide)⟩,Rw h2 rfl⟩;have e1:outcome v 27 (f en v σ) 0=oI (f en v σ== -1):=by simp[outcome]
 rw[e1];exact⟨H8 _,λ_=>ET _⟩
theorem adP{a kind:Int}{sign:jm}{e:Ex}{z:Sz}{f:Val}(h:MX e z f){ck:Ck}(hk:kZ (tV a kind sign e) ck):kZ e ck/\e.does.jU ck.jA=kind/\(tV a kind sign e).does.look ck=ck:=by
 have hk:=hk;obtain⟨q1,q2,q3⟩:=zQ hk;refine⟨q3,q1,?_⟩;show(e.does.look ck).want (e.does.jU ck.jA) e.at' kind=ck;rw[q2];exact h.look ck q3
theorem anb{t:Int}{e:Ex}(h:QX t e)(a:Int)(sign:jm)(hs:sign.data.toList=[45]):QX (t+1) (tV a 1 sign e):=by
 obtain⟨z,f,h1,h2⟩:=h;have hsg:(sign.data.toList==[45])=true:=by rw[hs];rfl
 have ho:rF 8:=by unfold rF;omega
 have h4:=h2.jD;have h5:=h2.jM;have hcg:uj (λen v σ=>wrap64 (-f en v σ)):=λen v σ τ hh=>by show wrap64 (-f en v σ)=wrap64 (-f en v τ);rw[h1.give.pq en v σ τ hh]
 have hout:(λ(ns:List (jm×Int)) v σ=>outcome v 8 (f ns v σ) 0)=(λen v σ=>wrap64 (-f en v σ)):=by
  funext en v σ
  exact aog v _
 have hfd:(tV a 1 sign e).does.fd=tN 1 sign e.does.fd:=rfl;have hkl:=λck (hk:kZ (tV a 1 sign e) ck)=>adP h1 hk;refine⟨_,λen v σ=>wrap64 (-f en v σ),⟨λck hk=>(hkl ck hk).2.2,?_,?_,λck en v σ hk ht hv=>⟨Dh _,λh=>jq h (by show¬(1:Int)=2;decide)⟩,?_,?_,?_⟩,Rw h2 rfl⟩
 .rw[<-hout];have:=(F9 h1.give ho).of λck hk=>(hkl ck hk).1;show Mx _ (λc into=>c.one (if sign.data.toList==[45]then 8 else 9) into e.does) _ _;rw[hsg];exact this
 .rw[hfd];unfold tN;by_cases t1:e.does.fd.tag=1
  .rw[jl t1];have hlit:rZ 1 (wrap64 (-e.does.fd.val))={tag:=1,val:=wrap64 (-e.does.fd.val),give:=wH (wrap64 (-e.does.fd.val))}:=jk (by decide);rw[hlit];refine Vg hcg ⟨by show 1<=max z.wide 1;omega,by show 1<=z.jD+1;omega,by show 13<=z.jM+13;omega⟩ λck hk=>?_;obtain⟨_,q2,_⟩:=h1.ER t1 ck (hkl ck hk).1;exact⟨Dh _,λen v σ ht hv=>by rw[q2 en v σ ht hv]⟩
  .rw[jk t1];by_cases t2:e.does.fd.tag=2
   .rw[jl t2];refine adl hcg λck hk=>?_;obtain⟨p1,p2,_⟩:=hkl ck hk;exact(h1.DF t2 ck p1).2.2 p2
   .rw[jk t2];by_cases t3:e.does.fd.tag=3
    .rw[jl t3];obtain⟨f',m1,m2⟩:=h1.NT t3;refine Pm ((m1.of λck hk=>(hkl ck hk).1).eq hcg λck en v σ hk ht hv=>?_);obtain⟨p1,p2,_⟩:=hkl ck hk;obtain⟨r1,r2⟩:=m2 ck en v σ p1 ht hv;rcases r2 with⟨_,r2⟩|⟨r3,_⟩
     .rw[r2,wrap_wrap _ r1]
     .omega
    .rw[jk t3,<-hout];have:=(F9 h1.fold ho).of λck hk=>(hkl ck hk).1;rw[hsg];exact this
 .intro tg ck hk;rw[hfd]at tg⊢;obtain⟨p1,p2,_⟩:=hkl ck hk;unfold tN at tg⊢;by_cases t1:e.does.fd.tag=1
  .rw[jl t1];have hlit:rZ 1 (wrap64 (-e.does.fd.val))={tag:=1,val:=wrap64 (-e.does.fd.val),give:=wH (wrap64 (-e.does.fd.val))}:=jk (by decide);rw[hlit];obtain⟨_,q2,_⟩:=h1.ER t1 ck p1;exact⟨Dh _,λen v σ ht hv=>by show wrap64 (-f en v σ)=wrap64 (-e.does.fd.val);rw[q2 en v σ ht hv],rfl⟩
  .rw[jk t1]at tg;by_cases t2:e.does.fd.tag=2
   .exact jq p2 (h1.DF t2 ck p1).2.2
   .rw[jk t2]at tg;by_cases t3:e.does.fd.tag=3
    .rw[jl t3]at tg;exact jq tg (by show¬(0:Int)=1;decide)
    .rw[jk t3]at tg;exact jq tg (by show¬(3:Int)=1;decide)
 .intro tg ck hk;rw[hfd]at tg;obtain⟨p1,p2,_⟩:=hkl ck hk;unfold tN at tg;by_cases t1:e.does.fd.tag=1
  .rw[jl t1,show rZ 1 (wrap64 (-e.does.fd.val))={tag:=1,val:=wrap64 (-e.does.fd.val),give:=wH (wrap64 (-e.does.fd.val))}from jk (by decide)]at tg;exact jq tg (by show¬(1:Int)=2;decide)
  .rw[jk t1]at tg;by_cases t2:e.does.fd.tag=2
   .exact jq p2 (h1.DF t2 ck p1).2.2
   .rw[jk t2]at tg;by_cases t3:e.does.fd.tag=3
    .rw[jl t3]at tg;exact jq tg (by show¬(0:Int)=2;decide)
    .rw[jk t3]at tg;exact jq tg (by show¬(3:Int)=2;decide)
 .intro tg;rw[hfd]at tg⊢;unfold tN at tg⊢;by_cases t1:e.does.fd.tag=1
  .rw[jl t1,show rZ 1 (wrap64 (-e.does.fd.val))={tag:=1,val:=wrap64 (-e.does.fd.val),give:=wH (wrap64 (-e.does.fd.val))}from jk (by decide)]at tg;exact jq tg (by show¬(1:Int)=3;decide)
  .rw[jk t1]at tg⊢;by_cases t2:e.does.fd.tag=2
   .rw[jl t2]at tg⊢;rw[show∀n,rZ 1 n={tag:=1,val:=n,give:=wH n}fromλn=>jk (by decide)]at tg;exact jq tg (by show¬(1:Int)=3;decide)
   .rw[jk t2]at tg⊢;by_cases t3:e.does.fd.tag=3
    .rw[jl t3]at tg;exact jq tg (by show¬(0:Int)=3;decide)
    .rw[jk t3];refine⟨f,Pm (h1.fold.of λck hk=>(hkl ck hk).1),λck en v σ hk ht hv=>?_⟩;obtain⟨p1,p2,_⟩:=hkl ck hk;exact⟨(h1.ty ck en v σ p1 ht hv).1,ji ⟨rfl,rfl⟩⟩
theorem anA{t:Int}{e:Ex}(h:QX t e)(a:Int)(sign:jm)(hs:sign.data.toList=[33]):QX (t+1) (tV a 2 sign e):=by
 obtain⟨z,f,h1,h2⟩:=h;have hsg:(sign.data.toList==[45])=false:=by rw[hs];rfl
 have ho:rF 9:=by unfold rF;omega
 have h4:=h2.jD;have h5:=h2.jM;have hcg:uj (λen v σ=>oI (f en v σ==0)):=λen v σ τ hh=>by show oI (f en v σ==0)=oI (f en v τ==0);rw[h1.give.pq en v σ τ hh]
 have hout:(λ(ns:List (jm×Int)) v σ=>outcome v 9 (f ns v σ) 0)=(λen v σ=>oI (f en v σ==0)):=by
  funext en v σ
  exact aoh v _
 have hfd:(tV a 2 sign e).does.fd=tN 2 sign e.does.fd:=rfl;have hkl:=λck (hk:kZ (tV a 2 sign e) ck)=>adP h1 hk;have hlit:∀n,rZ 2 n={tag:=2,val:=if n=0 then 0 else 1,give:=ES (decide (n≠0))}:=λn=>jl rfl;have Jr:∀x:Int,x=0\/x=1->(ES (decide ((if x=0 then (1:Int)else 0)≠0))=wH (oI (x==0))/\(if (if x=0 then (1:Int)else 0)=0 then (0:Int)else 1)=oI (x==0)):=λx hx=>by
  rcases hx with rfl|rfl<;>exact⟨rfl,rfl⟩
 refine⟨_,λen v σ=>oI (f en v σ==0),⟨λck hk=>(hkl ck hk).2.2,?_,?_,λck en v σ hk ht hv=>⟨H8 _,λ_=>ET _⟩,?_,?_,?_⟩,Rw h2 rfl⟩
 .rw[<-hout];have:=(F9 h1.give ho).of λck hk=>(hkl ck hk).1;show Mx _ (λc into=>c.one (if sign.data.toList==[45]then 8 else 9) into e.does) _ _;rw[hsg];exact this
 .rw[hfd];unfold tN;by_cases t1:e.does.fd.tag=1
  .rw[jl t1];refine adl hcg λck hk=>?_;obtain⟨p1,p2,_⟩:=hkl ck hk;have:=(h1.ER t1 ck p1).2.2;omega
  .rw[jk t1];by_cases t2:e.does.fd.tag=2
   .rw[jl t2,hlit];refine⟨hcg,λck c into hf hP hw hi=>?_⟩;obtain⟨q1,q2,_⟩:=h1.DF t2 ck (hkl ck hP).1;obtain⟨r1,r2⟩:=Jr _ q1;have hm:Mx (λq=>q=ck) (wH (oI (e.does.fd.val==0))) ⟨max z.wide 1,z.deep,z.jD+1,z.jM+13⟩ (λen v σ=>oI (f en v σ==0)):=Vg hcg ⟨by show 1<=max z.wide 1;omega,by show 1<=z.jD+1;omega,by show 13<=z.jM+13;omega⟩ λwB e'=>by
     subst e';exact⟨H8 _,λen v σ ht hv=>by rw[q2 en v σ ht hv]⟩
    rw[r1];exact hm.lay ck c into hf rfl hw hi
   .rw[jk t2];by_cases t3:e.does.fd.tag=3
    .rw[jl t3];obtain⟨f',m1,m2⟩:=h1.NT t3;refine Pm ((m1.of λck hk=>(hkl ck hk).1).eq hcg λck en v σ hk ht hv=>?_);obtain⟨p1,p2,_⟩:=hkl ck hk;obtain⟨r1,r2⟩:=m2 ck en v σ p1 ht hv;rcases r2 with⟨r3,_⟩|⟨_,r3,r4⟩
     .omega
     .rw[r4];rcases r3 with r3|r3<;>rw[r3]<;>rfl
    .rw[jk t3,<-hout];have:=(F9 h1.fold ho).of λck hk=>(hkl ck hk).1;rw[hsg];exact this
 .intro tg ck hk;rw[hfd]at tg;obtain⟨p1,p2,_⟩:=hkl ck hk;unfold tN at tg;by_cases t1:e.does.fd.tag=1
  .have:=(h1.ER t1 ck p1).2.2;omega
  .rw[jk t1]at tg;by_cases t2:e.does.fd.tag=2
   .rw[jl t2,hlit]at tg;exact jq tg (by show¬(2:Int)=1;decide)
   .rw[jk t2]at tg;by_cases t3:e.does.fd.tag=3
    .rw[jl t3]at tg;exact jq tg (by show¬(0:Int)=1;decide)
    .rw[jk t3]at tg;exact jq tg (by show¬(3:Int)=1;decide)
 .intro tg ck hk;rw[hfd]at tg⊢;obtain⟨p1,p2,_⟩:=hkl ck hk;unfold tN at tg⊢;by_cases t1:e.does.fd.tag=1
  .have:=(h1.ER t1 ck p1).2.2;omega
  .rw[jk t1]at tg⊢;by_cases t2:e.does.fd.tag=2
   .rw[jl t2,hlit];obtain⟨q1,q2,_⟩:=h1.DF t2 ck p1;obtain⟨r1,r2⟩:=Jr _ q1;refine⟨?_,λen v σ ht hv=>?_,by show¬(2:Int)=1;decide⟩
    .show(if (if e.does.fd.val=0 then (1:Int)else 0)=0 then (0:Int)else 1)=0\/_=1;rw[r2];exact ET _
    .show oI (f en v σ==0)=(if (if e.does.fd.val=0 then (1:Int)else 0)=0 then (0:Int)else 1);rw[r2,q2 en v σ ht hv]
   .rw[jk t2]at tg;by_cases t3:e.does.fd.tag=3
    .rw[jl t3]at tg;exact jq tg (by show¬(0:Int)=2;decide)
    .rw[jk t3]at tg;exact jq tg (by show¬(3:Int)=2;decide)
 .intro tg;rw[hfd]at tg⊢;unfold tN at tg⊢;by_cases t1:e.does.fd.tag=1
  .rw[jl t1,hlit]at tg;exact jq tg (by show¬(2:Int)=3;decide)
  .rw[jk t1]at tg⊢;by_cases t2:e.does.fd.tag=2
   .rw[jl t2,hlit]at tg;exact jq tg (by show¬(2:Int)=3;decide)
   .rw[jk t2]at tg⊢;by_cases t3:e.does.fd.tag=3
    .rw[jl t3]at tg;exact jq tg (by show¬(0:Int)=3;decide)
    .rw[jk t3];refine⟨f,Pm (h1.fold.of λck hk=>(hkl ck hk).1),λck en v σ hk ht hv=>?_⟩;obtain⟨p1,p2,_⟩:=hkl ck hk;obtain⟨y1,y2⟩:=h1.ty ck en v σ p1 ht hv;exact⟨y1,jh ⟨rfl,y2 p2,rfl⟩⟩
theorem aoJ(u:List UInt8):rF (xM u)/\((oW u).2=2->xM u=32):=by
 unfold xM oW rF;repeat' split
 all_goals (constructor<;>simp)
theorem aoN{t:Int}{e:Ex}(h:QX t e)(a:Int)(d:Wd):QX (t+1) (vS a (oW d.text.data.toList).2 (oW d.text.data.toList).1 e d):=by
 obtain⟨z,f,h1,h2⟩:=h;obtain⟨ho,hk2⟩:=aoJ d.text.data.toList;generalize hkd:oW d.text.data.toList=kd at hk2;obtain⟨owner,kind⟩:=kd;have hl:∀ck,kZ (vS a kind owner e d) ck->kZ e ck/\(vS a kind owner e d).does.look ck=ck:=λck hk=>by
  have hk:=hk;show kZ e ck/\(if owner=0 then (e.does.look ck).fail 2 d.at' else e.does.look ck).want (e.does.jU ck.jA) e.at' owner=ck;obtain⟨_,q2,q3⟩:=zQ hk;rw[q2];split at q3
  .exact jq q3 (TV (by decide))
  .rename_i hn;rw[jk hn];exact⟨q3,h1.look ck q3⟩
 refine⟨_,_,⟨λck hk=>(hl ck hk).2,(F9 h1.give ho).of λck hk=>(hl ck hk).1,(F9 h1.fold ho).of λck hk=>(hl ck hk).1,λck en v σ hk ht hv=>⟨UO hv.1 _ _ _ (h1.ty ck en v σ (hl ck hk).1 ht hv).1,λhkk=>?_⟩,λh=>jq h (by show¬(0:Int)=1;decide),λh=>jq h (by show¬(0:Int)=2;decide),λh=>jq h (by show¬(0:Int)=3;decide)⟩,Rw h2 rfl⟩;have hkk:=hkk;rw[hk2 hkk];have e1:outcome v 32 (f en v σ) 0=JV 32 (v.sG (f en v σ)):=by simp[outcome]
 rw[e1];cases v.sG (f en v σ)with
 |none=>exact ji rfl
 |some r=>exact ET r.Na
theorem af2{t t':Int}{e e' q:Ex}{z z':Sz}(h:CQ t e z)(h':CQ t' e' z')(hc:q.jy=jS [e.jy,e'.jy]):CQ (t+1+t') q ⟨max (max z.wide (1+z'.wide)) 1,max z.deep z'.deep,z.jD+z'.jD+1,z.jM+z'.jM+13⟩:=by
 have h1:=h.wide;have h2:=h.jM;have h3:=h.tok;have h4:=h.jD;have h5:=h.jy;have k1:=h'.wide;have k2:=h'.jM;have k3:=h'.tok;have k4:=h'.jD;have k5:=h'.jy;refine⟨by omega,⟨by show 0<=max (max z.wide (1+z'.wide)) 1;omega,by show 2 * max (max z.wide (1+z'.wide)) 1<=t+1+t'+1;omega⟩,⟨by show 0<=z.jM+z'.jM+13;omega,by show z.jM+z'.jM+13<=20 * (t+1+t');omega⟩,by show 0<=z.jD+z'.jD+1;omega,by rw[hc];exact rC h5 k5,λhk=>?_⟩;rw[hc]at hk;have hp:=zJ h5.1 h5.2 k5.1 k5.2 hk;obtain⟨a1,a2⟩:=h.all (by omega);obtain⟨b1,b2⟩:=h'.all (by omega);rw[hc,hp];refine⟨by show z.jD+z'.jD+1<=_;omega,?_⟩;show((8^max z.deep z'.deep:Nat):Int)<=_;rcases gX z.deep z'.deep with hh|hh
 .rw[gG hh];omega
 .rw[gV hh];omega
theorem Qo{P:Ck->Prop}{g g':Co->Int->Co×Int}{z z':Sz}{f f':Val}{o:Int}(h:Mx P g z f)(h':Mx P g' z' f')(ho:zV o):Mx P (λc into=>c.two o into {give:=g} {give:=g'}) ⟨max (max z.wide (1+z'.wide)) 1,max z.deep z'.deep,z.jD+z'.jD+1,z.jM+z'.jM+13⟩ (λns v σ=>outcome v o (f ns v σ) (f' ns v σ)):=
 (arB h h' ho).grow (aV _) (aj _) (aV _) (by show z.jM+z'.jM+7<=z.jM+z'.jM+13;omega)
theorem anR{t t':Int}{l r:Ex}(hl:QX t l)(hr:QX t' r)(a:Int):QX (t+1+t') (xJ a l r):=by
 obtain⟨z,f,h1,h2⟩:=hl;obtain⟨z',f',k1,k2⟩:=hr;have ho:zV 35:=jh rfl;have hlk:∀ck,kZ (xJ a l r) ck->kZ l ck/\kZ r ck/\(xJ a l r).does.look ck=ck:=λck hk=>by
  have hk:=hk;have e0:(xJ a l r).does.look ck=(r.does.look ((l.does.look ck).want (l.does.jU ck.jA) l.at' 4)).want (r.does.jU ((l.does.look ck).want (l.does.jU ck.jA) l.at' 4).jA) r.at' 3:=rfl;obtain⟨_,q2,q3⟩:=zQ hk;have q4:=k1.look _ q3;have q5:((l.does.look ck).want (l.does.jU ck.jA) l.at' 4).en=0:=by
   have q3':=q3;rw[q4]at q3';exact q3'
  obtain⟨_,q6,q7⟩:=zQ q5;have q8:=h1.look ck q7;rw[q6,q8]at q3 q4;rw[e0,q2,q6,q8];exact⟨q7,q3,q4⟩
 refine⟨_,_,⟨λck hk=>(hlk ck hk).2.2,Qo (h1.give.of λck hk=>(hlk ck hk).1) (k1.give.of λck hk=>(hlk ck hk).2.1) ho,Qo (h1.fold.of λck hk=>(hlk ck hk).1) (k1.fold.of λck hk=>(hlk ck hk).2.1) ho,λck en v σ hk ht hv=>?_,λh=>jq h (by show¬(0:Int)=1;decide),λh=>jq h (by show¬(0:Int)=2;decide),λh=>jq h (by show¬(0:Int)=3;decide)⟩,af2 h2 k2 rfl⟩;have e1:outcome v 35 (f en v σ) (f' en v σ)=oI (UZ (v.uH (f en v σ)) (v.sG (f' en v σ))):=by simp[outcome]
 rw[e1];exact⟨H8 _,λ_=>ET _⟩
end
section
open Go.RowKit Hx
attribute [local go_sem ↓] Go.wp_at_zero Go.wp_at_succ
attribute [local go_sem] kL
section
variable {w w' w1 w2 w3 w4:jo}{C lo hi b d m k:Nat}{c:Ck}{u v:jr}{e f:Ex}{a:Int}{T:jv}{x:Sx}
structure zU(d:Nat)(s:jK):Prop where
 ok:nZ s
 jA:∀c,∃more,(s.does.look c).jA=c.jA++more/\more.length<=1
 look:∀w lo hi T b C c,s.here w lo hi (.iface T (Pt b 0))->hi<=C->kX w C c->c.jA.length+10000 * d<=805000->
  ∃f,(∀w,(method 576 T (Pt b 0) "helm/lang.look").run prog w=.ok (f,Pt b 0) w)/\Enters f/\
   Calls prog f #[Pt b 0,Pt C 0] w λen w'=>en=.returned (.tuple #[])/\s.here w' lo hi (.iface T (Pt b 0))/\kX w' C (s.does.look c)/\Lk w w' lo hi C
theorem JY{c c':Ck}(h:c'.jA=c.jA):∃more,c'.jA=c.jA++more/\more.length<=1:=⟨[],by rw[h,aX],by simp⟩
theorem U5{T' T:jv}{at' jy:Int}{mk:List jr->List jr}{ds:Ds}{c':Ck}{w0:jo}(he:kV e)(h1:lo<=b)(h2:b<hi)(hC:hi<=C)(hb:w.heap[b]? =some (.cells (Im at'::Im jy::mk [u]).toArray T))
 {bk:Nat}(h0:Lk w w0 0 0 C)(hl:nT e e.at' w0 w1 lo b u bk C c')(hw:Lk w1 w2 0 0 C)(hc:kX w2 C (ds.look c)):(yw T' T at' jy (nX (e.here e.at')) mk ds).here w2 lo hi (.iface T' (Pt b 0))/\kX w2 C ((yw T' T at' jy (nX (e.here e.at')) mk ds).does.look c)/\Lk w w2 lo hi C:=by
 have kk:=(h0.all _ _).trans (hl.keep.trans (hw.all _ _));have hb2:=(kk.keep b (by omega) (jh (aj _))).trans hb;exact⟨⟨b,[u],rfl,h1,h2,⟨u,rfl,(he.law _).lk hl.here hw (by omega) (jh (bD _))⟩,hb2⟩,hc,kk.wide (aj _) (by omega)⟩
theorem aeN(a:Int):nZ (yC a):=uF (by simp[oO]) BM (by omega)
theorem aq1(a i:Int)(h:kV e):nZ (yE a i e):=uF (by simp[oO]) (qO (h.law _)) (pW h.jy)
theorem aqo(t:Wd)(h:kV e):nZ (sQ t e):=uF (by simp[oO]) (qO (h.law _)) (pW h.jy)
theorem amT(a:Int)(t:Wd)(h:kV e):nZ (uD a t e):=uF (by simp[oO]) (qO (h.law _)) (pW h.jy)
theorem aoW(a:Int)(h:kV e)(k:kV f):nZ (vU a e f):=uF (by simp[oO]) (wC (h.law _) (k.law _)) (rC h.jy k.jy)
theorem apM(d:Nat)(a:Int):zU d (yC a):=by
 refine⟨aeN a,λc=>JY rfl,?_⟩;rintro w lo hi T b C c ⟨b',us,hv,h1,h2,h3,hb⟩ hC hc hn;cases hv;refine⟨333,λw=>by kernel_rfl,λargs w=>by kernel_rfl,?_⟩;have HE:Hid ((yC a).here w lo hi (.iface 336 (Pt b 0))/\kX w C c/\Lk w w lo hi C):=⟨⟨b,us,rfl,h1,h2,h3,hb⟩,hc,Lk.refl _ _ _ _⟩;clear hb hc h3;go_enter func333,ntmps333;go_wp2_with fail;go_end0;exact⟨rfl,HE.out⟩
theorem aq0(h:l7 k e)(hk:k<=10000 * d)(a i:Int):zU d (yE a i e):=by
 refine⟨aq1 a i h.ok,λc=>JY ?_,?_⟩
 .show((e.does.look c).want (e.does.jU c.jA) e.at' 1).jA=c.jA;rw[vY,h.jA]
 rintro w lo hi T b C c ⟨b',us,hv,h1,h2,⟨u,rfl,hu⟩,hb⟩ hC hc hn;cases hv;obtain⟨T1,b1,f1,rfl,hT1,l1,l2,m1,kK,H1⟩:=h.use (C:=C) (c:=c) hu (by omega) hc (by omega);have c3:=jJ 3 hb rfl;have kK:∀args w,(callFunc f1 args).run prog w=.ok (.enter f1 args) w:=kK;have H1:Hid (Calls prog f1 #[Pt b1 0,Pt C 0] w λen w'=>en=.returned (.tuple #[])/\nT e e.at' w w' lo b (.iface T1 (Pt b1 0)) b1 C c):=H1;have HC:=jB (jg h hC);have HB:=jB hb;refine⟨320,λw=>by kernel_rfl,λargs w=>by kernel_rfl,?_⟩;clear hu hb hc hn hC h;go_enter func320,ntmps320;go_wp2_with fail;refine H1.out.mono ?_;rintro en w1 ⟨rfl,hl⟩;have hb1:=(hl.keep.keep b (by have:=HC.out.2;omega) (jh (aj _))).trans HB.out;have e3:=jJ 3 hb1 rfl;have HW:=jB (hl.want HC.out.1.ok 1 0);have HL:=jB hl;clear hl hb1 H1;go_wp2_with fail;refine HW.out.mono ?_;rintro en w2 ⟨rfl,p1,p2⟩;have HE:Hid ((yE a i e).here w2 lo hi (.iface 327 (Pt b 0))/\kX w2 C ((yE a i e).does.look c)/\Lk w w2 lo hi C):=U5 HC.out.1.ok h1 h2 HC.out.2 HB.out (Lk.refl _ _ _ _) HL.out p2 p1;clear p1 p2;go_wp2_with fail;go_end0;exact⟨rfl,HE.out⟩
theorem amS(h:l7 k e)(hk:k<=10000 * d)(a:Int)(t:Wd):zU d (uD a t e):=by
 obtain⟨tt,ta⟩:=t;refine⟨amT a _ h.ok,λc=>⟨[⟨tt,e.does.jU (c.mD tt ta).jA,true⟩],?_,by simp⟩,?_⟩
 .show((e.does.look (c.mD tt ta)).add tt (e.does.jU (c.mD tt ta).jA) true).jA=_;unfold Ck.add;rw[h.jA,J8]
 rintro w lo hi T b C c ⟨b',us,hv,h1,h2,⟨u,rfl,hu⟩,hb⟩ hC hc hn;cases hv;obtain⟨T1,b1,rfl,hT1,_⟩:=h.ok.head _ _ _ _ _ hu;have c2:=jJ 2 hb rfl;have c3:=jJ 3 hb rfl;have HN:=jB (TL hc tt ta (by omega));have HC:Hid (l7 k e/\hi<=C/\c.jA.length+k<=899999/\e.here e.at' w lo b (.iface T1 (Pt b1 0))):=⟨h,hC,by omega,hu⟩;have HB:=jB hb;refine⟨323,λw=>by kernel_rfl,λargs w=>by kernel_rfl,?_⟩;have m2:=hT1.sort b1;clear hu hb hc hn hC h;go_enter func323,ntmps323;go_wp2_with fail;refine HN.out.mono ?_;rintro en w0 ⟨rfl,p1,p2⟩;have hbC:b<C:=by have:=HC.out.2.1;omega
 have hb0:=(p2.keep b hbC (jh (bD _))).trans HB.out;have d4:=jJ 4 hb0 rfl;have hh0:=(HC.out.1.ok.law _).lk HC.out.2.2.2 p2 (by omega) (jh (bD _));have hnm:=J8 c tt ta;obtain⟨f1,m1,kK,H1⟩:=HC.out.1.look _ _ _ _ _ _ C _ hh0 (by omega) p1 (by rw[hnm];have:=HC.out.2.2.1;omega);have kK:∀args w,(callFunc f1 args).run prog w=.ok (.enter f1 args) w:=kK;have H1:Hid (Calls prog f1 #[Pt b1 0,Pt C 0] w0 λen w'=>en=.returned (.tuple #[])/\nT e e.at' w0 w' lo b (.iface T1 (Pt b1 0)) b1 C (c.mD tt ta)):=H1;have N8:=jB (jg p2 hb0);clear p1 p2 hb0 hh0 HN;go_wp2_with fail;refine H1.out.mono ?_;rintro en w1 ⟨rfl,hl⟩;have hb1:=(hl.keep.keep b hbC (jh (aj _))).trans N8.out.2;have e2:=jJ 2 hb1 rfl;have e3:=jJ 3 hb1 rfl;have e4:=jJ 4 hb1 rfl;have HSo:=jB (λn=>NP b1 _ ((lH w1 n).cell hl.kind (by simp)));have GN:Hid (∀n,Calls prog 326 #[Pt C 0,.agg #[.string tt,Im ta],Im (e.does.jU (c.mD tt ta).jA),.bool true] (w1.drewN n) λen w'=>en=.returned (.tuple #[])/\kX w' C ((e.does.look (c.mD tt ta)).add tt (e.does.jU (c.mD tt ta).jA) true)/\Lk w1 w' 0 0 C):=λn=>by
  refine(TI (hl.ck.grow (lH w1 n)) tt ta _ true (by rw[HC.out.1.jA,hnm];have:=HC.out.2.2.1;omega)).mono ?_;rintro en w' ⟨r1,r2,r3⟩;exact⟨r1,r2,(Lk.grown (lH w1 n) hl.ck.lt).trans r3⟩
 have HL:=jB hl;clear hl hb1 H1 hnm hT1;generalize hkd:e.does.jU (c.mD tt ta).jA=kd at *;have N9:=jB hkd;clear hkd;go_wp2_with fail;refine nJ 10 (by kernel_rfl) (by kernel_rfl) ?_;simp only[aC,aO,aG,aQ];repeat (go_big_quiet_step ((go_at_call 356;exact dN (HSo.out _))))
 refine bF ?_;intro _ hw';obtain⟨n3,hw''⟩:=hw';subst hw'';go_wp2_with fail;refine(GN.out _).mono ?_;rintro en w2 ⟨rfl,p1,p2⟩;rw[<-N9.out]at p1;have HE:Hid ((uD a ⟨tt,ta⟩ e).here w2 lo hi (.iface 331 (Pt b 0))/\kX w2 C ((uD a ⟨tt,ta⟩ e).does.look c)/\Lk w w2 lo hi C):=U5 HC.out.1.ok h1 h2 HC.out.2.1 HB.out N8.out.1 HL.out p2 p1;clear p1 p2;go_wp2_with fail;go_end0;exact⟨rfl,HE.out⟩
end
end
end Go.Proofs.YthllhabjfchgiaaGreatDoor
