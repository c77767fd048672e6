import Derived.Test.YthllhabjfchgiaaGreatDoorHs38
set_option maxRecDepth 100000
set_option maxHeartbeats 8000000
set_option linter.unusedSimpArgs false
namespace Go.Proofs.YthllhabjfchgiaaGreatDoor
section
open Go.RowKit Hx
structure nP where
 env:List (ji×Int)
 jF:Int->Int
 jP:List (Int×Int)
abbrev lV:=Vw->nP->Option nP⊕nP
structure vN(c:Co)(m:Mc)(p:nP):Prop where
 env:lM c m.get=p.env
 jF:∀i,0<=i->i<8->m.get i=p.jF i
 jP:m.jP=p.jP
structure Ctx(c:Co):Prop where
 free:c.free=8+c.jy.length
 jD:∀(j:Nat)(n:ji×Int),c.jy[j]? =some n->n.2=8+j
def oh(ck:Ck)(p:nP):Prop:=qG ck p.env p.jF
theorem vN.ty{ck:Ck}{c:Co}{m:Mc}{p:nP}(h:vN c m p)(q:Fit ck c)(d:oh ck p):Ty ck c m.get:=by
 have s:=q.lens;have l:∀(j:Nat)(n:ji×Int),c.jy[j]? =some n->p.env[j]? =some (n.1,m.get n.2):=λj n a=>by
  rw[<-h.env,lM,fV,a]
  rfl
 refine⟨λi e f=>by rw[h.jF i e f];exact d.jF i e f,λn a=>?_,λj k n r a o=>(d.vals j k _ r (l j n a)).2 o⟩;obtain⟨j,g⟩:=List.mem_iff_getElem?.1 a;have b:j<ck.jy.length:=by
  have:=(List.getElem?_eq_some_iff.1 g).1;omega
 exact(d.vals j _ _ (bU b) (l j n g)).1
theorem vN.val{c:Co}{m:Mc}{p:nP}(h:vN c m p){f:Val}(a:uD f)(v:Vw):f (lM c m.get) v m.get=f p.env v p.jF:=by
 rw[h.env];exact a _ _ _ _ h.jF
def xG(c':Co)(d:Nat)(v:Vw)(S:List St)(jF:List Int)(k:Nat)(m:Mc)(lC:Nat):Option nP⊕nP->Prop
 | .inr p=>∃m',Reaches v S jF k m lC m'/\vN c' m' p/\m'.jD.length=m.jD.length/\m'.left.length=m.left.length/\∀j:Nat,j<d->m'.ni j=m.ni j
 | .inl none=>DJ v S jF k m ⟨1,jF,[]⟩
 | .inl (some p)=>∃o,DJ v S jF k m o/\o.status=0/\(∀i:Nat,i<8->o.jF.getD i 0=p.jF i)/\o.jP=p.jP
theorem xG.before{g:Co}{d:Nat}{v:Vw}{S:List St}{jF:List Int}{k l:Nat}{m m1:Mc}{lC:Nat}{r:Option nP⊕nP}(h:xG g d v S jF l m1 lC r)(c:Reaches v S jF k m l m1)(u:m1.jD.length=m.jD.length)(f:m1.left.length=m.left.length)(e:∀j:Nat,j<d->m1.ni j=m.ni j):xG g d v S jF k m lC r:=by
 cases r with
 |inr p=>
  obtain⟨w,a,b,n,s,t⟩:=h;exact⟨w,c.trans a,b,n.trans u,s.trans f,λj i=>(t j i).trans (e j i)⟩
 |inl q=>
  cases q with
  |none=>exact c.stops h
  |some p=>
   obtain⟨o,a,b⟩:=h;exact⟨o,c.stops a,b⟩
structure Xt(c:Co)(z:Sz)(fr:Fr):Prop where
 ok:fr.Ok false
 jC:fr.jC<=z.jC
 deep:fr.deep<=z.deep
 jL:((jX fr.is).length:Int)<=z.jL
 low:lF fr.is (c.free+z.wide)
def BK(ck:Ck)(c c':Co)(fr:Fr)(F:lV):Prop:=
 ∀(v:Vw)(S:List St)(jF:List Int)(k:Nat)(lp:List Int)(m:Mc)(p:nP),nM v->uG S k (fr.jB k lp)->lp.length+fr.deep<=8->m.left.length=8->lF fr.is m.jD.length->vN c m p->oh ck p->xG c' lp.length v S jF k m (k+fr.size) (F v p)
def Ms(lk:Ck->Ck)(g:Co->Co)(z:Sz)(F:lV):Prop:=
 ∀(ck:Ck)(c:Co),Fit ck c->Ctx c->(lk ck).en=0->c.free+z.wide<=2008->
  ∃(fr:Fr)(more:List (ji×Int)),g c=⟨c.code++jX fr.is,c.jy++more,c.free+more.length⟩/\more.length<=1/\Ctx (g c)/\Fit (lk ck) (g c)/\Xt c z fr/\BK ck c (g c) fr F
structure MS(s:jI)(z:Sz)(F:lV):Prop where
 look:∀ck,(s.does.look ck).en=0->ck.en=0/\∃more,s.does.look ck=⟨ck.jy++more,ck.en,ck.ea⟩
 lay:Ms s.does.look s.does.lay z F
 fold:s.does.fs.idle=false->Ms s.does.look s.does.fs.lay z F
 ty:∀ck v p p',(s.does.look ck).en=0->oh ck p->nM v->F v p=.inr p'->oh (s.does.look ck) p'
 idle:s.does.fs.idle=true->∀ck,(s.does.look ck).en=0->s.does.look ck=ck/\∀v p,oh ck p->nM v->F v p=.inr p
 ends:s.does.fs.ends=true->∀ck v p,(s.does.look ck).en=0->oh ck p->nM v->∃r,F v p=.inl r
theorem KI{s:jI}{ck:Ck}(h:s.does.look ck=ck)(b:(s.does.look ck).en=0):ck.en=0/\∃a,s.does.look ck=⟨ck.jy++a,ck.en,ck.ea⟩:=by
 rw[h]at b;exact⟨b,[],by rw[h];simp⟩
structure Nh(t:Int)(s:jI)(z:Sz):Prop where
 tok:2<=t
 wide:1<=z.wide/\2 * z.wide<=t
 jL:0<=z.jL/\z.jL<=20 * t
 jC:0<=z.jC
 jw:1<=s.jw/\s.jw<=1000001
 all:s.jw<=1000000->z.jC<=40 * s.jw/\((8^z.deep:Nat):Int)<=s.jw+1
def QS(t:Int)(s:jI):Prop:=∃z F,MS s z F/\Nh t s z
def QE(t:Int)(s:jI)(F:lV):Prop:=∃z,MS s z F/\Nh t s z
theorem GH{c:Co}(h:Ctx c){a:List Int}{more:List (ji×Int)}(b:more=[]):Ctx ⟨a,c.jy++more,c.free+more.length⟩:=by
 subst b;exact⟨by show c.free+((0:Nat):Int)=8+((c.jy++[]).length:Int);rw[aX];have:=h.free;omega,by show∀j n,(c.jy++[])[j]? =some n->_;rw[aX];exact h.jD⟩
theorem GR{ck:Ck}{c:Co}(h:Fit ck c){a:List Int}{more:List (ji×Int)}(b:more=[]):Fit ck ⟨a,c.jy++more,c.free+more.length⟩:=by
 subst b;have:(⟨a,c.jy++[],c.free+(([]:List (ji×Int)).length:Nat)⟩:Co)=⟨a,c.jy,c.free⟩:=by simp
 rw[this];exact h.more (aV _)
theorem ab8{a b:Int}(c:0<=a/\a<2008)(d:0<=b/\b<2008):rE ⟨7,[a,b]⟩:=
 ⟨⟨by show(0:Int)<=7;omega,by show(7:Int)<=36;omega⟩,a,[b],rfl,rC c.1 c.2,b,[],rfl,rC d.1 d.2,rfl⟩
theorem ahC{P:Ck->Prop}{g:Co->Int->Co×Int}{z:Sz}{f:Val}(h:Mx P g z f){ck:Ck}{c:Co}{slot:Int}(D:Fit ck c)(G:P ck)(M:0<=z.wide)(I:c.free+z.wide<=2008)(j:0<=slot/\slot<c.free):
 ∃a:Fr,c.store slot {give:=g}=⟨c.code++jX a.is,c.jy,c.free⟩/\Xt c ⟨z.wide,z.deep,z.jC+1,z.jL+5⟩ a/\
  ∀(v:Vw)(S:List St)(jF:List Int)(k:Nat)(b:List Int)(m:Mc),nM v->uG S k (a.jB k b)->b.length+a.deep<=8->m.left.length=8->lF a.is m.jD.length->Ty ck c m.get->
   ∃l,Reaches v S jF k m (k+a.size) l/\l.get slot=f (lM c m.get) v m.get/\oU c.free slot b.length m l:=by
 have L:=D.free;obtain⟨a,r,K,e,x,w⟩:=h.lay ck c slot D G I (je j);have E:=x.r0;have N:=x.r1;have O:=x.f2;have Q:=x.r3;have T:=x.jC;have J:=x.deep;have R:=x.jL;unfold Co.store;simp only;rw[e];simp only;by_cases A:r=slot
 .rw[jh A];refine⟨a,rfl,⟨x.ok,by show a.jC<=z.jC+1;omega,J,by show _<=z.jL+5;omega,x.low⟩,λv S jF k b m C p q d s B=>?_⟩;obtain⟨l,t,u,o⟩:=w v S jF k b m C p q d s B;exact⟨l,t,by rw[<-A];exact u,o⟩
 .rw[jg A];have i:rE ⟨7,[slot,r]⟩:=ab8 ⟨j.1,by omega⟩ ⟨E,by omega⟩;have H:rW 7:=by unfold rW;omega
  refine⟨a.seq (Fr.ins ⟨7,[slot,r]⟩),?_,⟨Fr.uy x.ok (Fr.xP i (jf (by show(6:Int)<=7;omega)) false),by show a.jC+1<=z.jC+1;omega,by show max a.deep 0<=z.deep;omega,?_,?_⟩,λv S jF k b m C p q d s B=>?_⟩
  .simp only[Co.lay,Co.kC,Fr.seq,Fr.ins,nN,ny,mD,enc,aX,bY]
  .have:=JZ 7 slot r ⟨j.1,by omega⟩ ⟨E,by omega⟩;show((jX (a.is++[⟨7,[slot,r]⟩])).length:Int)<=z.jL+5;rw[nN,aA];omega
  .refine x.low.append (lF.one ⟨λ_=>?_,λ_=>?_,trivial⟩)
   .show slot+1<=c.free+z.wide;omega
   .show r+1<=c.free+z.wide;omega
  .have q:b.length+max a.deep 0<=8:=q;obtain⟨n,t,u,o⟩:=w v S jF k b m C p.left (by omega) d s.left B;have y:=yM (v:=v) (jF:=jF) (m:=n) (p.right (x.ok.size k b)).head (by show(6:Int)<=7;omega) (by show(7:Int)≠36;omega);rw[H.work]at y;have F:outcome v 7 (n.get r) 0=n.get r:=by simp[outcome]
   rw[F]at y;refine⟨n.put slot (n.get r),t.trans y,?_,o.trans (yG (jf rfl) j.1)⟩;have:=(s.right ⟨7,[slot,r]⟩ (by simp[Fr.ins])).1 rfl;rw[vW _ _ _ j.1 (by rw[o.len];omega),u]
def qy(σ:Int->Int)(i x:Int):Int->Int:=λj=>if j=i then x else σ j
theorem zB(a:List Int)(c:Co):(⟨a,c.jy,c.free⟩:Co)=⟨a,c.jy++[],c.free+(([]:List (ji×Int)).length:Nat)⟩:=by simp
theorem acv(a:List Int)(c:Co)(f:Int)(σ:Int->Int):lM ⟨a,c.jy,f⟩ σ=lM c σ:=rfl
theorem aee{c:Co}{a:List Int}{m e:Mc}{b:Int}{d:Nat}{v:Vw}{S:List St}{jF:List Int}{k lC:Nat}{p:nP}(g:Reaches v S jF k m lC e)(f:oU c.free b d m e)(h:vN ⟨a,c.jy,c.free⟩ e p):xG ⟨a,c.jy++[],c.free+(([]:List (ji×Int)).length:Nat)⟩ d v S jF k m lC (.inr p):=by
 rw[<-zB];exact⟨e,g,h,f.len,f.vk,f.left⟩
theorem Yr{t:Int}{e:Ex}{s:jI}{z:Sz}(h:Cc t e z)(b:s.jw=jS [e.jw]):Nh (t+3) s ⟨max z.wide 1,z.deep,z.jC+1,z.jL+5⟩:=by
 have i:=h.wide;have j:=h.jL;have k:=h.tok;have l:=h.jC;have a:=h.jw;refine⟨by omega,⟨by show 1<=max z.wide 1;omega,by show 2 * max z.wide 1<=t+3;omega⟩,⟨by show 0<=z.jL+5;omega,by show z.jL+5<=20 * (t+3);omega⟩,by show 0<=z.jC+1;omega,by rw[b];exact⟨yE (by simpa using a),(qx a).2⟩,λc=>?_⟩;rw[b]at c;have d:=yU a.1 a.2 c;obtain⟨f,g⟩:=h.all (by omega);rw[b,d];exact⟨by show z.jC+1<=_;omega,by show((8^z.deep:Nat):Int)<=_;omega⟩
theorem Xt.grow{c:Co}{z z':Sz}{fr:Fr}(h:Xt c z fr)(a:z.wide<=z'.wide)(b:z.deep<=z'.deep)(d:z.jC<=z'.jC)(e:z.jL<=z'.jL):Xt c z' fr:=
 ⟨h.ok,by have:=h.jC;omega,by have:=h.deep;omega,by have:=h.jL;omega,h.low.wide (by omega)⟩
theorem ahH{P:Ck->Prop}{g:Co->Int->Co×Int}{z:Sz}{f:Val}(h:Mx P g z f)(J:0<=z.wide)(r:Ck->Ck)(G:∀a,(r a).en=0->P a/\r a=a){i:Int}(hi:0<=i/\i<8):Ms r (λc=>c.store i {give:=g}) ⟨max z.wide 1,z.deep,z.jC+1,z.jL+5⟩ (λv p=>.inr {p with jF:=qy p.jF i (f p.env v p.jF)}):=by
 intro a c d w F u;obtain⟨L,M⟩:=G a F;have U:=d.free;have u:c.free+max z.wide 1<=2008:=u;obtain⟨A,O,Q,R⟩:=ahC h d L J (by omega) (slot:=i) ⟨hi.1,by omega⟩;simp only;rw[O,M,zB];refine⟨A,[],rfl,by simp,GH w rfl,GR d rfl,Q.grow (by show z.wide<=max z.wide 1;omega) (aj _) (aV _) (aV _),?_⟩;intro v S jF k N m p I D E q e l H;obtain⟨y,B,C,o⟩:=R v S jF k N m I D E q e (l.ty d H);refine aee B o ⟨?_,λj x K=>?_,?_⟩
 .rw[acv,<-l.env];refine List.map_congr_left λn t=>?_;obtain⟨j,b⟩:=List.mem_iff_getElem?.1 t;have T:=w.jD j n b;have s:=d.jD n t;rw[o.jD n.2 s.1 s.2 (by omega)]
 .show y.get j=qy p.jF i (f p.env v p.jF) j;unfold qy;by_cases b:j=i
  .rw[jh b,b,C,l.val h.pO]
  .rw[jg b,o.jD j x (by omega) b,l.jF j x K]
 .show y.jP=p.jP;rw[o.jP,l.jP]
theorem LJ{t:Int}{e:Ex}{f:Val}(h:QF t e f)(a i:Int)(hi:0<=i/\i<8):QE (t+3) (uQ a i e) (λv p=>.inr {p with jF:=qy p.jF i (f p.env v p.jF)}):=by
 obtain⟨z,d,l⟩:=h;have g:∀b,((uQ a i e).does.look b).en=0->kX e b/\(uQ a i e).does.look b=b:=λb c=>by
  obtain⟨_,r,m⟩:=AO (show((e.does.look b).want (e.does.jZ b.jy) e.at' 1).en=0 from c);have n:(uQ a i e).does.look b=(e.does.look b).want (e.does.jZ b.jy) e.at' 1:=rfl;exact⟨m,by rw[n,r];exact d.look b m⟩
 refine⟨_,⟨λb c=>KI (g b c).2 c,ahH d.give l.wide.1 _ g hi,λ_=>ahH d.fold l.wide.1 _ g hi,λb v p s c k q o=>?_,(λh=>by cases h),(λh=>by cases h)⟩,Yr l rfl⟩;cases o;obtain⟨l1,l2⟩:=g b c;rw[l2];refine⟨λj j0 j1=>?_,k.jy,k.vals⟩;show jK (qy p.jF i (f p.env v p.jF) j);unfold qy;split
 .exact(d.ty b p.env v p.jF l1 k q).1
 .exact k.jF j j0 j1
theorem auK{t:Int}{e:Ex}(h:QX t e)(a i:Int)(hi:0<=i/\i<8):QS (t+3) (uQ a i e):=by
 obtain⟨z,f,b,c⟩:=h;obtain⟨d,q⟩:=LJ ⟨z,b,c⟩ a i hi;exact⟨d,_,q⟩
def Jq(t:ji)(x:Int):List (ji×Int)->List (ji×Int)
 |[]=>[]
 |n::e=>if n.1.data.toList==t.data.toList then (n.1,x)::e else n::Jq t x e
theorem Vo{t:ji}:∀{c:List Kn}{d:List (ji×Int)},c.map (λk=>k.name.data.toList)=d.map (λn=>n.1.data.toList)->c.find? (λk=>k.name.data.toList==t.data.toList)≠none->
 ∃(j:Nat)(k:Kn)(n:ji×Int),c[j]? =some k/\d[j]? =some n/\c.find? (λk=>k.name.data.toList==t.data.toList)=some k/\d.find? (λn=>n.1.data.toList==t.data.toList)=some n/\∀e:List (ji×Int),e.map (λn=>n.1.data.toList)=d.map (λn=>n.1.data.toList)->∀x,Jq t x e=e.set j ((e.getD j (t,0)).1,x)
 |[],[],_,h=>jl rfl h
 |[],_::_,h,_=>by simp at h
 |_::_,[],h,_=>by simp at h
 |k::c,n::d,h,hk=>by
  simp only[dL,iy]at h;by_cases a:(k.name.data.toList==t.data.toList)=true
  .refine⟨0,k,n,rfl,rfl,by rw[fF,a],by rw[fF,show(n.1.data.toList==t.data.toList)=true by rw[<-h.1];exact a],λe b x=>?_⟩;cases e with
   |nil=>simp at b
   |cons q e=>
    simp only[dL,iy]at b;have f:(q.1.data.toList==t.data.toList)=true:=by rw[b.1,<-h.1];exact a
    simp[Jq,f]
  .have a:(k.name.data.toList==t.data.toList)=false:=by simpa using a
   rw[fF,a]at hk;obtain⟨j,g,i,l,m,o,p,r⟩:=Vo h.2 hk;refine⟨j+1,g,i,l,m,by rw[fF,a];exact o,by rw[fF,show(n.1.data.toList==t.data.toList)=false by rw[<-h.1];exact a];exact p,λe b x=>?_⟩;cases e with
   |nil=>simp at b
   |cons q e=>
    simp only[dL,iy]at b;have f:(q.1.data.toList==t.data.toList)=false:=by rw[b.1,<-h.1];exact a
    have:=r e b.2 x;simp[Jq,f,this]
theorem atq{b:Wd}{e:Ex}{z:Sz}{f:Val}(h:MX e z f){ck:Ck}(k:((sV b e).does.look ck).en=0):kX e ck/\(sV b e).does.look ck=ck/\(lJ ck.jy b.text).isVar=true/\e.does.jZ ck.jy=(lJ ck.jy b.text).kind:=by
 have j:(sV b e).does.look ck=(e.does.look (if (lJ ck.jy b.text).isVar then ck else ck.fail 2 b.at')).want (e.does.jZ (if (lJ ck.jy b.text).isVar then ck else ck.fail 2 b.at').jy) e.at' (lJ ck.jy b.text).kind:=rfl;rw[j]at k;obtain⟨l,n,c⟩:=AO k;have d:=h.look _ c;have g:(if (lJ ck.jy b.text).isVar then ck else ck.fail 2 b.at').en=0:=by
  have a:=c;rw[d]at a;exact a
 have i:(lJ ck.jy b.text).isVar=true:=by
  cases m:(lJ ck.jy b.text).isVar with
  |true=>rfl
  |false=>
   rw[m]at g;simp only[aH,cZ]at g;exact jl g (Vh (by decide))
 rw[jh i]at l c d;rw[j,n,jh i];exact⟨c,d,i,l⟩
theorem ail{ck:Ck}{t:ji}(h:(lJ ck.jy t).isVar=true):ck.jy.find? (λk=>k.name.data.toList==t.data.toList)≠none:=λe=>by
 unfold lJ at h;rw[e]at h;cases h
theorem aha{g:Co->Int->Co×Int}{z:Sz}{f:Val}{b:Wd}{e:Ex}(h:Mx (kX e) g z f)(P:0<=z.wide)(K:∀a,((sV b e).does.look a).en=0->kX e a/\(sV b e).does.look a=a/\(lJ a.jy b.text).isVar=true/\e.does.jZ a.jy=(lJ a.jy b.text).kind):Ms (sV b e).does.look (λc=>c.store (c.wK b.text) {give:=g}) ⟨max z.wide 1,z.deep,z.jC+1,z.jL+5⟩ (λv p=>.inr {p with env:=Jq b.text (f p.env v p.jF) p.env}):=by
 intro a c d w J C;obtain⟨V,W,X,_⟩:=K a J;have h8:=d.free;have C:c.free+max z.wide 1<=2008:=C;obtain⟨j,kn,n,i1,s,i3,Q,R⟩:=Vo d.jy (ail X);have x:c.wK b.text=n.2:=by unfold Co.wK;rw[Q];rfl
 have L:=d.jD n (bT s);have M:=w.jD j n s;obtain⟨F,Z,q2,q3⟩:=ahC h d V P (by omega) (slot:=c.wK b.text) (by rw[x];exact L);simp only;rw[Z,W,zB];refine⟨F,[],rfl,by simp,GH w rfl,GR d rfl,q2.grow (by show z.wide<=max z.wide 1;omega) (aj _) (aV _) (aV _),?_⟩;intro v S U k Y m p O H I t o r N;obtain⟨E,G,y,i⟩:=q3 v S U k Y m O H I t o (r.ty d N);rw[x]at y i;refine aee G i ⟨?_,λq D T=>?_,?_⟩
 .rw[acv];rw[<-r.val h.pO,<-y,<-r.env,R (lM c m.get) (by unfold lM;rw[List.map_map];rfl)];unfold lM;refine List.ext_getElem? λq=>?_;rw[fV];by_cases B:q=j
  .subst B;rw[s];have u:=(List.getElem?_eq_some_iff.1 s).1;rw[dY (by rw[List.length_map];exact u)];simp[aU,fV,s]
  .rw[dQ (λe=>B e.symm),fV];cases l:c.jy[q]?with
   |none=>rfl
   |some n'=>
    have A:=d.jD n' (bT l);have h2:=w.jD q n' l;simp only[iH,bJ,Prod.mk.injEq,true_and];exact i.jD n'.2 A.1 A.2 (by omega)
 .show E.get q=p.jF q;rw[i.jD q D (by omega) (by omega),r.jF q D T]
 .show E.jP=p.jP;rw[i.jP,r.jP]
theorem atu{t:Int}{e:Ex}{f:Val}(h:QF t e f)(b:Wd):QE (t+3) (sV b e) (λv p=>.inr {p with env:=Jq b.text (f p.env v p.jF) p.env}):=by
 obtain⟨z,r,u⟩:=h;have s:=λc (i:((sV b e).does.look c).en=0)=>atq r i;refine⟨_,⟨λc i=>KI (s c i).2.1 i,aha r.give u.wide.1 s,λ_=>aha r.fold u.wide.1 s,λc v p D i o y x=>?_,(λh=>by cases h),(λh=>by cases h)⟩,Yr u rfl⟩;cases x;obtain⟨l1,l2,l3,l4⟩:=s c i;rw[l2];obtain⟨j,kn,n,i1,i2,i3,i4,i5⟩:=Vo o.jy (ail l3);have hfk:lJ c.jy b.text=kn:=by unfold lJ;rw[i3];rfl
 obtain⟨C,w⟩:=r.ty c p.env v p.jF l1 o y;rw[l4,hfk]at w;have d:=i5 p.env rfl (f p.env v p.jF);refine⟨o.jF,?_,λq A B l a=>?_⟩
 .show c.jy.map (λk=>k.name.data.toList)=(Jq b.text (f p.env v p.jF) p.env).map (λn=>n.1.data.toList);rw[d,o.jy];refine List.ext_getElem? λq=>?_;rw[fV,fV];by_cases l:q=j
  .subst l;have g:=(List.getElem?_eq_some_iff.1 i2).1;rw[dY g,i2];simp[aU,i2]
  .rw[dQ (λe=>l e.symm)]
 .have a:=a;rw[d]at a;by_cases m:q=j
  .subst m;have g:=(List.getElem?_eq_some_iff.1 i2).1;rw[dY g]at a;rw[i1]at l;cases l;cases a;exact⟨C,w⟩
  .rw[dQ (λe=>m e.symm)]at a;exact o.vals q A B l a
theorem att{t:Int}{e:Ex}(h:QX t e)(b:Wd):QS (t+3) (sV b e):=by
 obtain⟨z,f,a,c⟩:=h;obtain⟨d,q⟩:=atu ⟨z,a,c⟩ b;exact⟨d,_,q⟩
theorem apj{a:Int}{b:Wd}{e:Ex}{z:Sz}{f:Val}(h:MX e z f){ck:Ck}(j:((sF a b e).does.look ck).en=0):kX e ck/\(sF a b e).does.look ck=ck.add b.text (e.does.jZ ck.jy) true/\ck.en=0:=by
 have i:(sF a b e).does.look ck=(e.does.look (ck.nD b.text b.at')).add b.text (e.does.jZ (ck.nD b.text b.at').jy) true:=rfl;rw[i]at j;have d:=j;have g:=h.look _ d;have l:(ck.nD b.text b.at').en=0:=by
  have c:=d;rw[g]at c;exact c
 obtain⟨_,k,m⟩:=Xj l;rw[k]at d g;rw[i,k,g];exact⟨d,rfl,m⟩
theorem aeK{g:Co->Int->Co×Int}{z:Sz}{f:Val}{a:Int}{b:Wd}{e:Ex}(h:Mx (kX e) g z f)(hz:0<=z.wide)(hl:∀o,((sF a b e).does.look o).en=0->kX e o/\(sF a b e).does.look o=o.add b.text (e.does.jZ o.jy) true/\o.en=0):
 Ms (sF a b e).does.look (λc=>((if (g c (-1)).2=c.free then (g c (-1)).1 else (g c (-1)).1.lay 7 [c.free,(g c (-1)).2]).kC (wrap64 (c.free+1))).know b.text c.free) ⟨max z.wide 1,z.deep,z.jC+1,z.jL+5⟩ (λv p=>.inr {p with env:=p.env++[(b.text,f p.env v p.jF)]}):=by
 intro o c E U hk Y;obtain⟨l1,l2,l3⟩:=hl o hk;have h8:=E.free;have Y:c.free+max z.wide 1<=2008:=Y;obtain⟨A,r,f',e1,x,wk⟩:=h.lay o c (-1) E l1 (by omega) (jf rfl);have x0:=x.r0;have x1:=x.r1;have x2:=x.f2;have x3:=x.r3;have xn:=x.jC;have xd:=x.deep;have xl:=x.jL;have T:wrap64 (c.free+1)=c.free+1:=Py _ (by unfold jK;omega);have V:∀i,Ctx ⟨i,c.jy++[(b.text,c.free)],c.free+1⟩:=λi=>by
  refine⟨?_,λj n q=>?_⟩
  .show c.free+1=8+((c.jy++[(b.text,c.free)]).length:Int);have:=U.free;simp;omega
  .have q:=q;rcases dG j c.jy.length with I|P
   .rw[aT I]at q;exact U.jD j n q
   .rw[bW P]at q;rcases gJ (j-c.jy.length)with W|W
    .rw[W]at q;simp only[dw,bJ]at q;subst q;have:=U.free;omega
    .rw[bV (by simp;omega)]at q;cases q
 have t:∀i,Fit (o.add b.text (e.does.jZ o.jy) true) ⟨i,c.jy++[(b.text,c.free)],c.free+1⟩:=λi=>Fit.know (c:=⟨i,c.jy,c.free+1⟩) (E.more (by omega)) (by omega) (by show c.free<c.free+1;omega);have w:∀i (m y:Mc)(p:nP)(v:Vw)(d:Nat),vN c m p->oU c.free (-1) d m y->y.get c.free=f (lM c m.get) v m.get->vN ⟨i,c.jy++[(b.text,c.free)],c.free+1⟩ y {p with env:=p.env++[(b.text,f p.env v p.jF)]}:=λi m y p v d u Q J=>by
  refine⟨?_,λj Z j1=>by rw[Q.jD j Z (by omega) (by omega)];exact u.jF j Z j1,by rw[Q.jP];exact u.jP⟩;unfold lM;rw[dF];have:=CP E Q;unfold lM at this;rw[this];have X:=u.env;unfold lM at X;rw[X];show p.env++[(b.text,y.get c.free)]=_;rw[J,u.val h.pO]
 simp only;rw[e1];simp only;rw[T,l2];by_cases u:r=c.free
 .rw[jh u];refine⟨A,[(b.text,c.free)],rfl,by simp,V _,t _,⟨x.ok,by show A.jC<=z.jC+1;omega,xd,by show _<=z.jL+5;omega,x.low.wide (by show c.free+z.wide<=c.free+max z.wide 1;omega)⟩,?_⟩;intro v S jF k F m p J K L C l G R;obtain⟨y,M,N,B⟩:=wk v S jF k F m J K L C l (G.ty E R);exact⟨y,M,w _ m y p v _ G B (by rw[<-u];exact N),B.len,B.vk,B.left⟩
 .rw[jg u];have H:rE ⟨7,[c.free,r]⟩:=ab8 ⟨by omega,by omega⟩ ⟨x0,by omega⟩;have ho:rW 7:=by unfold rW;omega
  refine⟨A.seq (Fr.ins ⟨7,[c.free,r]⟩),[(b.text,c.free)],?_,by simp,V _,t _,⟨Fr.uy x.ok (Fr.xP H (jf (by show(6:Int)<=7;omega)) false),by show A.jC+1<=z.jC+1;omega,by show max A.deep 0<=z.deep;omega,?_,?_⟩,?_⟩
  .simp only[Co.lay,Co.kC,Co.know,Fr.seq,Fr.ins,nN,ny,mD,enc,aX,bY,eG]
   rfl
  .have:=JZ 7 c.free r ⟨by omega,by omega⟩ ⟨x0,by omega⟩;show((jX (A.is++[⟨7,[c.free,r]⟩])).length:Int)<=z.jL+5;rw[nN,aA];omega
  .refine(x.low.wide (by show c.free+z.wide<=c.free+max z.wide 1;omega)).append (lF.one ⟨λ_=>?_,λ_=>?_,trivial⟩)
   .show c.free+1<=c.free+max z.wide 1;omega
   .show r+1<=c.free+max z.wide 1;omega
  .intro v S jF k F m p J K L C l G R;have L:F.length+max A.deep 0<=8:=L;obtain⟨D,M,N,B⟩:=wk v S jF k F m J K.left (by omega) C l.left (G.ty E R);have O:=yM (v:=v) (jF:=jF) (m:=D) (K.right (x.ok.size k F)).head (by show(6:Int)<=7;omega) (by show(7:Int)≠36;omega);rw[ho.work]at O;have e7:outcome v 7 (D.get r) 0=D.get r:=by simp[outcome]
   rw[e7]at O;have I:=(l.right ⟨7,[c.free,r]⟩ (by simp[Fr.ins])).1 rfl;have s:oU c.free (-1) F.length m (D.put c.free (D.get r)):=B.trans (yG (je (aV _)) (by omega));exact⟨D.put c.free (D.get r),M.trans O,w _ m _ p v _ G s (by rw[vW _ _ _ (by omega) (by rw[B.len];omega)];exact N),s.len,s.vk,s.left⟩
theorem aeL{t:Int}{e:Ex}{f:Val}(h:QF t e f)(a:Int)(b:Wd):QE (t+3) (sF a b e) (λv p=>.inr {p with env:=p.env++[(b.text,f p.env v p.jF)]}):=by
 obtain⟨z,i,j⟩:=h;have g:=λc (d:((sF a b e).does.look c).en=0)=>apj i d;refine⟨_,⟨λc d=>⟨(g c d).2.2,_,(g c d).2.1⟩,aeK i.give j.wide.1 g,λ_=>aeK i.fold j.wide.1 g,λc v p n d k m l=>?_,(λh=>by cases h),(λh=>by cases h)⟩,Yr j rfl⟩;cases l;obtain⟨l1,l2,l3⟩:=g c d;rw[l2];obtain⟨y1,y2⟩:=i.ty c p.env v p.jF l1 k m;exact qG.know k y1 y2
theorem apm{t:Int}{e:Ex}(h:QX t e)(a:Int)(b:Wd):QS (t+3) (sF a b e):=by
 obtain⟨z,f,c,d⟩:=h;obtain⟨g,q⟩:=aeL ⟨z,c,d⟩ a b;exact⟨g,_,q⟩
def Hr(f f':Val):lV:=λv p=>match v.mG (f p.env v p.jF),v.nJ (f' p.env v p.jF)with
 |some r,some q=>if p.jP.length=256 then .inl none else .inr {p with jP:=p.jP++[(r.id,q.seq)]}
 |_,_=>.inr p
theorem arv{a b:Int}(c:0<=a/\a<2008)(d:0<=b/\b<2008):rE ⟨36,[a,b]⟩:=
 ⟨⟨by show(0:Int)<=36;omega,by show(36:Int)<=36;omega⟩,a,[b],rfl,rC c.1 c.2,b,[],rfl,rC d.1 d.2,rfl⟩
theorem agl{P:Ck->Prop}{g K:Co->Int->Co×Int}{z z':Sz}{f f':Val}(h:Mx P g z f)(L:Mx P K z' f')(hz:0<=z.wide/\0<=z'.wide)(Q:Ck->Ck)(hl:∀s,(Q s).en=0->P s/\Q s=s):
 Ms Q (λc=>((K (g c (-1)).1 (-1)).1.lay 36 [(g c (-1)).2,(K (g c (-1)).1 (-1)).2]).kC c.free) ⟨max (max z.wide (1+z'.wide)) 1,max z.deep z'.deep,z.jC+z'.jC+1,z.jL+z'.jL+5⟩ (Hr f f'):=by
 intro s c y hx hk V;obtain⟨T,l2⟩:=hl s hk;have h8:=y.free;have V:c.free+max (max z.wide (1+z'.wide)) 1<=2008:=V;obtain⟨i,r,p,e,x,w⟩:=h.lay s c (-1) y T (by omega) (jf rfl);have x1:=x.r1;have R:=x.r0;have xf:=x.f2;have X:=x.f1;have x3:=x.r3;obtain⟨b,q,p',Z,t,w'⟩:=L.lay s ⟨c.code++jX i.is,c.jy,p⟩ (-1) (y.more X) T (by show p+z'.wide<=2008;omega) (jf rfl);have y1:=t.r1;have Y:=t.r0;have y3:q<p\/q<p+z'.wide:=t.r3;have D:=arv ⟨R,by omega⟩ ⟨Y,by omega⟩;have xn:=x.jC;have ac:=t.jC;have xd:=x.deep;have aa:=t.deep;have xl:=x.jL;have ab:=t.jL;simp only;rw[e];simp only;rw[Z,l2];have N:((⟨c.code++jX i.is++jX b.is,c.jy,p'⟩:Co).lay 36 [r,q]).kC c.free=⟨c.code++jX (i.seq (b.seq (Fr.ins ⟨36,[r,q]⟩))).is,c.jy,c.free⟩:=by
  simp only[Co.lay,Co.kC,Fr.seq,Fr.ins,nN,ny,mD,enc,aX,bY]
 simp only;rw[N,zB];refine⟨i.seq (b.seq (Fr.ins ⟨36,[r,q]⟩)),[],rfl,by simp,GH hx rfl,GR y rfl,⟨Fr.uy x.ok (Fr.uy t.ok (Fr.xP D (jf (by show(6:Int)<=36;omega)) false)),by show i.jC+(b.jC+1)<=z.jC+z'.jC+1;omega,by show max i.deep (max b.deep 0)<=max z.deep z'.deep;omega,?_,?_⟩,?_⟩
 .have:=JZ 36 r q ⟨R,by omega⟩ ⟨Y,by omega⟩;show((jX (i.is++(b.is++[⟨36,[r,q]⟩]))).length:Int)<=z.jL+z'.jL+5;rw[nN,nN,aA,aA];omega
 .refine(x.low.wide ?_).append ((t.low.wide ?_).append (lF.one ⟨λ_=>?_,λ_=>?_,trivial⟩))
  .show c.free+z.wide<=c.free+max (max z.wide (1+z'.wide)) 1;omega
  .show p+z'.wide<=c.free+max (max z.wide (1+z'.wide)) 1;omega
  .show r+1<=c.free+max (max z.wide (1+z'.wide)) 1;omega
  .show q+1<=c.free+max (max z.wide (1+z'.wide)) 1;omega
 .intro v S jF k lp m pp hv hS U hll hlow hr ht;have U:lp.length+max i.deep (max b.deep 0)<=8:=U;have H:=hr.ty y ht;obtain⟨I,g1,g2,B⟩:=w v S jF k lp m hv hS.left (by omega) hll hlow.left H;have C:=hS.right (x.ok.size k lp);have t1:Ty s ⟨c.code++jX i.is,c.jy,p⟩ I.get:=(Ie H B y).jy rfl;obtain⟨n,q1,q2,J⟩:=w' v S jF (k+i.size) lp I hv C.left (by omega) (by rw[B.vk];exact hll) (by rw[B.len];exact hlow.right.left) t1;have J:=J;have M:=C.right (t.ok.size (k+i.size) lp);have o:oU c.free (-1) lp.length m n:=B.trans (J.less X (jf rfl) (aj _));have v1:n.get r=f pp.env v pp.jF:=by rw[J.jD r R x1 (by omega),g2,hr.val h.pO]
  have v2:n.get q=f' pp.env v pp.jF:=by
   rw[q2];show f' (lM c I.get) v I.get=_;rw[ab7 L.pO y B,hr.val L.pO]
  have A:n.jP=pp.jP:=by rw[o.jP];exact hr.jP
  have l:∀jP,vN ⟨c.code++jX (i.seq (b.seq (Fr.ins ⟨36,[r,q]⟩))).is,c.jy,c.free⟩ {n with jP:=jP} {pp with jP:=jP}:=λjP=>
   ⟨by show lM c n.get=pp.env;rw[CP y o];exact hr.env,λj W j1=>by show n.get j=pp.jF j;rw[o.jD j W (by omega) (by omega)];exact hr.jF j W j1,rfl⟩
  have a:Hx.step v S jF (k+i.size+b.size) (stepOf ⟨36,[r,q]⟩) n=match push v (n.get r) (n.get q) n with
   |none=>.inl ⟨1,jF,[]⟩
   |some m'=>.inr (((k+i.size+b.size:Nat):Int)+1,m'):=by
   unfold Hx.step;rw[jg (by show¬(36:Int)=1;omega),jg (by show¬(36:Int)=2;omega),jg (by show¬(36:Int)=3;omega),jg (by show¬(36:Int)=4;omega),jg (by show¬(36:Int)=5;omega),jg (by show¬(36:Int)=0;omega),jh (by rfl)]
   rfl
  have d:=M.head;have O:k+(i.seq (b.seq (Fr.ins ⟨36,[r,q]⟩))).size=k+i.size+b.size+1:=by
   show k+(i.size+(b.size+1))=_;omega
  rw[O,<-zB];have F:=g1.trans q1;unfold Hr;unfold push at a;rw[v1,v2]at a;refine xG.before ?_ F o.len o.vk o.left;cases G:v.mG (f pp.env v pp.jF)with
  |none=>
   rw[G]at a;simp only at a⊢;exact⟨n,Bg d (by rw[a];rfl),⟨(l pp.jP).env,(l pp.jP).jF,A⟩,rfl,rfl,λ_ _=>rfl⟩
  |some rd=>
   rw[G]at a;cases E:v.nJ (f' pp.env v pp.jF)with
   |none=>
    rw[E]at a;simp only at a⊢;exact⟨n,Bg d (by rw[a];rfl),⟨(l pp.jP).env,(l pp.jP).jF,A⟩,rfl,rfl,λ_ _=>rfl⟩
   |some pk=>
    rw[E]at a;simp only at a⊢;rw[A]at a;by_cases u:pp.jP.length=256
    .rw[jh u]at a⊢;exact Yl d a
    .rw[jg u]at a⊢;exact⟨{n with jP:=pp.jP++[(rd.id,pk.seq)]},Bg d (by rw[a];rfl),l _,rfl,rfl,λ_ _=>rfl⟩
theorem XL{t t':Int}{e f:Ex}{C:Val}(G:QF t e C){D:Val}(H:QF t' f D)(a:Int):QE (t+t'+3) (sQ a e f) (Hr C D):=by
 obtain⟨z,q,g⟩:=G;obtain⟨d,s,j⟩:=H;have n:∀b,((sQ a e f).does.look b).en=0->(kX e b/\kX f b)/\(sQ a e f).does.look b=b:=λb c=>by
  have w:(sQ a e f).does.look b=(f.does.look ((e.does.look b).want (e.does.jZ b.jy) e.at' 3)).want (f.does.jZ ((e.does.look b).want (e.does.jZ b.jy) e.at' 3).jy) f.at' 4:=rfl;rw[w]at c;obtain⟨_,J,o⟩:=AO c;have u:=s.look _ o;have K:((e.does.look b).want (e.does.jZ b.jy) e.at' 3).en=0:=by
   have k:=o;rw[u]at k;exact k
  obtain⟨_,y,A⟩:=AO K;have B:=q.look b A;rw[y,B]at o u;rw[w,J,y,B];exact⟨⟨A,o⟩,u⟩
 have E:=g.wide;have F:=j.wide;refine⟨_,⟨λb c=>KI (n b c).2 c,agl (P:=λb=>kX e b/\kX f b) (q.give.of λb c=>c.1) (s.give.of λb c=>c.2) ⟨E.1,F.1⟩ _ n,λ_=>agl (P:=λb=>kX e b/\kX f b) (q.fold.of λb c=>c.1) (s.fold.of λb c=>c.2) ⟨E.1,F.1⟩ _ n,λb v p V c x Q i=>?_,(λh=>by cases h),(λh=>by cases h)⟩,?_⟩
 .rw[(n b c).2];unfold Hr at i;split at i
  .split at i
   .cases i
   .cases i;exact x
  .cases i;exact x
 .have R:=g.jL;have S:=j.jL;have T:=g.jC;have U:=j.jC;have W:=g.tok;have X:=j.tok;have l:=g.jw;have m:=j.jw;refine⟨by omega,⟨by show 1<=max (max z.wide (1+d.wide)) 1;omega,by show 2 * max (max z.wide (1+d.wide)) 1<=t+t'+3;omega⟩,⟨by show 0<=z.jL+d.jL+5;omega,by show z.jL+d.jL+5<=20 * (t+t'+3);omega⟩,by show 0<=z.jC+d.jC+1;omega,⟨yE (by simp;exact⟨l,m⟩),(rO l m).2⟩,λc=>?_⟩;have c:jS [e.jw,f.jw]<=1000000:=c;have I:=Ap l.1 l.2 m.1 m.2 c;obtain⟨L,M⟩:=g.all (by omega);obtain⟨N,O⟩:=j.all (by omega);show z.jC+d.jC+1<=40 * jS [e.jw,f.jw]/\((8^max z.deep d.deep:Nat):Int)<=jS [e.jw,f.jw]+1;rw[I];refine⟨by omega,?_⟩;rcases gX z.deep d.deep with r|r
  .rw[gG r];omega
  .rw[gV r];omega
theorem arE{t t':Int}{e f:Ex}(d:QX t e)(g:QX t' f)(a:Int):QS (t+t'+3) (sQ a e f):=by
 obtain⟨z,k,b,c⟩:=d;obtain⟨j,l,h,i⟩:=g;obtain⟨y,q⟩:=XL ⟨z,b,c⟩ ⟨j,h,i⟩ a;exact⟨y,_,q⟩
theorem asw(a:Int):QS 2 (yV a):=by
 have j:Ms (yV a).does.look (λc=>c.lay 1 []) ⟨1,0,1,1⟩ (λ_ p=>.inl (some p)):=by
  intro d c q u f y;have b:rE ⟨1,[]⟩:=⟨⟨by decide,by decide⟩,rfl⟩;have e:c.lay 1 []=⟨c.code++jX (Fr.ins ⟨1,[]⟩).is,c.jy,c.free⟩:=by simp only[Co.lay,Fr.ins,ny,mD,enc,aX]
  simp only;rw[e,zB];refine⟨Fr.ins ⟨1,[]⟩,[],rfl,by simp,GH u rfl,GR q rfl,⟨Fr.xP b (je rfl) false,aV _,aj _,by decide,lF.one trivial⟩,?_⟩;intro v S z k A m p t o w r g l s;refine⟨⟨0,m.jD,m.jP⟩,Yl o.head ?_,rfl,λi x=>?_,l.jP⟩
  .unfold Hx.step;rw[jh (by rfl)]
  .have:=l.jF (i:Int) (by omega) (by omega);rw[<-this];unfold Mc.get;rw[bK]
 refine⟨_,_,⟨λd f=>KI rfl f,j,λ_=>j,λd v p B f s t n=>(by cases n),(λh=>by cases h),λ_ d v p _ _ _=>⟨_,rfl⟩⟩,⟨by decide,by decide,by decide,by decide,by show(1:Int)<=1/\(1:Int)<=1000001;decide,λ_=>by show(1:Int)<=40 * 1/\((8^0:Nat):Int)<=1+1;decide⟩⟩
def nU:List lV->lV
 |[],_,p=>.inr p
 |F::Fs,v,p=>match F v p with
  | .inl r=>.inl r
  | .inr p'=>nU Fs v p'
def qF:List jI->List (Sz×lV)->Int->Prop
 |[],zs,t=>zs=[]/\t=0
 |s::l,zs,t=>∃z F zs' ts t',zs=(z,F)::zs'/\MS s z F/\Nh ts s z/\t=ts+t'/\qF l zs' t'
def Gl(l:List jI)(Fs:List lV)(t:Int):Prop:=∃zs,qF l zs t/\zs.map (λq:Sz×lV=>q.2)=Fs
theorem Jc:Gl [] [] 0:=⟨[],⟨rfl,rfl⟩,rfl⟩
theorem Bq{s:jI}{F:lV}{a:Int}{l:List jI}{b:List lV}{t:Int}(h:QE a s F)(i:Gl l b t):Gl (s::l) (F::b) (a+t):=by
 obtain⟨z,d,e⟩:=h;obtain⟨c,f,g⟩:=i;exact⟨(z,F)::c,⟨z,F,c,a,t,rfl,d,e,rfl,f⟩,by rw[dL,g]⟩
theorem aeG:∀{l:List jI}{b:List (Sz×lV)}{t:Int}{s:jI}{z:Sz}{F:lV}{a:Int},qF l b t->MS s z F->Nh a s z->qF (l++[s]) (b++[(z,F)]) (t+a)
 |[],_,_,s,z,F,a,⟨h1,h2⟩,hm,hs=>by
  subst h1 h2;exact⟨z,F,[],a,0,rfl,hm,hs,by omega,rfl,rfl⟩
 |c::l,_,_,s,z,F,a,⟨z',F',zs',ts',t',h1,h2,h3,h4,h5⟩,hm,hs=>by
  subst h1 h4;exact⟨z',F',zs'++[(z,F)],ts',t'+a,rfl,h2,h3,by omega,aeG h5 hm hs⟩
def kE:List (Sz×lV)->Sz
 |[]=>⟨0,0,0,0⟩
 |p::zs=>⟨max p.1.wide (1+(kE zs).wide),max p.1.deep (kE zs).deep,p.1.jC+(kE zs).jC,p.1.jL+(kE zs).jL⟩
structure ajg(l:List jI)(zs:List (Sz×lV))(t:Int):Prop where
 tok:0<=t
 wide:0<=(kE zs).wide/\2 * (kE zs).wide<=t
 jL:0<=(kE zs).jL/\(kE zs).jL<=20 * t
 jC:0<=(kE zs).jC
 jw:0<=lS l
 pos:∀s∈l,1<=s.jw/\s.jw<=1000001
 all:lS l<=1000000->(kE zs).jC<=40 * lS l/\((8^(kE zs).deep:Nat):Int)<=lS l+1
theorem Jd:∀{l:List jI}{a:List (Sz×lV)}{t:Int},qF l a t->ajg l a t
 |[],_,_,⟨h1,h2⟩=>by
  subst h1 h2;exact⟨by omega,by decide,by decide,by decide,by simp[lS],by simp,λ_=>by simp[kE,lS]⟩
 |s::l,_,_,⟨z,F,a,ts,t',h1,h2,h3,h4,h5⟩=>by
  subst h1 h4;have q:=Jd h5;have e:=q.tok;have f:=q.wide;have g:=q.jL;have h:=q.jC;have i:=q.jw;have j:=h3.tok;have k:=h3.wide;have m:=h3.jL;have n:=h3.jC;have d:=h3.jw;have v:lS (s::l)=s.jw+lS l:=by simp[lS]
  refine⟨by omega,⟨by show 0<=max z.wide (1+(kE a).wide);omega,by show 2 * max z.wide (1+(kE a).wide)<=ts+t';omega⟩,⟨by show 0<=z.jL+(kE a).jL;omega,by show z.jL+(kE a).jL<=_;omega⟩,by show 0<=z.jC+(kE a).jC;omega,by omega,λx c=>?_,λw=>?_⟩
  .rcases dh.1 c with rfl|c
   .exact d
   .exact q.pos x c
  .obtain⟨o,p⟩:=q.all (by omega);obtain⟨r,u⟩:=h3.all (by omega);refine⟨by show z.jC+(kE a).jC<=_;omega,?_⟩;show((8^max z.deep (kE a).deep:Nat):Int)<=_;rcases gX z.deep (kE a).deep with b|b
   .rw[gG b];omega
   .rw[gV b];omega
theorem I7{c b:Co}{d:Nat}{v:Vw}{S:List St}{jF:List Int}{k:Nat}{m:Mc}{lC a:Nat}{r:Option nP}(h:xG c d v S jF k m lC (.inl r)):xG b d v S jF k m a (.inl r):=by
 cases r with
 |none=>exact h
 |some p=>exact h
theorem aa3{ck d:Ck}{c c1 s:Co}{fr a:Fr}{F G:lV}(h:BK ck c c1 fr F)(D:BK d c1 s a G)(l:fr.Ok false)(o:∀v p i,oh ck p->nM v->F v p=.inr i->oh d i):BK ck c s (fr.seq a) (λv p=>match F v p with| .inl r=>.inl r| .inr i=>G v i):=by
 intro v S z k g m p q w x e b E y;have x:g.length+max fr.deep a.deep<=8:=x;have f:=h v S z k g m p q w.left (by omega) e b.left E y;have n:k+(fr.seq a).size=k+fr.size+a.size:=by
  show k+(fr.size+a.size)=_;omega
 rw[n];simp only;cases j:F v p with
 |inl r=>
  rw[j]at f;exact I7 f
 |inr p1=>
  rw[j]at f;obtain⟨H,A,B,t,u,C⟩:=f;exact(D v S z (k+fr.size) g H p1 q (w.right (l.size k g)) (by omega) (by rw[u];exact e) (by rw[t];exact b.right) B (o v p p1 y q j)).before A t u C
theorem KH(s:jI)(l:List jI)(ck:Ck):oJ (s::l) ck=oJ l (s.does.look ck):=rfl
theorem G8:∀{l:List jI}{c:List (Sz×lV)}{t:Int},qF l c t->∀a,(oJ l a).en=0->a.en=0/\∃b,oJ l a=⟨a.jy++b,a.en,a.ea⟩
 |[],_,_,_,a,h=>⟨h,[],by show a=_;simp⟩
 |s::l,_,_,⟨z,F,c,ts,t',h1,h2,h3,h4,h5⟩,a,h=>by
  rw[KH]at h⊢;obtain⟨d,i,e⟩:=G8 h5 _ h;obtain⟨f,j,g⟩:=h2.look a d;refine⟨f,j++i,?_⟩;rw[e,g];simp
theorem agR:∀{l:List jI}{d:List (Sz×lV)}{t:Int},qF l d t->∀a v p b,(oJ l a).en=0->oh a p->nM v->nU (d.map (·.2)) v p=.inr b->oh (oJ l a) b
 |[],_,_,⟨h1,_⟩,a,v,p,b,_,ht,_,hF=>by
  subst h1;cases hF;exact ht
 |s::l,_,_,⟨z,F,d,ts,t',h1,h2,h3,h4,h5⟩,a,v,p,b,hk,ht,hv,hF=>by
  subst h1;rw[KH]at hk⊢;have e:=(G8 h5 _ hk).1;simp only[dL,nU]at hF;cases c:F v p with
  |inl r=>rw[c]at hF;cases hF
  |inr p1=>
   rw[c]at hF;exact agR h5 _ v p1 b hk (h2.ty a v p p1 e ht hv c) hv hF
theorem agQ:∀{l:List jI}{b:List (Sz×lV)}{t:Int},qF l b t->∀(f:Ck)(c:Co),Fit f c->Ctx c->(oJ l f).en=0->c.free+(kE b).wide<=2008->
 ∃(g:Fr)(a:List (ji×Int)),qX l c=⟨c.code++jX g.is,c.jy++a,c.free+a.length⟩/\Xt c (kE b) g/\BK f c (qX l c) g (nU (b.map (·.2)))
 |[],_,_,⟨h1,_⟩,f,c,hf,hx,hk,n=>by
  subst h1;refine⟨Fr.nil,[],by show c=_;simp[Fr.nil,mD],⟨Fr.OT false,aV _,aj _,by simp[Fr.nil,mD,kE],lF.nil _⟩,?_⟩;intro v S N k Q m p w L M A q B u;exact⟨m,Reaches.refl _ _ _ _ _,B,rfl,rfl,λ_ _=>rfl⟩
 |s::l,_,_,⟨z,F,b,ts,t',h1,h2,h3,h4,h5⟩,f,c,hf,hx,hk,n=>by
  subst h1;rw[KH]at hk;have r:=(G8 h5 _ hk).1;have n:c.free+max z.wide (1+(kE b).wide)<=2008:=n;obtain⟨g,a,x,U,D,E,i,G⟩:=h2.lay f c hf hx r (by omega);have d:(s.does.lay c).free=c.free+a.length:=by rw[x]
  obtain⟨e,h,H,j,I⟩:=agQ h5 (s.does.look f) (s.does.lay c) E D hk (by rw[d];omega);have o:qX (s::l) c=qX l (s.does.lay c):=rfl;have R:=i.jC;have T:=j.jC;have J:=i.deep;have K:=j.deep;have O:=i.jL;have P:=j.jL;refine⟨g.seq e,a++h,?_,⟨Fr.uy i.ok j.ok,by show g.jC+e.jC<=z.jC+(kE b).jC;omega,by show max g.deep e.deep<=max z.deep (kE b).deep;omega,?_,(i.low.wide ?_).append (j.low.wide ?_)⟩,?_⟩
  .rw[o,H,x];simp only[Fr.seq,nN,bY,aA,iC,iP]
  .show((jX (g.is++e.is)).length:Int)<=z.jL+(kE b).jL;rw[nN,aA];omega
  .show c.free+z.wide<=c.free+max z.wide (1+(kE b).wide);omega
  .rw[d];show c.free+a.length+(kE b).wide<=c.free+max z.wide (1+(kE b).wide);omega
  .rw[o];have:=aa3 G I i.ok (λv p C u w y=>h2.ty f v p C r u w y);exact this
theorem X3:∀{l:List jI}{b:List (Sz×lV)}{t:Int},qF l b t->∀(f:Ck)(c:Co),Fit f c->Ctx c->(oJ l f).en=0->c.free+(kE b).wide<=2008->
 ∃(d:Fr)(a:List (ji×Int)),qX (kS l) c=⟨c.code++jX d.is,c.jy++a,c.free+a.length⟩/\Xt c (kE b) d/\BK f c (qX (kS l) c) d (nU (b.map (·.2)))
 |[],_,_,⟨w,_⟩,f,c,hf,o,hk,M=>by
  subst w;refine⟨Fr.nil,[],by show c=_;simp[Fr.nil,mD],⟨Fr.OT false,aV _,aj _,by simp[Fr.nil,mD,kE],lF.nil _⟩,?_⟩;intro v S H k I m p n E G i e B j;exact⟨m,Reaches.refl _ _ _ _ _,B,rfl,rfl,λ_ _=>rfl⟩
 |s::l,_,_,⟨z,F,b,ts,t',w,h2,h3,h4,h5⟩,f,c,hf,o,hk,M=>by
  subst w;rw[KH]at hk;have C:=(G8 h5 _ hk).1;have M:c.free+max z.wide (1+(kE b).wide)<=2008:=M;have b2:=h3.wide;have b3:=h3.jL;have b4:=h3.jC;have R:=Jd h5;have a2:=R.wide;have a3:=R.jL;have a4:=R.jC;have N:∀{c:Co}{d:Fr},Xt c (kE b) d->Xt c (kE ((z,F)::b)) d:=λo=>o.grow (by show(kE b).wide<=max z.wide (1+(kE b).wide);omega) (by show(kE b).deep<=max z.deep (kE b).deep;omega) (by show(kE b).jC<=z.jC+(kE b).jC;omega) (by show(kE b).jL<=z.jL+(kE b).jL;omega);have O:∀{c:Co}{d:Fr},Xt c z d->Xt c (kE ((z,F)::b)) d:=λo=>o.grow (by show z.wide<=max z.wide (1+(kE b).wide);omega) (by show z.deep<=max z.deep (kE b).deep;omega) (by show z.jC<=z.jC+(kE b).jC;omega) (by show z.jL<=z.jL+(kE b).jL;omega);cases x:s.does.fs.idle with
  |true=>
   obtain⟨W,X⟩:=h2.idle x f C;rw[W]at hk;obtain⟨d,a,y,P,J⟩:=X3 h5 f c hf o hk (by omega);have A:kS (s::l)=kS l:=by
    show(if s.does.fs.idle then kS l else if s.does.fs.ends then [s.uJ]else s.uJ::kS l)=_;rw[x]
    rfl
   rw[A];refine⟨d,a,y,N P,?_⟩;intro v S H k I m p n E G i e B j;have:=J v S H k I m p n E G i e B j;simp only[dL,nU];rw[X v p j n];exact this
  |false=>
   cases K:s.does.fs.ends with
   |true=>
    have A:kS (s::l)=[s.uJ]:=by
     show(if s.does.fs.idle then kS l else if s.does.fs.ends then [s.uJ]else s.uJ::kS l)=_;rw[x,K]
     rfl
    rw[A];obtain⟨d,a,y,P,J,U,q,Q⟩:=h2.fold x f c hf o C (by omega);refine⟨d,a,y,O q,?_⟩;intro v S H k I m p n E G i e B j;have w:=Q v S H k I m p n E G i e B j;obtain⟨r,L⟩:=h2.ends K f v p C j n;simp only[dL,nU];rw[L]at w⊢;exact I7 w
   |false=>
    have A:kS (s::l)=s.uJ::kS l:=by
     show(if s.does.fs.idle then kS l else if s.does.fs.ends then [s.uJ]else s.uJ::kS l)=_;rw[x,K]
     rfl
    rw[A];obtain⟨d,a,y,P,J,U,q,Q⟩:=h2.fold x f c hf o C (by omega);have g:(s.does.fs.lay c).free=c.free+a.length:=by rw[y]
    obtain⟨h,u,Z,D,r3⟩:=X3 h5 (s.does.look f) (s.does.fs.lay c) U J hk (by rw[g];omega);have T:qX (s.uJ::kS l) c=qX (kS l) (s.does.fs.lay c):=rfl;have n1:=q.jC;have n2:=D.jC;have d1:=q.deep;have d2:=D.deep;have l1:=q.jL;have l2:=D.jL;refine⟨d.seq h,a++u,?_,⟨Fr.uy q.ok D.ok,by show d.jC+h.jC<=z.jC+(kE b).jC;omega,by show max d.deep h.deep<=max z.deep (kE b).deep;omega,?_,(q.low.wide ?_).append (D.low.wide ?_)⟩,?_⟩
    .rw[T,Z,y];simp only[Fr.seq,nN,bY,aA,iC,iP]
    .show((jX (d.is++h.is)).length:Int)<=z.jL+(kE b).jL;rw[nN,aA];omega
    .show c.free+z.wide<=c.free+max z.wide (1+(kE b).wide);omega
    .rw[g];show c.free+a.length+(kE b).wide<=c.free+max z.wide (1+(kE b).wide);omega
    .rw[T];have:=aa3 Q r3 q.ok (λv p Y j n V=>h2.ty f v p Y C j n V);exact this
theorem agP:∀{l:List jI}{d:List (Sz×lV)}{t:Int},qF l d t->kS l=[]->∀b v p,(oJ l b).en=0->oh b p->nM v->nU (d.map (·.2)) v p=.inr p
 |[],_,_,⟨h1,_⟩,_,b,v,p,_,_,_=>by
  subst h1
  rfl
 |s::l,_,_,⟨z,F,d,ts,t',h1,h2,h3,h4,h5⟩,a,b,v,p,hk,ht,hv=>by
  subst h1;rw[KH]at hk;have e:=(G8 h5 _ hk).1;have a:(if s.does.fs.idle then kS l else if s.does.fs.ends then [s.uJ]else s.uJ::kS l)=[]:=a;cases c:s.does.fs.idle with
  |true=>
   rw[c]at a;obtain⟨f,g⟩:=h2.idle c b e;simp only[dL,nU];rw[g v p ht hv];rw[f]at hk;exact agP h5 a b v p hk ht hv
  |false=>
   rw[c]at a;simp only[aH,cZ]at a;split at a<;>cases a
theorem X0:∀{l:List jI}{i:List (Sz×lV)}{t:Int},qF l i t->uM (kS l)=true->∀d v p,(oJ l d).en=0->oh d p->nM v->∃r,nU (i.map (·.2)) v p=.inl r
 |[],_,_,_,c,d,v,p,_,_,_=>by cases c
 |s::l,_,_,⟨z,F,i,ts,t',h1,h2,h3,h4,h5⟩,c,d,v,p,hk,ht,hv=>by
  subst h1;rw[KH]at hk;have h:=(G8 h5 _ hk).1;have c:uM (if s.does.fs.idle then kS l else if s.does.fs.ends then [s.uJ]else s.uJ::kS l)=true:=c;simp only[dL,nU];cases f:s.does.fs.idle with
  |true=>
   rw[f]at c;obtain⟨m,n⟩:=h2.idle f d h;rw[n v p ht hv];rw[m]at hk;exact X0 h5 c d v p hk ht hv
  |false=>
   rw[f]at c;simp only[aH,cZ]at c;cases j:F v p with
   |inl r=>exact⟨r,rfl⟩
   |inr p1=>
    cases g:s.does.fs.ends with
    |true=>
     obtain⟨r,k⟩:=h2.ends g d v p h ht hv;rw[j]at k;cases k
    |false=>
     rw[g]at c;simp only[aH,cZ]at c;refine X0 h5 ?_ _ v p1 hk (h2.ty d v p p1 h ht hv j) hv;cases e:kS l with
     |nil=>
      rw[e]at c;have:uM [s.uJ]=s.does.fs.ends:=rfl;rw[this,g]at c;cases c
     |cons a b=>
      rw[e]at c;unfold uM at c⊢;rw[List.getLast?_cons_cons]at c;exact c
end
end Go.Proofs.YthllhabjfchgiaaGreatDoor
