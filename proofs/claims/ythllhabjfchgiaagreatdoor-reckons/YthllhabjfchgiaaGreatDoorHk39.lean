import Derived.Test.YthllhabjfchgiaaGreatDoorHk38
set_option maxRecDepth 100000
set_option maxHeartbeats 8000000
set_option linter.unusedSimpArgs false
namespace Go.Proofs.YthllhabjfchgiaaGreatDoor
section
open Go.RowKit Hx
structure oH where
 env:List (ji×Int)
 jF:Int->Int
 jO:List (Int×Int)
abbrev lQ:=Vw->oH->Option oH⊕oH
structure vI(c:Co)(m:Mc)(p:oH):Prop where
 env:lS c m.get=p.env
 jF:∀i,0<=i->i<8->m.get i=p.jF i
 jO:m.jO=p.jO
structure Ctx(c:Co):Prop where
 free:c.free=8+c.jy.length
 jD:∀(j:Nat)(n:ji×Int),c.jy[j]? =some n->n.2=8+j
def nV(ck:Ck)(p:oH):Prop:=qC ck p.env p.jF
theorem vI.ty{ck:Ck}{c:Co}{m:Mc}{p:oH}(h:vI c m p)(hf:Fit ck c)(ht:nV ck p):Ty ck c m.get:=by
 have hl:=hf.lens;have hv:∀(j:Nat)(n:ji×Int),c.jy[j]? =some n->p.env[j]? =some (n.1,m.get n.2):=λj n hn=>by
  rw[<-h.env,lS,fV,hn]
  rfl
 refine⟨λi h0 h1=>by rw[h.jF i h0 h1];exact ht.jF i h0 h1,λn hn=>?_,λj k n hk hn hd=>(ht.vals j k _ hk (hv j n hn)).2 hd⟩;obtain⟨j,hj⟩:=List.mem_iff_getElem?.1 hn;have hlt:j<ck.jy.length:=by
  have:=(List.getElem?_eq_some_iff.1 hj).1;omega
 exact(ht.vals j _ _ (bU hlt) (hv j n hj)).1
theorem vI.val{c:Co}{m:Mc}{p:oH}(h:vI c m p){f:Val}(hc:uy f)(v:Vw):f (lS c m.get) v m.get=f p.env v p.jF:=by
 rw[h.env];exact hc _ _ _ _ h.jF
def wY(c':Co)(d:Nat)(v:Vw)(S:List St)(jF:List Int)(k:Nat)(m:Mc)(lD:Nat):Option oH⊕oH->Prop
 | .inr p=>∃m',Reaches v S jF k m lD m'/\vI c' m' p/\m'.jD.length=m.jD.length/\m'.left.length=m.left.length/\∀j:Nat,j<d->m'.ni j=m.ni j
 | .inl none=>C9 v S jF k m ⟨1,jF,[]⟩
 | .inl (some p)=>∃o,C9 v S jF k m o/\o.status=0/\(∀i:Nat,i<8->o.jF.getD i 0=p.jF i)/\o.jO=p.jO
theorem wY.before{c':Co}{d:Nat}{v:Vw}{S:List St}{jF:List Int}{k k1:Nat}{m m1:Mc}{lD:Nat}{r:Option oH⊕oH}(h:wY c' d v S jF k1 m1 lD r)(hg:Reaches v S jF k m k1 m1)(hl:m1.jD.length=m.jD.length)(hll:m1.left.length=m.left.length)(hlf:∀j:Nat,j<d->m1.ni j=m.ni j):wY c' d v S jF k m lD r:=by
 cases r with
 |inr p=>
  obtain⟨m',a1,a2,a3,a4,a5⟩:=h;exact⟨m',hg.trans a1,a2,a3.trans hl,a4.trans hll,λj hj=>(a5 j hj).trans (hlf j hj)⟩
 |inl q=>
  cases q with
  |none=>exact hg.stops h
  |some p=>
   obtain⟨o,a1,a2⟩:=h;exact⟨o,hg.stops a1,a2⟩
structure Xt(c:Co)(z:Sz)(fr:Fr):Prop where
 ok:fr.Ok false
 jC:fr.jC<=z.jC
 deep:fr.deep<=z.deep
 jL:((jU fr.is).length:Int)<=z.jL
 low:lG fr.is (c.free+z.wide)
def Bg(ck:Ck)(c c':Co)(fr:Fr)(F:lQ):Prop:=
 ∀(v:Vw)(S:List St)(jF:List Int)(k:Nat)(lp:List Int)(m:Mc)(p:oH),nM v->uz S k (fr.jB k lp)->lp.length+fr.deep<=8->m.left.length=8->lG fr.is m.jD.length->vI c m p->nV ck p->wY c' lp.length v S jF k m (k+fr.size) (F v p)
def Ms(lk:Ck->Ck)(g:Co->Co)(z:Sz)(F:lQ):Prop:=
 ∀(ck:Ck)(c:Co),Fit ck c->Ctx c->(lk ck).en=0->c.free+z.wide<=2008->
  ∃(fr:Fr)(more:List (ji×Int)),g c=⟨c.code++jU fr.is,c.jy++more,c.free+more.length⟩/\more.length<=1/\Ctx (g c)/\Fit (lk ck) (g c)/\Xt c z fr/\Bg ck c (g c) fr F
structure MS(s:jG)(z:Sz)(F:lQ):Prop where
 look:∀ck,(s.does.look ck).en=0->ck.en=0/\∃more,s.does.look ck=⟨ck.jy++more,ck.en,ck.ea⟩
 lay:Ms s.does.look s.does.lay z F
 fold:s.does.fs.idle=false->Ms s.does.look s.does.fs.lay z F
 ty:∀ck v p p',(s.does.look ck).en=0->nV ck p->nM v->F v p=.inr p'->nV (s.does.look ck) p'
 idle:s.does.fs.idle=true->∀ck,(s.does.look ck).en=0->s.does.look ck=ck/\∀v p,nV ck p->nM v->F v p=.inr p
 ends:s.does.fs.ends=true->∀ck v p,(s.does.look ck).en=0->nV ck p->nM v->∃r,F v p=.inl r
theorem JB{s:jG}{ck:Ck}(h:s.does.look ck=ck)(hk:(s.does.look ck).en=0):ck.en=0/\∃more,s.does.look ck=⟨ck.jy++more,ck.en,ck.ea⟩:=by
 rw[h]at hk;exact⟨hk,[],by rw[h];simp⟩
structure KY(t:Int)(s:jG)(z:Sz):Prop where
 tok:2<=t
 wide:1<=z.wide/\2 * z.wide<=t
 jL:0<=z.jL/\z.jL<=20 * t
 jC:0<=z.jC
 jw:1<=s.jw/\s.jw<=1000001
 all:s.jw<=1000000->z.jC<=40 * s.jw/\((8^z.deep:Nat):Int)<=s.jw+1
def QS(t:Int)(s:jG):Prop:=∃z F,MS s z F/\KY t s z
def QE(t:Int)(s:jG)(F:lQ):Prop:=∃z,MS s z F/\KY t s z
theorem Fz{c:Co}(h:Ctx c){code:List Int}{more:List (ji×Int)}(hm:more=[]):Ctx ⟨code,c.jy++more,c.free+more.length⟩:=by
 subst hm;exact⟨by show c.free+((0:Nat):Int)=8+((c.jy++[]).length:Int);rw[aX];have:=h.free;omega,by show∀j n,(c.jy++[])[j]? =some n->_;rw[aX];exact h.jD⟩
theorem FK{ck:Ck}{c:Co}(h:Fit ck c){code:List Int}{more:List (ji×Int)}(hm:more=[]):Fit ck ⟨code,c.jy++more,c.free+more.length⟩:=by
 subst hm;have:(⟨code,c.jy++[],c.free+(([]:List (ji×Int)).length:Nat)⟩:Co)=⟨code,c.jy,c.free⟩:=by simp
 rw[this];exact h.more (aV _)
theorem aaE{a b:Int}(h0:0<=a/\a<2008)(h1:0<=b/\b<2008):rC ⟨7,[a,b]⟩:=
 ⟨⟨by show(0:Int)<=7;omega,by show(7:Int)<=36;omega⟩,a,[b],rfl,rb h0.1 h0.2,b,[],rfl,rb h1.1 h1.2,rfl⟩
theorem agm{P:Ck->Prop}{g:Co->Int->Co×Int}{z:Sz}{f:Val}(h:Mx P g z f){ck:Ck}{c:Co}{slot:Int}(hf:Fit ck c)(hP:P ck)(hz:0<=z.wide)(hw:c.free+z.wide<=2008)(hs:0<=slot/\slot<c.free):
 ∃fr:Fr,c.store slot {give:=g}=⟨c.code++jU fr.is,c.jy,c.free⟩/\Xt c ⟨z.wide,z.deep,z.jC+1,z.jL+5⟩ fr/\
  ∀(v:Vw)(S:List St)(jF:List Int)(k:Nat)(lp:List Int)(m:Mc),nM v->uz S k (fr.jB k lp)->lp.length+fr.deep<=8->m.left.length=8->lG fr.is m.jD.length->Ty ck c m.get->
   ∃m',Reaches v S jF k m (k+fr.size) m'/\m'.get slot=f (lS c m.get) v m.get/\oP c.free slot lp.length m m':=by
 have h8:=hf.free;obtain⟨fr,r,f',e,x,w⟩:=h.lay ck c slot hf hP hw (je hs);have x0:=x.r0;have x1:=x.r1;have x2:=x.f2;have x3:=x.r3;have xn:=x.jC;have xd:=x.deep;have xl:=x.jL;unfold Co.store;simp only;rw[e];simp only;by_cases hr:r=slot
 .rw[jh hr];refine⟨fr,rfl,⟨x.ok,by show fr.jC<=z.jC+1;omega,xd,by show _<=z.jL+5;omega,x.low⟩,λv S jF k lp m hv hS hd hll hl ht=>?_⟩;obtain⟨m',g1,g2,g3⟩:=w v S jF k lp m hv hS hd hll hl ht;exact⟨m',g1,by rw[<-hr];exact g2,g3⟩
 .rw[jg hr];have hins:rC ⟨7,[slot,r]⟩:=aaE ⟨hs.1,by omega⟩ ⟨x0,by omega⟩;have ho:rO 7:=by unfold rO;omega
  refine⟨fr.seq (Fr.ins ⟨7,[slot,r]⟩),?_,⟨Fr.uq x.ok (Fr.xu hins (jf (by show(6:Int)<=7;omega)) false),by show fr.jC+1<=z.jC+1;omega,by show max fr.deep 0<=z.deep;omega,?_,?_⟩,λv S jF k lp m hv hS hd hll hl ht=>?_⟩
  .simp only[Co.lay,Co.jX,Fr.seq,Fr.ins,nN,ny,mF,enc,aX,bY]
  .have:=Je 7 slot r ⟨hs.1,by omega⟩ ⟨x0,by omega⟩;show((jU (fr.is++[⟨7,[slot,r]⟩])).length:Int)<=z.jL+5;rw[nN,aA];omega
  .refine x.low.append (lG.one ⟨λ_=>?_,λ_=>?_,trivial⟩)
   .show slot+1<=c.free+z.wide;omega
   .show r+1<=c.free+z.wide;omega
  .have hd:lp.length+max fr.deep 0<=8:=hd;obtain⟨m1,g1,g2,g3⟩:=w v S jF k lp m hv hS.left (by omega) hll hl.left ht;have hg:=yB (v:=v) (jF:=jF) (m:=m1) (hS.right (x.ok.size k lp)).head (by show(6:Int)<=7;omega) (by show(7:Int)≠36;omega);rw[ho.work]at hg;have e7:outcome v 7 (m1.get r) 0=m1.get r:=by simp[outcome]
   rw[e7]at hg;refine⟨m1.put slot (m1.get r),g1.trans hg,?_,g3.trans (yj (jf rfl) hs.1)⟩;have:=(hl.right ⟨7,[slot,r]⟩ (by simp[Fr.ins])).1 rfl;rw[vN _ _ _ hs.1 (by rw[g3.len];omega),g2]
def sS(σ:Int->Int)(i x:Int):Int->Int:=λj=>if j=i then x else σ j
theorem yV(code:List Int)(c:Co):(⟨code,c.jy,c.free⟩:Co)=⟨code,c.jy++[],c.free+(([]:List (ji×Int)).length:Nat)⟩:=by simp
theorem aaV(code:List Int)(c:Co)(f:Int)(σ:Int->Int):lS ⟨code,c.jy,f⟩ σ=lS c σ:=rfl
theorem acY{c:Co}{code:List Int}{m m':Mc}{into:Int}{d:Nat}{v:Vw}{S:List St}{jF:List Int}{k lD:Nat}{p:oH}(hg:Reaches v S jF k m lD m')(hs:oP c.free into d m m')(hr:vI ⟨code,c.jy,c.free⟩ m' p):wY ⟨code,c.jy++[],c.free+(([]:List (ji×Int)).length:Nat)⟩ d v S jF k m lD (.inr p):=by
 rw[<-yV];exact⟨m',hg,hr,hs.len,hs.uV,hs.left⟩
theorem WX{t:Int}{e:Ex}{s:jG}{z:Sz}(h:BG t e z)(hc:s.jw=jR [e.jw]):KY (t+3) s ⟨max z.wide 1,z.deep,z.jC+1,z.jL+5⟩:=by
 have h1:=h.wide;have h2:=h.jL;have h3:=h.tok;have h4:=h.jC;have h5:=h.jw;refine⟨by omega,⟨by show 1<=max z.wide 1;omega,by show 2 * max z.wide 1<=t+3;omega⟩,⟨by show 0<=z.jL+5;omega,by show z.jL+5<=20 * (t+3);omega⟩,by show 0<=z.jC+1;omega,by rw[hc];exact⟨yh (by simpa using h5),(qj h5).2⟩,λhk=>?_⟩;rw[hc]at hk;have hp:=yG h5.1 h5.2 hk;obtain⟨a1,a2⟩:=h.all (by omega);rw[hc,hp];exact⟨by show z.jC+1<=_;omega,by show((8^z.deep:Nat):Int)<=_;omega⟩
theorem Xt.grow{c:Co}{z z':Sz}{fr:Fr}(h:Xt c z fr)(h1:z.wide<=z'.wide)(h2:z.deep<=z'.deep)(h3:z.jC<=z'.jC)(h4:z.jL<=z'.jL):Xt c z' fr:=
 ⟨h.ok,by have:=h.jC;omega,by have:=h.deep;omega,by have:=h.jL;omega,h.low.wide (by omega)⟩
theorem ags{P:Ck->Prop}{g:Co->Int->Co×Int}{z:Sz}{f:Val}(h:Mx P g z f)(hz:0<=z.wide)(lk:Ck->Ck)(hl:∀ck,(lk ck).en=0->P ck/\lk ck=ck){i:Int}(hi:0<=i/\i<8):Ms lk (λc=>c.store i {give:=g}) ⟨max z.wide 1,z.deep,z.jC+1,z.jL+5⟩ (λv p=>.inr {p with jF:=sS p.jF i (f p.env v p.jF)}):=by
 intro ck c hf hx hk hw;obtain⟨l1,l2⟩:=hl ck hk;have h8:=hf.free;have hw:c.free+max z.wide 1<=2008:=hw;obtain⟨fr,q1,q2,q3⟩:=agm h hf l1 hz (by omega) (slot:=i) ⟨hi.1,by omega⟩;simp only;rw[q1,l2,yV];refine⟨fr,[],rfl,by simp,Fz hx rfl,FK hf rfl,q2.grow (by show z.wide<=max z.wide 1;omega) (aj _) (aV _) (aV _),?_⟩;intro v S jF k lp m p hv hS hd hll hlow hr ht;obtain⟨m',g1,g2,g3⟩:=q3 v S jF k lp m hv hS hd hll hlow (hr.ty hf ht);refine acY g1 g3 ⟨?_,λj j0 j1=>?_,?_⟩
 .rw[aaV,<-hr.env];refine List.map_congr_left λn hn=>?_;obtain⟨j,hj⟩:=List.mem_iff_getElem?.1 hn;have h1:=hx.jD j n hj;have h2:=hf.jD n hn;rw[g3.jD n.2 h2.1 h2.2 (by omega)]
 .show m'.get j=sS p.jF i (f p.env v p.jF) j;unfold sS;by_cases hj:j=i
  .rw[jh hj,hj,g2,hr.val h.pJ]
  .rw[jg hj,g3.jD j j0 (by omega) hj,hr.jF j j0 j1]
 .show m'.jO=p.jO;rw[g3.jO,hr.jO]
theorem wC{t:Int}{e:Ex}{f:Val}(h:QF t e f)(a i:Int)(hi:0<=i/\i<8):QE (t+3) (mY a i e) (λv p=>.inr {p with jF:=sS p.jF i (f p.env v p.jF)}):=by
 obtain⟨z,h1,h2⟩:=h;have hl:∀ck,((mY a i e).does.look ck).en=0->lg e ck/\(mY a i e).does.look ck=ck:=λck hk=>by
  obtain⟨_,q2,q3⟩:=Aa (show((e.does.look ck).want (e.does.jW ck.jy) e.at' 1).en=0 from hk);have e0:(mY a i e).does.look ck=(e.does.look ck).want (e.does.jW ck.jy) e.at' 1:=rfl;exact⟨q3,by rw[e0,q2];exact h1.look ck q3⟩
 refine⟨_,⟨λck hk=>JB (hl ck hk).2 hk,ags h1.give h2.wide.1 _ hl hi,λ_=>ags h1.fold h2.wide.1 _ hl hi,λck v p p' hk ht hv hF=>?_,(λh=>by cases h),(λh=>by cases h)⟩,WX h2 rfl⟩;cases hF;obtain⟨l1,l2⟩:=hl ck hk;rw[l2];refine⟨λj j0 j1=>?_,ht.jy,ht.vals⟩;show jJ (sS p.jF i (f p.env v p.jF) j);unfold sS;split
 .exact(h1.ty ck p.env v p.jF l1 ht hv).1
 .exact ht.jF j j0 j1
theorem ate{t:Int}{e:Ex}(h:QX t e)(a i:Int)(hi:0<=i/\i<8):QS (t+3) (mY a i e):=by
 obtain⟨z,f,h1,h2⟩:=h;obtain⟨z',q⟩:=wC ⟨z,h1,h2⟩ a i hi;exact⟨z',_,q⟩
def Io(t:ji)(x:Int):List (ji×Int)->List (ji×Int)
 |[]=>[]
 |n::e=>if n.1.data.toList==t.data.toList then (n.1,x)::e else n::Io t x e
theorem TM{t:ji}:∀{ks:List Kn}{ns:List (ji×Int)},ks.map (λk=>k.name.data.toList)=ns.map (λn=>n.1.data.toList)->ks.find? (λk=>k.name.data.toList==t.data.toList)≠none->
 ∃(j:Nat)(k:Kn)(n:ji×Int),ks[j]? =some k/\ns[j]? =some n/\ks.find? (λk=>k.name.data.toList==t.data.toList)=some k/\ns.find? (λn=>n.1.data.toList==t.data.toList)=some n/\∀e:List (ji×Int),e.map (λn=>n.1.data.toList)=ns.map (λn=>n.1.data.toList)->∀x,Io t x e=e.set j ((e.getD j (t,0)).1,x)
 |[],[],_,h=>jl rfl h
 |[],_::_,h,_=>by simp at h
 |_::_,[],h,_=>by simp at h
 |k::ks,n::ns,h,hk=>by
  simp only[dL,iy]at h;by_cases he:(k.name.data.toList==t.data.toList)=true
  .refine⟨0,k,n,rfl,rfl,by rw[fF,he],by rw[fF,show(n.1.data.toList==t.data.toList)=true by rw[<-h.1];exact he],λe hn x=>?_⟩;cases e with
   |nil=>simp at hn
   |cons q e=>
    simp only[dL,iy]at hn;have hq:(q.1.data.toList==t.data.toList)=true:=by rw[hn.1,<-h.1];exact he
    simp[Io,hq]
  .have he:(k.name.data.toList==t.data.toList)=false:=by simpa using he
   rw[fF,he]at hk;obtain⟨j,k',n',q1,q2,q3,q4,q5⟩:=TM h.2 hk;refine⟨j+1,k',n',q1,q2,by rw[fF,he];exact q3,by rw[fF,show(n.1.data.toList==t.data.toList)=false by rw[<-h.1];exact he];exact q4,λe hn x=>?_⟩;cases e with
   |nil=>simp at hn
   |cons q e=>
    simp only[dL,iy]at hn;have hq:(q.1.data.toList==t.data.toList)=false:=by rw[hn.1,<-h.1];exact he
    have:=q5 e hn.2 x;simp[Io,hq,this]
theorem asx{b:Wd}{e:Ex}{z:Sz}{f:Val}(h:MX e z f){ck:Ck}(hk:((sO b e).does.look ck).en=0):lg e ck/\(sO b e).does.look ck=ck/\(lJ ck.jy b.text).isVar=true/\e.does.jW ck.jy=(lJ ck.jy b.text).kind:=by
 have e0:(sO b e).does.look ck=(e.does.look (if (lJ ck.jy b.text).isVar then ck else ck.fail 2 b.at')).want (e.does.jW (if (lJ ck.jy b.text).isVar then ck else ck.fail 2 b.at').jy) e.at' (lJ ck.jy b.text).kind:=rfl;rw[e0]at hk;obtain⟨q1,q2,q3⟩:=Aa hk;have q4:=h.look _ q3;have q5:(if (lJ ck.jy b.text).isVar then ck else ck.fail 2 b.at').en=0:=by
  have q3':=q3;rw[q4]at q3';exact q3'
 have q6:(lJ ck.jy b.text).isVar=true:=by
  cases hv:(lJ ck.jy b.text).isVar with
  |true=>rfl
  |false=>
   rw[hv]at q5;simp only[aH,cZ]at q5;exact jl q5 (TG (by decide))
 rw[jh q6]at q1 q3 q4;rw[e0,q2,jh q6];exact⟨q3,q4,q6,q1⟩
theorem agY{ck:Ck}{t:ji}(h:(lJ ck.jy t).isVar=true):ck.jy.find? (λk=>k.name.data.toList==t.data.toList)≠none:=λe=>by
 unfold lJ at h;rw[e]at h;cases h
theorem afX{g:Co->Int->Co×Int}{z:Sz}{f:Val}{b:Wd}{e:Ex}(h:Mx (lg e) g z f)(hz:0<=z.wide)(hl:∀ck,((sO b e).does.look ck).en=0->lg e ck/\(sO b e).does.look ck=ck/\(lJ ck.jy b.text).isVar=true/\e.does.jW ck.jy=(lJ ck.jy b.text).kind):Ms (sO b e).does.look (λc=>c.store (c.wu b.text) {give:=g}) ⟨max z.wide 1,z.deep,z.jC+1,z.jL+5⟩ (λv p=>.inr {p with env:=Io b.text (f p.env v p.jF) p.env}):=by
 intro ck c hf hx hk hw;obtain⟨l1,l2,l3,_⟩:=hl ck hk;have h8:=hf.free;have hw:c.free+max z.wide 1<=2008:=hw;obtain⟨j,kn,n,i1,i2,i3,i4,i5⟩:=TM hf.jy (agY l3);have MJ:c.wu b.text=n.2:=by unfold Co.wu;rw[i4];rfl
 have hn:=hf.jD n (bT i2);have hnj:=hx.jD j n i2;obtain⟨fr,q1,q2,q3⟩:=agm h hf l1 hz (by omega) (slot:=c.wu b.text) (by rw[MJ];exact hn);simp only;rw[q1,l2,yV];refine⟨fr,[],rfl,by simp,Fz hx rfl,FK hf rfl,q2.grow (by show z.wide<=max z.wide 1;omega) (aj _) (aV _) (aV _),?_⟩;intro v S jF k lp m p hv hS hd hll hlow hr ht;obtain⟨m',g1,g2,g3⟩:=q3 v S jF k lp m hv hS hd hll hlow (hr.ty hf ht);rw[MJ]at g2 g3;refine acY g1 g3 ⟨?_,λq j0 j1=>?_,?_⟩
 .rw[aaV];rw[<-hr.val h.pJ,<-g2,<-hr.env,i5 (lS c m.get) (by unfold lS;rw[List.map_map];rfl)];unfold lS;refine List.ext_getElem? λq=>?_;rw[fV];by_cases hq:q=j
  .subst hq;rw[i2];have hlt:=(List.getElem?_eq_some_iff.1 i2).1;rw[dY (by rw[List.length_map];exact hlt)];simp[aU,fV,i2]
  .rw[dQ (λe=>hq e.symm),fV];cases hcq:c.jy[q]?with
   |none=>rfl
   |some n'=>
    have h1:=hf.jD n' (bT hcq);have h2:=hx.jD q n' hcq;simp only[iH,bJ,Prod.mk.injEq,true_and];exact g3.jD n'.2 h1.1 h1.2 (by omega)
 .show m'.get q=p.jF q;rw[g3.jD q j0 (by omega) (by omega),hr.jF q j0 j1]
 .show m'.jO=p.jO;rw[g3.jO,hr.jO]
theorem asA{t:Int}{e:Ex}{f:Val}(h:QF t e f)(b:Wd):QE (t+3) (sO b e) (λv p=>.inr {p with env:=Io b.text (f p.env v p.jF) p.env}):=by
 obtain⟨z,h1,h2⟩:=h;have hl:=λck (hk:((sO b e).does.look ck).en=0)=>asx h1 hk;refine⟨_,⟨λck hk=>JB (hl ck hk).2.1 hk,afX h1.give h2.wide.1 hl,λ_=>afX h1.fold h2.wide.1 hl,λck v p p' hk ht hv hF=>?_,(λh=>by cases h),(λh=>by cases h)⟩,WX h2 rfl⟩;cases hF;obtain⟨l1,l2,l3,l4⟩:=hl ck hk;rw[l2];obtain⟨j,kn,n,i1,i2,i3,i4,i5⟩:=TM ht.jy (agY l3);have hfk:lJ ck.jy b.text=kn:=by unfold lJ;rw[i3];rfl
 obtain⟨y1,y2⟩:=h1.ty ck p.env v p.jF l1 ht hv;rw[l4,hfk]at y2;have hset:=i5 p.env rfl (f p.env v p.jF);refine⟨ht.jF,?_,λq k' n' hq hn'=>?_⟩
 .show ck.jy.map (λk=>k.name.data.toList)=(Io b.text (f p.env v p.jF) p.env).map (λn=>n.1.data.toList);rw[hset,ht.jy];refine List.ext_getElem? λq=>?_;rw[fV,fV];by_cases hq:q=j
  .subst hq;have hlt:=(List.getElem?_eq_some_iff.1 i2).1;rw[dY hlt,i2];simp[aU,i2]
  .rw[dQ (λe=>hq e.symm)]
 .have hn':=hn';rw[hset]at hn';by_cases hqj:q=j
  .subst hqj;have hlt:=(List.getElem?_eq_some_iff.1 i2).1;rw[dY hlt]at hn';rw[i1]at hq;cases hq;cases hn';exact⟨y1,y2⟩
  .rw[dQ (λe=>hqj e.symm)]at hn';exact ht.vals q k' n' hq hn'
theorem asz{t:Int}{e:Ex}(h:QX t e)(b:Wd):QS (t+3) (sO b e):=by
 obtain⟨z,f,h1,h2⟩:=h;obtain⟨z',q⟩:=asA ⟨z,h1,h2⟩ b;exact⟨z',_,q⟩
theorem anX{a:Int}{b:Wd}{e:Ex}{z:Sz}{f:Val}(h:MX e z f){ck:Ck}(hk:((sJ a b e).does.look ck).en=0):lg e ck/\(sJ a b e).does.look ck=ck.add b.text (e.does.jW ck.jy) true/\ck.en=0:=by
 have e0:(sJ a b e).does.look ck=(e.does.look (ck.nG b.text b.at')).add b.text (e.does.jW (ck.nG b.text b.at').jy) true:=rfl;rw[e0]at hk;have q3:=hk;have q4:=h.look _ q3;have q5:(ck.nG b.text b.at').en=0:=by
  have q3':=q3;rw[q4]at q3';exact q3'
 obtain⟨_,q6,q7⟩:=Vp q5;rw[q6]at q3 q4;rw[e0,q6,q4];exact⟨q3,rfl,q7⟩
theorem adt{g:Co->Int->Co×Int}{z:Sz}{f:Val}{a:Int}{b:Wd}{e:Ex}(h:Mx (lg e) g z f)(hz:0<=z.wide)(hl:∀ck,((sJ a b e).does.look ck).en=0->lg e ck/\(sJ a b e).does.look ck=ck.add b.text (e.does.jW ck.jy) true/\ck.en=0):
 Ms (sJ a b e).does.look (λc=>((if (g c (-1)).2=c.free then (g c (-1)).1 else (g c (-1)).1.lay 7 [c.free,(g c (-1)).2]).jX (wrap64 (c.free+1))).know b.text c.free) ⟨max z.wide 1,z.deep,z.jC+1,z.jL+5⟩ (λv p=>.inr {p with env:=p.env++[(b.text,f p.env v p.jF)]}):=by
 intro ck c hf hx hk hw;obtain⟨l1,l2,l3⟩:=hl ck hk;have h8:=hf.free;have hw:c.free+max z.wide 1<=2008:=hw;obtain⟨fr,r,f',e1,x,wk⟩:=h.lay ck c (-1) hf l1 (by omega) (jf rfl);have x0:=x.r0;have x1:=x.r1;have x2:=x.f2;have x3:=x.r3;have xn:=x.jC;have xd:=x.deep;have xl:=x.jL;have hwr:wrap64 (c.free+1)=c.free+1:=NT _ (by unfold jJ;omega);have L6:∀code,Ctx ⟨code,c.jy++[(b.text,c.free)],c.free+1⟩:=λcode=>by
  refine⟨?_,λj n hj=>?_⟩
  .show c.free+1=8+((c.jy++[(b.text,c.free)]).length:Int);have:=hx.free;simp;omega
  .have hj:=hj;rcases dG j c.jy.length with hlt|hge
   .rw[aT hlt]at hj;exact hx.jD j n hj
   .rw[bW hge]at hj;rcases gJ (j-c.jy.length)with h0|h0
    .rw[h0]at hj;simp only[dw,bJ]at hj;subst hj;have:=hx.free;omega
    .rw[bV (by simp;omega)]at hj;cases hj
 have hfit:∀code,Fit (ck.add b.text (e.does.jW ck.jy) true) ⟨code,c.jy++[(b.text,c.free)],c.free+1⟩:=λcode=>Fit.know (c:=⟨code,c.jy,c.free+1⟩) (hf.more (by omega)) (by omega) (by show c.free<c.free+1;omega);have hrep:∀code (m m':Mc)(p:oH)(v:Vw)(d:Nat),vI c m p->oP c.free (-1) d m m'->m'.get c.free=f (lS c m.get) v m.get->vI ⟨code,c.jy++[(b.text,c.free)],c.free+1⟩ m' {p with env:=p.env++[(b.text,f p.env v p.jF)]}:=λcode m m' p v d hr hs hv=>by
  refine⟨?_,λj j0 j1=>by rw[hs.jD j j0 (by omega) (by omega)];exact hr.jF j j0 j1,by rw[hs.jO];exact hr.jO⟩;unfold lS;rw[dF];have:=BP hf hs;unfold lS at this;rw[this];have h2:=hr.env;unfold lS at h2;rw[h2];show p.env++[(b.text,m'.get c.free)]=_;rw[hv,hr.val h.pJ]
 simp only;rw[e1];simp only;rw[hwr,l2];by_cases hr:r=c.free
 .rw[jh hr];refine⟨fr,[(b.text,c.free)],rfl,by simp,L6 _,hfit _,⟨x.ok,by show fr.jC<=z.jC+1;omega,xd,by show _<=z.jL+5;omega,x.low.wide (by show c.free+z.wide<=c.free+max z.wide 1;omega)⟩,?_⟩;intro v S jF k lp m p hv hS hd hll hlow MI ht;obtain⟨m',g1,g2,g3⟩:=wk v S jF k lp m hv hS hd hll hlow (MI.ty hf ht);exact⟨m',g1,hrep _ m m' p v _ MI g3 (by rw[<-hr];exact g2),g3.len,g3.uV,g3.left⟩
 .rw[jg hr];have hins:rC ⟨7,[c.free,r]⟩:=aaE ⟨by omega,by omega⟩ ⟨x0,by omega⟩;have ho:rO 7:=by unfold rO;omega
  refine⟨fr.seq (Fr.ins ⟨7,[c.free,r]⟩),[(b.text,c.free)],?_,by simp,L6 _,hfit _,⟨Fr.uq x.ok (Fr.xu hins (jf (by show(6:Int)<=7;omega)) false),by show fr.jC+1<=z.jC+1;omega,by show max fr.deep 0<=z.deep;omega,?_,?_⟩,?_⟩
  .simp only[Co.lay,Co.jX,Co.know,Fr.seq,Fr.ins,nN,ny,mF,enc,aX,bY,eG]
   rfl
  .have:=Je 7 c.free r ⟨by omega,by omega⟩ ⟨x0,by omega⟩;show((jU (fr.is++[⟨7,[c.free,r]⟩])).length:Int)<=z.jL+5;rw[nN,aA];omega
  .refine(x.low.wide (by show c.free+z.wide<=c.free+max z.wide 1;omega)).append (lG.one ⟨λ_=>?_,λ_=>?_,trivial⟩)
   .show c.free+1<=c.free+max z.wide 1;omega
   .show r+1<=c.free+max z.wide 1;omega
  .intro v S jF k lp m p hv hS hd hll hlow MI ht;have hd:lp.length+max fr.deep 0<=8:=hd;obtain⟨m1,g1,g2,g3⟩:=wk v S jF k lp m hv hS.left (by omega) hll hlow.left (MI.ty hf ht);have hg:=yB (v:=v) (jF:=jF) (m:=m1) (hS.right (x.ok.size k lp)).head (by show(6:Int)<=7;omega) (by show(7:Int)≠36;omega);rw[ho.work]at hg;have e7:outcome v 7 (m1.get r) 0=m1.get r:=by simp[outcome]
   rw[e7]at hg;have hlt:=(hlow.right ⟨7,[c.free,r]⟩ (by simp[Fr.ins])).1 rfl;have hs2:oP c.free (-1) lp.length m (m1.put c.free (m1.get r)):=g3.trans (yj (je (aV _)) (by omega));exact⟨m1.put c.free (m1.get r),g1.trans hg,hrep _ m _ p v _ MI hs2 (by rw[vN _ _ _ (by omega) (by rw[g3.len];omega)];exact g2),hs2.len,hs2.uV,hs2.left⟩
theorem Va{t:Int}{e:Ex}{f:Val}(h:QF t e f)(a:Int)(b:Wd):QE (t+3) (sJ a b e) (λv p=>.inr {p with env:=p.env++[(b.text,f p.env v p.jF)]}):=by
 obtain⟨z,h1,h2⟩:=h;have hl:=λck (hk:((sJ a b e).does.look ck).en=0)=>anX h1 hk;refine⟨_,⟨λck hk=>⟨(hl ck hk).2.2,_,(hl ck hk).2.1⟩,adt h1.give h2.wide.1 hl,λ_=>adt h1.fold h2.wide.1 hl,λck v p p' hk ht hv hF=>?_,(λh=>by cases h),(λh=>by cases h)⟩,WX h2 rfl⟩;cases hF;obtain⟨l1,l2,l3⟩:=hl ck hk;rw[l2];obtain⟨y1,y2⟩:=h1.ty ck p.env v p.jF l1 ht hv;exact qC.know ht y1 y2
theorem anZ{t:Int}{e:Ex}(h:QX t e)(a:Int)(b:Wd):QS (t+3) (sJ a b e):=by
 obtain⟨z,f,h1,h2⟩:=h;obtain⟨z',q⟩:=Va ⟨z,h1,h2⟩ a b;exact⟨z',_,q⟩
def QC(f f':Val):lQ:=λv p=>match v.sN (f p.env v p.jF),v.uM (f' p.env v p.jF)with
 |some r,some q=>if p.jO.length=256 then .inl none else .inr {p with jO:=p.jO++[(r.id,q.seq)]}
 |_,_=>.inr p
theorem apT{a b:Int}(h0:0<=a/\a<2008)(h1:0<=b/\b<2008):rC ⟨36,[a,b]⟩:=
 ⟨⟨by show(0:Int)<=36;omega,by show(36:Int)<=36;omega⟩,a,[b],rfl,rb h0.1 h0.2,b,[],rfl,rb h1.1 h1.2,rfl⟩
theorem aeV{P:Ck->Prop}{g g':Co->Int->Co×Int}{z z':Sz}{f f':Val}(h:Mx P g z f)(h':Mx P g' z' f')(hz:0<=z.wide/\0<=z'.wide)(lk:Ck->Ck)(hl:∀ck,(lk ck).en=0->P ck/\lk ck=ck):
 Ms lk (λc=>((g' (g c (-1)).1 (-1)).1.lay 36 [(g c (-1)).2,(g' (g c (-1)).1 (-1)).2]).jX c.free) ⟨max (max z.wide (1+z'.wide)) 1,max z.deep z'.deep,z.jC+z'.jC+1,z.jL+z'.jL+5⟩ (QC f f'):=by
 intro ck c hf hx hk hw;obtain⟨hP,l2⟩:=hl ck hk;have h8:=hf.free;have hw:c.free+max (max z.wide (1+z'.wide)) 1<=2008:=hw;obtain⟨fr,r,p,e,x,w⟩:=h.lay ck c (-1) hf hP (by omega) (jf rfl);have x1:=x.r1;have x0:=x.r0;have xf:=x.f2;have xg:=x.f1;have x3:=x.r3;obtain⟨fr',r',p',ee,x',w'⟩:=h'.lay ck ⟨c.code++jU fr.is,c.jy,p⟩ (-1) (hf.more xg) hP (by show p+z'.wide<=2008;omega) (jf rfl);have y1:=x'.r1;have y0:=x'.r0;have y3:r'<p\/r'<p+z'.wide:=x'.r3;have hins:=apT ⟨x0,by omega⟩ ⟨y0,by omega⟩;have xn:=x.jC;have xn':=x'.jC;have xd:=x.deep;have xd':=x'.deep;have xl:=x.jL;have xl':=x'.jL;simp only;rw[e];simp only;rw[ee,l2];have hco:((⟨c.code++jU fr.is++jU fr'.is,c.jy,p'⟩:Co).lay 36 [r,r']).jX c.free=⟨c.code++jU (fr.seq (fr'.seq (Fr.ins ⟨36,[r,r']⟩))).is,c.jy,c.free⟩:=by
  simp only[Co.lay,Co.jX,Fr.seq,Fr.ins,nN,ny,mF,enc,aX,bY]
 simp only;rw[hco,yV];refine⟨fr.seq (fr'.seq (Fr.ins ⟨36,[r,r']⟩)),[],rfl,by simp,Fz hx rfl,FK hf rfl,⟨Fr.uq x.ok (Fr.uq x'.ok (Fr.xu hins (jf (by show(6:Int)<=36;omega)) false)),by show fr.jC+(fr'.jC+1)<=z.jC+z'.jC+1;omega,by show max fr.deep (max fr'.deep 0)<=max z.deep z'.deep;omega,?_,?_⟩,?_⟩
 .have:=Je 36 r r' ⟨x0,by omega⟩ ⟨y0,by omega⟩;show((jU (fr.is++(fr'.is++[⟨36,[r,r']⟩]))).length:Int)<=z.jL+z'.jL+5;rw[nN,nN,aA,aA];omega
 .refine(x.low.wide ?_).append ((x'.low.wide ?_).append (lG.one ⟨λ_=>?_,λ_=>?_,trivial⟩))
  .show c.free+z.wide<=c.free+max (max z.wide (1+z'.wide)) 1;omega
  .show p+z'.wide<=c.free+max (max z.wide (1+z'.wide)) 1;omega
  .show r+1<=c.free+max (max z.wide (1+z'.wide)) 1;omega
  .show r'+1<=c.free+max (max z.wide (1+z'.wide)) 1;omega
 .intro v S jF k lp m pp hv hS hd hll hlow hr ht;have hd:lp.length+max fr.deep (max fr'.deep 0)<=8:=hd;have ty0:=hr.ty hf ht;obtain⟨m1,g1,g2,g3⟩:=w v S jF k lp m hv hS.left (by omega) hll hlow.left ty0;have hS2:=hS.right (x.ok.size k lp);have t1:Ty ck ⟨c.code++jU fr.is,c.jy,p⟩ m1.get:=(Gn ty0 g3 hf).jy rfl;obtain⟨m2,q1,q2,q3⟩:=w' v S jF (k+fr.size) lp m1 hv hS2.left (by omega) (by rw[g3.uV];exact hll) (by rw[g3.len];exact hlow.right.left) t1;have q3:=q3;have hS3:=hS2.right (x'.ok.size (k+fr.size) lp);have hs2:oP c.free (-1) lp.length m m2:=g3.trans (q3.less xg (jf rfl) (aj _));have v1:m2.get r=f pp.env v pp.jF:=by rw[q3.jD r x0 x1 (by omega),g2,hr.val h.pJ]
  have v2:m2.get r'=f' pp.env v pp.jF:=by
   rw[q2];show f' (lS c m1.get) v m1.get=_;rw[aaD h'.pJ hf g3,hr.val h'.pJ]
  have hac:m2.jO=pp.jO:=by rw[hs2.jO];exact hr.jO
  have hrep:∀jO,vI ⟨c.code++jU (fr.seq (fr'.seq (Fr.ins ⟨36,[r,r']⟩))).is,c.jy,c.free⟩ {m2 with jO:=jO} {pp with jO:=jO}:=λjO=>
   ⟨by show lS c m2.get=pp.env;rw[BP hf hs2];exact hr.env,λj j0 j1=>by show m2.get j=pp.jF j;rw[hs2.jD j j0 (by omega) (by omega)];exact hr.jF j j0 j1,rfl⟩
  have hstep:Hx.step v S jF (k+fr.size+fr'.size) (stepOf ⟨36,[r,r']⟩) m2=match push v (m2.get r) (m2.get r') m2 with
   |none=>.inl ⟨1,jF,[]⟩
   |some m'=>.inr (((k+fr.size+fr'.size:Nat):Int)+1,m'):=by
   unfold Hx.step;rw[jg (by show¬(36:Int)=1;omega),jg (by show¬(36:Int)=2;omega),jg (by show¬(36:Int)=3;omega),jg (by show¬(36:Int)=4;omega),jg (by show¬(36:Int)=5;omega),jg (by show¬(36:Int)=0;omega),jh (by rfl)]
   rfl
  have hhead:=hS3.head;have hsz:k+(fr.seq (fr'.seq (Fr.ins ⟨36,[r,r']⟩))).size=k+fr.size+fr'.size+1:=by
   show k+(fr.size+(fr'.size+1))=_;omega
  rw[hsz,<-yV];have hpre:=g1.trans q1;unfold QC;unfold push at hstep;rw[v1,v2]at hstep;refine wY.before ?_ hpre hs2.len hs2.uV hs2.left;cases hrd:v.sN (f pp.env v pp.jF)with
  |none=>
   rw[hrd]at hstep;simp only at hstep⊢;exact⟨m2,Aw hhead (by rw[hstep];rfl),⟨(hrep pp.jO).env,(hrep pp.jO).jF,hac⟩,rfl,rfl,λ_ _=>rfl⟩
  |some rd=>
   rw[hrd]at hstep;cases hpk:v.uM (f' pp.env v pp.jF)with
   |none=>
    rw[hpk]at hstep;simp only at hstep⊢;exact⟨m2,Aw hhead (by rw[hstep];rfl),⟨(hrep pp.jO).env,(hrep pp.jO).jF,hac⟩,rfl,rfl,λ_ _=>rfl⟩
   |some pk=>
    rw[hpk]at hstep;simp only at hstep⊢;rw[hac]at hstep;by_cases h256:pp.jO.length=256
    .rw[jh h256]at hstep⊢;exact WT hhead hstep
    .rw[jg h256]at hstep⊢;exact⟨{m2 with jO:=pp.jO++[(rd.id,pk.seq)]},Aw hhead (by rw[hstep];rfl),hrep _,rfl,rfl,λ_ _=>rfl⟩
theorem ap2{t t':Int}{e f:Ex}{v1:Val}(he:QF t e v1){v2:Val}(hf:QF t' f v2)(a:Int):QE (t+t'+3) (vg a e f) (QC v1 v2):=by
 obtain⟨z,h1,h2⟩:=he;obtain⟨z',k1,k2⟩:=hf;have hl:∀ck,((vg a e f).does.look ck).en=0->(lg e ck/\lg f ck)/\(vg a e f).does.look ck=ck:=λck hk=>by
  have e0:(vg a e f).does.look ck=(f.does.look ((e.does.look ck).want (e.does.jW ck.jy) e.at' 3)).want (f.does.jW ((e.does.look ck).want (e.does.jW ck.jy) e.at' 3).jy) f.at' 4:=rfl;rw[e0]at hk;obtain⟨_,q2,q3⟩:=Aa hk;have q4:=k1.look _ q3;have q5:((e.does.look ck).want (e.does.jW ck.jy) e.at' 3).en=0:=by
   have q3':=q3;rw[q4]at q3';exact q3'
  obtain⟨_,q6,q7⟩:=Aa q5;have q8:=h1.look ck q7;rw[q6,q8]at q3 q4;rw[e0,q2,q6,q8];exact⟨⟨q7,q3⟩,q4⟩
 have w1:=h2.wide;have w2:=k2.wide;refine⟨_,⟨λck hk=>JB (hl ck hk).2 hk,aeV (P:=λck=>lg e ck/\lg f ck) (h1.give.of λck hk=>hk.1) (k1.give.of λck hk=>hk.2) ⟨w1.1,w2.1⟩ _ hl,λ_=>aeV (P:=λck=>lg e ck/\lg f ck) (h1.fold.of λck hk=>hk.1) (k1.fold.of λck hk=>hk.2) ⟨w1.1,w2.1⟩ _ hl,λck v p p' hk ht hv hF=>?_,(λh=>by cases h),(λh=>by cases h)⟩,?_⟩
 .rw[(hl ck hk).2];unfold QC at hF;split at hF
  .split at hF
   .cases hF
   .cases hF;exact ht
  .cases hF;exact ht
 .have l1:=h2.jL;have l2:=k2.jL;have n1:=h2.jC;have n2:=k2.jC;have t1:=h2.tok;have t2:=k2.tok;have c1:=h2.jw;have c2:=k2.jw;refine⟨by omega,⟨by show 1<=max (max z.wide (1+z'.wide)) 1;omega,by show 2 * max (max z.wide (1+z'.wide)) 1<=t+t'+3;omega⟩,⟨by show 0<=z.jL+z'.jL+5;omega,by show z.jL+z'.jL+5<=20 * (t+t'+3);omega⟩,by show 0<=z.jC+z'.jC+1;omega,⟨yh (by simp;exact⟨c1,c2⟩),(rG c1 c2).2⟩,λhk=>?_⟩;have hk:jR [e.jw,f.jw]<=1000000:=hk;have hp:=zU c1.1 c1.2 c2.1 c2.2 hk;obtain⟨a1,a2⟩:=h2.all (by omega);obtain⟨b1,b2⟩:=k2.all (by omega);show z.jC+z'.jC+1<=40 * jR [e.jw,f.jw]/\((8^max z.deep z'.deep:Nat):Int)<=jR [e.jw,f.jw]+1;rw[hp];refine⟨by omega,?_⟩;rcases gX z.deep z'.deep with hh|hh
  .rw[gG hh];omega
  .rw[gV hh];omega
theorem ap1{t t':Int}{e f:Ex}(he:QX t e)(hf:QX t' f)(a:Int):QS (t+t'+3) (vg a e f):=by
 obtain⟨z,v1,h1,h2⟩:=he;obtain⟨z',v2,k1,k2⟩:=hf;obtain⟨y,q⟩:=ap2 ⟨z,h1,h2⟩ ⟨z',k1,k2⟩ a;exact⟨y,_,q⟩
theorem ard(a:Int):QS 2 (yH a):=by
 have hm:Ms (yH a).does.look (λc=>c.lay 1 []) ⟨1,0,1,1⟩ (λ_ p=>.inl (some p)):=by
  intro ck c hf hx hk hw;have hins:rC ⟨1,[]⟩:=⟨⟨by decide,by decide⟩,rfl⟩;have hco:c.lay 1 []=⟨c.code++jU (Fr.ins ⟨1,[]⟩).is,c.jy,c.free⟩:=by simp only[Co.lay,Fr.ins,ny,mF,enc,aX]
  simp only;rw[hco,yV];refine⟨Fr.ins ⟨1,[]⟩,[],rfl,by simp,Fz hx rfl,FK hf rfl,⟨Fr.xu hins (je rfl) false,aV _,aj _,by decide,lG.one trivial⟩,?_⟩;intro v S jF k lp m p hv hS hd hll hlow hr ht;refine⟨⟨0,m.jD,m.jO⟩,WT hS.head ?_,rfl,λi hi=>?_,hr.jO⟩
  .unfold Hx.step;rw[jh (by rfl)]
  .have:=hr.jF (i:Int) (by omega) (by omega);rw[<-this];unfold Mc.get;rw[bK]
 refine⟨_,_,⟨λck hk=>JB rfl hk,hm,λ_=>hm,λck v p p' hk ht hv hF=>(by cases hF),(λh=>by cases h),λ_ ck v p _ _ _=>⟨_,rfl⟩⟩,⟨by decide,by decide,by decide,by decide,by show(1:Int)<=1/\(1:Int)<=1000001;decide,λ_=>by show(1:Int)<=40 * 1/\((8^0:Nat):Int)<=1+1;decide⟩⟩
def oL:List lQ->lQ
 |[],_,p=>.inr p
 |F::Fs,v,p=>match F v p with
  | .inl r=>.inl r
  | .inr p'=>oL Fs v p'
def qB:List jG->List (Sz×lQ)->Int->Prop
 |[],zs,t=>zs=[]/\t=0
 |s::l,zs,t=>∃z F zs' ts t',zs=(z,F)::zs'/\MS s z F/\KY ts s z/\t=ts+t'/\qB l zs' t'
def EZ(l:List jG)(Fs:List lQ)(t:Int):Prop:=∃zs,qB l zs t/\zs.map (λq:Sz×lQ=>q.2)=Fs
theorem xZ:EZ [] [] 0:=⟨[],⟨rfl,rfl⟩,rfl⟩
theorem qY{s:jG}{F:lQ}{ts:Int}{l:List jG}{Fs:List lQ}{t:Int}(h:QE ts s F)(hl:EZ l Fs t):EZ (s::l) (F::Fs) (ts+t):=by
 obtain⟨z,h1,h2⟩:=h;obtain⟨zs,h3,h4⟩:=hl;exact⟨(z,F)::zs,⟨z,F,zs,ts,t,rfl,h1,h2,rfl,h3⟩,by rw[dL,h4]⟩
theorem adp:∀{l:List jG}{zs:List (Sz×lQ)}{t:Int}{s:jG}{z:Sz}{F:lQ}{ts:Int},qB l zs t->MS s z F->KY ts s z->qB (l++[s]) (zs++[(z,F)]) (t+ts)
 |[],_,_,s,z,F,ts,⟨h1,h2⟩,hm,hs=>by
  subst h1 h2;exact⟨z,F,[],ts,0,rfl,hm,hs,by omega,rfl,rfl⟩
 |c::l,_,_,s,z,F,ts,⟨z',F',zs',ts',t',h1,h2,h3,h4,h5⟩,hm,hs=>by
  subst h1 h4;exact⟨z',F',zs'++[(z,F)],ts',t'+ts,rfl,h2,h3,by omega,adp h5 hm hs⟩
def ku:List (Sz×lQ)->Sz
 |[]=>⟨0,0,0,0⟩
 |p::zs=>⟨max p.1.wide (1+(ku zs).wide),max p.1.deep (ku zs).deep,p.1.jC+(ku zs).jC,p.1.jL+(ku zs).jL⟩
structure ahI(l:List jG)(zs:List (Sz×lQ))(t:Int):Prop where
 tok:0<=t
 wide:0<=(ku zs).wide/\2 * (ku zs).wide<=t
 jL:0<=(ku zs).jL/\(ku zs).jL<=20 * t
 jC:0<=(ku zs).jC
 jw:0<=lM l
 pos:∀s∈l,1<=s.jw/\s.jw<=1000001
 all:lM l<=1000000->(ku zs).jC<=40 * lM l/\((8^(ku zs).deep:Nat):Int)<=lM l+1
theorem H6:∀{l:List jG}{zs:List (Sz×lQ)}{t:Int},qB l zs t->ahI l zs t
 |[],_,_,⟨h1,h2⟩=>by
  subst h1 h2;exact⟨by omega,by decide,by decide,by decide,by simp[lM],by simp,λ_=>by simp[ku,lM]⟩
 |s::l,_,_,⟨z,F,zs,ts,t',h1,h2,h3,h4,h5⟩=>by
  subst h1 h4;have q:=H6 h5;have a1:=q.tok;have a2:=q.wide;have a3:=q.jL;have a4:=q.jC;have a5:=q.jw;have b1:=h3.tok;have b2:=h3.wide;have b3:=h3.jL;have b4:=h3.jC;have b5:=h3.jw;have e1:lM (s::l)=s.jw+lM l:=by simp[lM]
  refine⟨by omega,⟨by show 0<=max z.wide (1+(ku zs).wide);omega,by show 2 * max z.wide (1+(ku zs).wide)<=ts+t';omega⟩,⟨by show 0<=z.jL+(ku zs).jL;omega,by show z.jL+(ku zs).jL<=_;omega⟩,by show 0<=z.jC+(ku zs).jC;omega,by omega,λx hx=>?_,λhc=>?_⟩
  .rcases dh.1 hx with rfl|hx
   .exact b5
   .exact q.pos x hx
  .obtain⟨c1,c2⟩:=q.all (by omega);obtain⟨d1,d2⟩:=h3.all (by omega);refine⟨by show z.jC+(ku zs).jC<=_;omega,?_⟩;show((8^max z.deep (ku zs).deep:Nat):Int)<=_;rcases gX z.deep (ku zs).deep with hh|hh
   .rw[gG hh];omega
   .rw[gV hh];omega
theorem Hq{c c':Co}{d:Nat}{v:Vw}{S:List St}{jF:List Int}{k:Nat}{m:Mc}{lD amA:Nat}{r:Option oH}(h:wY c d v S jF k m lD (.inl r)):wY c' d v S jF k m amA (.inl r):=by
 cases r with
 |none=>exact h
 |some p=>exact h
theorem ZC{ck ck1:Ck}{c c1 c2:Co}{fr fr':Fr}{F G:lQ}(h:Bg ck c c1 fr F)(h':Bg ck1 c1 c2 fr' G)(hok:fr.Ok false)(hty:∀v p p',nV ck p->nM v->F v p=.inr p'->nV ck1 p'):Bg ck c c2 (fr.seq fr') (λv p=>match F v p with| .inl r=>.inl r| .inr p'=>G v p'):=by
 intro v S jF k lp m p hv hS hd hll hlow hr ht;have hd:lp.length+max fr.deep fr'.deep<=8:=hd;have h1:=h v S jF k lp m p hv hS.left (by omega) hll hlow.left hr ht;have hsz:k+(fr.seq fr').size=k+fr.size+fr'.size:=by
  show k+(fr.size+fr'.size)=_;omega
 rw[hsz];simp only;cases hF:F v p with
 |inl r=>
  rw[hF]at h1;exact Hq h1
 |inr p1=>
  rw[hF]at h1;obtain⟨m1,g1,g2,g3,g4,g5⟩:=h1;exact(h' v S jF (k+fr.size) lp m1 p1 hv (hS.right (hok.size k lp)) (by omega) (by rw[g4];exact hll) (by rw[g3];exact hlow.right) g2 (hty v p p1 ht hv hF)).before g1 g3 g4 g5
theorem JA(s:jG)(l:List jG)(ck:Ck):oh (s::l) ck=oh l (s.does.look ck):=rfl
theorem FV:∀{l:List jG}{zs:List (Sz×lQ)}{t:Int},qB l zs t->∀ck,(oh l ck).en=0->ck.en=0/\∃more,oh l ck=⟨ck.jy++more,ck.en,ck.ea⟩
 |[],_,_,_,ck,h=>⟨h,[],by show ck=_;simp⟩
 |s::l,_,_,⟨z,F,zs,ts,t',h1,h2,h3,h4,h5⟩,ck,h=>by
  rw[JA]at h⊢;obtain⟨a1,m1,a2⟩:=FV h5 _ h;obtain⟨b1,m2,b2⟩:=h2.look ck a1;refine⟨b1,m2++m1,?_⟩;rw[a2,b2];simp
theorem afF:∀{l:List jG}{zs:List (Sz×lQ)}{t:Int},qB l zs t->∀ck v p p',(oh l ck).en=0->nV ck p->nM v->oL (zs.map (·.2)) v p=.inr p'->nV (oh l ck) p'
 |[],_,_,⟨h1,_⟩,ck,v,p,p',_,ht,_,hF=>by
  subst h1;cases hF;exact ht
 |s::l,_,_,⟨z,F,zs,ts,t',h1,h2,h3,h4,h5⟩,ck,v,p,p',hk,ht,hv,hF=>by
  subst h1;rw[JA]at hk⊢;have hs:=(FV h5 _ hk).1;simp only[dL,oL]at hF;cases hq:F v p with
  |inl r=>rw[hq]at hF;cases hF
  |inr p1=>
   rw[hq]at hF;exact afF h5 _ v p1 p' hk (h2.ty ck v p p1 hs ht hv hq) hv hF
theorem afE:∀{l:List jG}{zs:List (Sz×lQ)}{t:Int},qB l zs t->∀(ck:Ck)(c:Co),Fit ck c->Ctx c->(oh l ck).en=0->c.free+(ku zs).wide<=2008->
 ∃(fr:Fr)(more:List (ji×Int)),qX l c=⟨c.code++jU fr.is,c.jy++more,c.free+more.length⟩/\Xt c (ku zs) fr/\Bg ck c (qX l c) fr (oL (zs.map (·.2)))
 |[],_,_,⟨h1,_⟩,ck,c,hf,hx,hk,hw=>by
  subst h1;refine⟨Fr.nil,[],by show c=_;simp[Fr.nil,mF],⟨Fr.Nq false,aV _,aj _,by simp[Fr.nil,mF,ku],lG.nil _⟩,?_⟩;intro v S jF k lp m p hv hS hd hll hlow hr ht;exact⟨m,Reaches.refl _ _ _ _ _,hr,rfl,rfl,λ_ _=>rfl⟩
 |s::l,_,_,⟨z,F,zs,ts,t',h1,h2,h3,h4,h5⟩,ck,c,hf,hx,hk,hw=>by
  subst h1;rw[JA]at hk;have hs:=(FV h5 _ hk).1;have hw:c.free+max z.wide (1+(ku zs).wide)<=2008:=hw;obtain⟨fr,more,q1,q2,q3,q4,q5,q6⟩:=h2.lay ck c hf hx hs (by omega);have hfree:(s.does.lay c).free=c.free+more.length:=by rw[q1]
  obtain⟨fr',more',r1,r2,r3⟩:=afE h5 (s.does.look ck) (s.does.lay c) q4 q3 hk (by rw[hfree];omega);have e0:qX (s::l) c=qX l (s.does.lay c):=rfl;have n1:=q5.jC;have n2:=r2.jC;have d1:=q5.deep;have d2:=r2.deep;have l1:=q5.jL;have l2:=r2.jL;refine⟨fr.seq fr',more++more',?_,⟨Fr.uq q5.ok r2.ok,by show fr.jC+fr'.jC<=z.jC+(ku zs).jC;omega,by show max fr.deep fr'.deep<=max z.deep (ku zs).deep;omega,?_,(q5.low.wide ?_).append (r2.low.wide ?_)⟩,?_⟩
  .rw[e0,r1,q1];simp only[Fr.seq,nN,bY,aA,iC,iP]
  .show((jU (fr.is++fr'.is)).length:Int)<=z.jL+(ku zs).jL;rw[nN,aA];omega
  .show c.free+z.wide<=c.free+max z.wide (1+(ku zs).wide);omega
  .rw[hfree];show c.free+more.length+(ku zs).wide<=c.free+max z.wide (1+(ku zs).wide);omega
  .rw[e0];have:=ZC q6 r3 q5.ok (λv p p' ht hv hF=>h2.ty ck v p p' hs ht hv hF);exact this
theorem WI:∀{l:List jG}{zs:List (Sz×lQ)}{t:Int},qB l zs t->∀(ck:Ck)(c:Co),Fit ck c->Ctx c->(oh l ck).en=0->c.free+(ku zs).wide<=2008->
 ∃(fr:Fr)(more:List (ji×Int)),qX (kU l) c=⟨c.code++jU fr.is,c.jy++more,c.free+more.length⟩/\Xt c (ku zs) fr/\Bg ck c (qX (kU l) c) fr (oL (zs.map (·.2)))
 |[],_,_,⟨h1,_⟩,ck,c,hf,hx,hk,hw=>by
  subst h1;refine⟨Fr.nil,[],by show c=_;simp[Fr.nil,mF],⟨Fr.Nq false,aV _,aj _,by simp[Fr.nil,mF,ku],lG.nil _⟩,?_⟩;intro v S jF k lp m p hv hS hd hll hlow hr ht;exact⟨m,Reaches.refl _ _ _ _ _,hr,rfl,rfl,λ_ _=>rfl⟩
 |s::l,_,_,⟨z,F,zs,ts,t',h1,h2,h3,h4,h5⟩,ck,c,hf,hx,hk,hw=>by
  subst h1;rw[JA]at hk;have hs:=(FV h5 _ hk).1;have hw:c.free+max z.wide (1+(ku zs).wide)<=2008:=hw;have b2:=h3.wide;have b3:=h3.jL;have b4:=h3.jC;have qf:=H6 h5;have a2:=qf.wide;have a3:=qf.jL;have a4:=qf.jC;have hz1:∀{c:Co}{fr:Fr},Xt c (ku zs) fr->Xt c (ku ((z,F)::zs)) fr:=λhx=>hx.grow (by show(ku zs).wide<=max z.wide (1+(ku zs).wide);omega) (by show(ku zs).deep<=max z.deep (ku zs).deep;omega) (by show(ku zs).jC<=z.jC+(ku zs).jC;omega) (by show(ku zs).jL<=z.jL+(ku zs).jL;omega);have hz2:∀{c:Co}{fr:Fr},Xt c z fr->Xt c (ku ((z,F)::zs)) fr:=λhx=>hx.grow (by show z.wide<=max z.wide (1+(ku zs).wide);omega) (by show z.deep<=max z.deep (ku zs).deep;omega) (by show z.jC<=z.jC+(ku zs).jC;omega) (by show z.jL<=z.jL+(ku zs).jL;omega);cases hi:s.does.fs.idle with
  |true=>
   obtain⟨i1,i2⟩:=h2.idle hi ck hs;rw[i1]at hk;obtain⟨fr,more,q1,q2,q3⟩:=WI h5 ck c hf hx hk (by omega);have e0:kU (s::l)=kU l:=by
    show(if s.does.fs.idle then kU l else if s.does.fs.ends then [s.uG]else s.uG::kU l)=_;rw[hi]
    rfl
   rw[e0];refine⟨fr,more,q1,hz1 q2,?_⟩;intro v S jF k lp m p hv hS hd hll hlow hr ht;have:=q3 v S jF k lp m p hv hS hd hll hlow hr ht;simp only[dL,oL];rw[i2 v p ht hv];exact this
  |false=>
   cases he:s.does.fs.ends with
   |true=>
    have e0:kU (s::l)=[s.uG]:=by
     show(if s.does.fs.idle then kU l else if s.does.fs.ends then [s.uG]else s.uG::kU l)=_;rw[hi,he]
     rfl
    rw[e0];obtain⟨fr,more,q1,q2,q3,q4,q5,q6⟩:=h2.fold hi ck c hf hx hs (by omega);refine⟨fr,more,q1,hz2 q5,?_⟩;intro v S jF k lp m p hv hS hd hll hlow hr ht;have h1:=q6 v S jF k lp m p hv hS hd hll hlow hr ht;obtain⟨r,hr'⟩:=h2.ends he ck v p hs ht hv;simp only[dL,oL];rw[hr']at h1⊢;exact Hq h1
   |false=>
    have e0:kU (s::l)=s.uG::kU l:=by
     show(if s.does.fs.idle then kU l else if s.does.fs.ends then [s.uG]else s.uG::kU l)=_;rw[hi,he]
     rfl
    rw[e0];obtain⟨fr,more,q1,q2,q3,q4,q5,q6⟩:=h2.fold hi ck c hf hx hs (by omega);have hfree:(s.does.fs.lay c).free=c.free+more.length:=by rw[q1]
    obtain⟨fr',more',r1,r2,r3⟩:=WI h5 (s.does.look ck) (s.does.fs.lay c) q4 q3 hk (by rw[hfree];omega);have e1:qX (s.uG::kU l) c=qX (kU l) (s.does.fs.lay c):=rfl;have n1:=q5.jC;have n2:=r2.jC;have d1:=q5.deep;have d2:=r2.deep;have l1:=q5.jL;have l2:=r2.jL;refine⟨fr.seq fr',more++more',?_,⟨Fr.uq q5.ok r2.ok,by show fr.jC+fr'.jC<=z.jC+(ku zs).jC;omega,by show max fr.deep fr'.deep<=max z.deep (ku zs).deep;omega,?_,(q5.low.wide ?_).append (r2.low.wide ?_)⟩,?_⟩
    .rw[e1,r1,q1];simp only[Fr.seq,nN,bY,aA,iC,iP]
    .show((jU (fr.is++fr'.is)).length:Int)<=z.jL+(ku zs).jL;rw[nN,aA];omega
    .show c.free+z.wide<=c.free+max z.wide (1+(ku zs).wide);omega
    .rw[hfree];show c.free+more.length+(ku zs).wide<=c.free+max z.wide (1+(ku zs).wide);omega
    .rw[e1];have:=ZC q6 r3 q5.ok (λv p p' ht hv hF=>h2.ty ck v p p' hs ht hv hF);exact this
theorem afD:∀{l:List jG}{zs:List (Sz×lQ)}{t:Int},qB l zs t->kU l=[]->∀ck v p,(oh l ck).en=0->nV ck p->nM v->oL (zs.map (·.2)) v p=.inr p
 |[],_,_,⟨h1,_⟩,_,ck,v,p,_,_,_=>by
  subst h1
  rfl
 |s::l,_,_,⟨z,F,zs,ts,t',h1,h2,h3,h4,h5⟩,he,ck,v,p,hk,ht,hv=>by
  subst h1;rw[JA]at hk;have hs:=(FV h5 _ hk).1;have he:(if s.does.fs.idle then kU l else if s.does.fs.ends then [s.uG]else s.uG::kU l)=[]:=he;cases hi:s.does.fs.idle with
  |true=>
   rw[hi]at he;obtain⟨i1,i2⟩:=h2.idle hi ck hs;simp only[dL,oL];rw[i2 v p ht hv];rw[i1]at hk;exact afD h5 he ck v p hk ht hv
  |false=>
   rw[hi]at he;simp only[aH,cZ]at he;split at he<;>cases he
theorem WH:∀{l:List jG}{zs:List (Sz×lQ)}{t:Int},qB l zs t->uI (kU l)=true->∀ck v p,(oh l ck).en=0->nV ck p->nM v->∃r,oL (zs.map (·.2)) v p=.inl r
 |[],_,_,_,he,ck,v,p,_,_,_=>by cases he
 |s::l,_,_,⟨z,F,zs,ts,t',h1,h2,h3,h4,h5⟩,he,ck,v,p,hk,ht,hv=>by
  subst h1;rw[JA]at hk;have hs:=(FV h5 _ hk).1;have he:uI (if s.does.fs.idle then kU l else if s.does.fs.ends then [s.uG]else s.uG::kU l)=true:=he;simp only[dL,oL];cases hi:s.does.fs.idle with
  |true=>
   rw[hi]at he;obtain⟨i1,i2⟩:=h2.idle hi ck hs;rw[i2 v p ht hv];rw[i1]at hk;exact WH h5 he ck v p hk ht hv
  |false=>
   rw[hi]at he;simp only[aH,cZ]at he;cases hF:F v p with
   |inl r=>exact⟨r,rfl⟩
   |inr p1=>
    cases hn:s.does.fs.ends with
    |true=>
     obtain⟨r,hr⟩:=h2.ends hn ck v p hs ht hv;rw[hF]at hr;cases hr
    |false=>
     rw[hn]at he;simp only[aH,cZ]at he;refine WH h5 ?_ _ v p1 hk (h2.ty ck v p p1 hs ht hv hF) hv;cases hfl:kU l with
     |nil=>
      rw[hfl]at he;have:uI [s.uG]=s.does.fs.ends:=rfl;rw[this,hn]at he;cases he
     |cons a b=>
      rw[hfl]at he;unfold uI at he⊢;rw[List.getLast?_cons_cons]at he;exact he
end
end Go.Proofs.YthllhabjfchgiaaGreatDoor
