import Derived.Test.YthllhabjfchgiaaGreatDoorHb38
set_option maxRecDepth 100000
set_option maxHeartbeats 8000000
set_option linter.unusedSimpArgs false
namespace Go.Proofs.YthllhabjfchgiaaGreatDoor
section
open Go.RowKit Hx
def NV(σ:Int->Int)(i x:Int):Int->Int:=λj=>if j=i then x else σ j
theorem yR(code:List Int)(c:Co):(⟨code,c.jA,c.free⟩:Co)=⟨code,c.jA++[],c.free+(([]:List (jm×Int)).length:Nat)⟩:=by simp
theorem aaK(code:List Int)(c:Co)(f:Int)(σ:Int->Int):lu ⟨code,c.jA,f⟩ σ=lu c σ:=rfl
theorem acB{c:Co}{code:List Int}{m m':Mc}{into:Int}{d:Nat}{v:Vw}{S:List St}{jG:List Int}{k lC:Nat}{p:oz}(hg:Reaches v S jG k m lC m')(hs:oC c.free into d m m')(hr:uO ⟨code,c.jA,c.free⟩ m' p):wP ⟨code,c.jA++[],c.free+(([]:List (jm×Int)).length:Nat)⟩ d v S jG k m lC (.inr p):=by
 rw[<-yR];exact⟨m',hg,hr,hs.len,hs.uU,hs.left⟩
theorem WT{t:Int}{e:Ex}{s:jK}{z:Sz}(h:CQ t e z)(hc:s.jy=jS [e.jy]):Oh (t+3) s ⟨max z.wide 1,z.deep,z.jD+1,z.jM+5⟩:=by
 have h1:=h.wide;have h2:=h.jM;have h3:=h.tok;have h4:=h.jD;have h5:=h.jy;refine⟨by omega,⟨by show 1<=max z.wide 1;omega,by show 2 * max z.wide 1<=t+3;omega⟩,⟨by show 0<=z.jM+5;omega,by show z.jM+5<=20 * (t+3);omega⟩,by show 0<=z.jD+1;omega,by rw[hc];exact⟨xK (by simpa using h5),(pW h5).2⟩,λhk=>?_⟩;rw[hc]at hk;have hp:=yA h5.1 h5.2 hk;obtain⟨a1,a2⟩:=h.all (by omega);rw[hc,hp];exact⟨by show z.jD+1<=_;omega,by show((8^z.deep:Nat):Int)<=_;omega⟩
theorem Xt.grow{c:Co}{z z':Sz}{fr:Fr}(h:Xt c z fr)(h1:z.wide<=z'.wide)(h2:z.deep<=z'.deep)(h3:z.jD<=z'.jD)(h4:z.jM<=z'.jM):Xt c z' fr:=
 ⟨h.ok,by have:=h.jD;omega,by have:=h.deep;omega,by have:=h.jM;omega,h.low.wide (by omega)⟩
theorem afR{P:Ck->Prop}{g:Co->Int->Co×Int}{z:Sz}{f:Val}(h:Mx P g z f)(hz:0<=z.wide)(lk:Ck->Ck)(hl:∀ck,(lk ck).en=0->P ck/\lk ck=ck){i:Int}(hi:0<=i/\i<8):Ms lk (λc=>c.store i {give:=g}) ⟨max z.wide 1,z.deep,z.jD+1,z.jM+5⟩ (λv p=>.inr {p with jG:=NV p.jG i (f p.env v p.jG)}):=by
 intro ck c hf hx hk hw;obtain⟨l1,l2⟩:=hl ck hk;have h8:=hf.free;have hw:c.free+max z.wide 1<=2008:=hw;obtain⟨fr,q1,q2,q3⟩:=afM h hf l1 hz (by omega) (slot:=i) ⟨hi.1,by omega⟩;simp only;rw[q1,l2,yR];refine⟨fr,[],rfl,by simp,FN hx rfl,FT hf rfl,q2.grow (by show z.wide<=max z.wide 1;omega) (aj _) (aV _) (aV _),?_⟩;intro v S jG k lp m p hv hS hd hll hlow hr ht;obtain⟨m',g1,g2,g3⟩:=q3 v S jG k lp m hv hS hd hll hlow (hr.ty hf ht);refine acB g1 g3 ⟨?_,λj j0 j1=>?_,?_⟩
 .rw[aaK,<-hr.env];refine List.map_congr_left λn hn=>?_;obtain⟨j,hj⟩:=List.mem_iff_getElem?.1 hn;have h1:=hx.jE j n hj;have h2:=hf.jE n hn;rw[g3.jE n.2 h2.1 h2.2 (by omega)]
 .show m'.get j=NV p.jG i (f p.env v p.jG) j;unfold NV;by_cases hj:j=i
  .rw[jl hj,hj,g2,hr.val h.pq]
  .rw[jk hj,g3.jE j j0 (by omega) hj,hr.jG j j0 j1]
 .show m'.jP=p.jP;rw[g3.jP,hr.jP]
theorem aq6{t:Int}{e:Ex}(h:QX t e)(a i:Int)(hi:0<=i/\i<8):QS (t+3) (yE a i e):=by
 obtain⟨z,f,h1,h2⟩:=h;have hl:∀ck,((yE a i e).does.look ck).en=0->kZ e ck/\(yE a i e).does.look ck=ck:=λck hk=>by
  obtain⟨_,q2,q3⟩:=zQ (show((e.does.look ck).want (e.does.jU ck.jA) e.at' 1).en=0 from hk);have e0:(yE a i e).does.look ck=(e.does.look ck).want (e.does.jU ck.jA) e.at' 1:=rfl;exact⟨q3,by rw[e0,q2];exact h1.look ck q3⟩
 refine⟨_,_,⟨λck hk=>JB (hl ck hk).2 hk,afR h1.give h2.wide.1 _ hl hi,λ_=>afR h1.fold h2.wide.1 _ hl hi,λck v p p' hk ht hv hF=>?_,(λh=>by cases h),(λh=>by cases h)⟩,WT h2 rfl⟩;cases hF;obtain⟨l1,l2⟩:=hl ck hk;rw[l2];refine⟨λj j0 j1=>?_,ht.jA,ht.vals⟩;show jO (NV p.jG i (f p.env v p.jG) j);unfold NV;split
 .exact(h1.ty ck p.env v p.jG l1 ht hv).1
 .exact ht.jG j j0 j1
def Gp(t:jm)(x:Int):List (jm×Int)->List (jm×Int)
 |[]=>[]
 |n::e=>if n.1.data.toList==t.data.toList then (n.1,x)::e else n::Gp t x e
theorem Ub{t:jm}:∀{ks:List Kn}{ns:List (jm×Int)},ks.map (λk=>k.name.data.toList)=ns.map (λn=>n.1.data.toList)->ks.find? (λk=>k.name.data.toList==t.data.toList)≠none->
 ∃(j:Nat)(k:Kn)(n:jm×Int),ks[j]? =some k/\ns[j]? =some n/\ks.find? (λk=>k.name.data.toList==t.data.toList)=some k/\ns.find? (λn=>n.1.data.toList==t.data.toList)=some n/\∀e:List (jm×Int),e.map (λn=>n.1.data.toList)=ns.map (λn=>n.1.data.toList)->∀x,Gp t x e=e.set j ((e.getD j (t,0)).1,x)
 |[],[],_,h=>jq rfl h
 |[],_::_,h,_=>by simp at h
 |_::_,[],h,_=>by simp at h
 |k::ks,n::ns,h,hk=>by
  simp only[dL,iD]at h;by_cases he:(k.name.data.toList==t.data.toList)=true
  .refine⟨0,k,n,rfl,rfl,by rw[fF,he],by rw[fF,show(n.1.data.toList==t.data.toList)=true by rw[<-h.1];exact he],λe hn x=>?_⟩;cases e with
   |nil=>simp at hn
   |cons q e=>
    simp only[dL,iD]at hn;have hq:(q.1.data.toList==t.data.toList)=true:=by rw[hn.1,<-h.1];exact he
    simp[Gp,hq]
  .have he:(k.name.data.toList==t.data.toList)=false:=by simpa using he
   rw[fF,he]at hk;obtain⟨j,k',n',q1,q2,q3,q4,q5⟩:=Ub h.2 hk;refine⟨j+1,k',n',q1,q2,by rw[fF,he];exact q3,by rw[fF,show(n.1.data.toList==t.data.toList)=false by rw[<-h.1];exact he];exact q4,λe hn x=>?_⟩;cases e with
   |nil=>simp at hn
   |cons q e=>
    simp only[dL,iD]at hn;have hq:(q.1.data.toList==t.data.toList)=false:=by rw[hn.1,<-h.1];exact he
    have:=q5 e hn.2 x;simp[Gp,hq,this]
theorem aqs{b:Wd}{e:Ex}{z:Sz}{f:Val}(h:MX e z f){ck:Ck}(hk:((sQ b e).does.look ck).en=0):kZ e ck/\(sQ b e).does.look ck=ck/\(lG ck.jA b.text).isVar=true/\e.does.jU ck.jA=(lG ck.jA b.text).kind:=by
 have e0:(sQ b e).does.look ck=(e.does.look (if (lG ck.jA b.text).isVar then ck else ck.fail 2 b.at')).want (e.does.jU (if (lG ck.jA b.text).isVar then ck else ck.fail 2 b.at').jA) e.at' (lG ck.jA b.text).kind:=rfl;rw[e0]at hk;obtain⟨q1,q2,q3⟩:=zQ hk;have q4:=h.look _ q3;have q5:(if (lG ck.jA b.text).isVar then ck else ck.fail 2 b.at').en=0:=by
  have q3':=q3;rw[q4]at q3';exact q3'
 have q6:(lG ck.jA b.text).isVar=true:=by
  cases hv:(lG ck.jA b.text).isVar with
  |true=>rfl
  |false=>
   rw[hv]at q5;simp only[aH,cZ]at q5;exact jq q5 (TV (by decide))
 rw[jl q6]at q1 q3 q4;rw[e0,q2,jl q6];exact⟨q3,q4,q6,q1⟩
theorem agr{ck:Ck}{t:jm}(h:(lG ck.jA t).isVar=true):ck.jA.find? (λk=>k.name.data.toList==t.data.toList)≠none:=λe=>by
 unfold lG at h;rw[e]at h;cases h
theorem afo{g:Co->Int->Co×Int}{z:Sz}{f:Val}{b:Wd}{e:Ex}(h:Mx (kZ e) g z f)(hz:0<=z.wide)(hl:∀ck,((sQ b e).does.look ck).en=0->kZ e ck/\(sQ b e).does.look ck=ck/\(lG ck.jA b.text).isVar=true/\e.does.jU ck.jA=(lG ck.jA b.text).kind):Ms (sQ b e).does.look (λc=>c.store (c.vW b.text) {give:=g}) ⟨max z.wide 1,z.deep,z.jD+1,z.jM+5⟩ (λv p=>.inr {p with env:=Gp b.text (f p.env v p.jG) p.env}):=by
 intro ck c hf hx hk hw;obtain⟨l1,l2,l3,_⟩:=hl ck hk;have h8:=hf.free;have hw:c.free+max z.wide 1<=2008:=hw;obtain⟨j,kn,n,i1,i2,i3,i4,i5⟩:=Ub hf.jA (agr l3);have MF:c.vW b.text=n.2:=by unfold Co.vW;rw[i4];rfl
 have hn:=hf.jE n (bT i2);have hnj:=hx.jE j n i2;obtain⟨fr,q1,q2,q3⟩:=afM h hf l1 hz (by omega) (slot:=c.vW b.text) (by rw[MF];exact hn);simp only;rw[q1,l2,yR];refine⟨fr,[],rfl,by simp,FN hx rfl,FT hf rfl,q2.grow (by show z.wide<=max z.wide 1;omega) (aj _) (aV _) (aV _),?_⟩;intro v S jG k lp m p hv hS hd hll hlow hr ht;obtain⟨m',g1,g2,g3⟩:=q3 v S jG k lp m hv hS hd hll hlow (hr.ty hf ht);rw[MF]at g2 g3;refine acB g1 g3 ⟨?_,λq j0 j1=>?_,?_⟩
 .rw[aaK];rw[<-hr.val h.pq,<-g2,<-hr.env,i5 (lu c m.get) (by unfold lu;rw[List.map_map];rfl)];unfold lu;refine List.ext_getElem? λq=>?_;rw[fV];by_cases hq:q=j
  .subst hq;rw[i2];have hlt:=(List.getElem?_eq_some_iff.1 i2).1;rw[dY (by rw[List.length_map];exact hlt)];simp[aU,fV,i2]
  .rw[dQ (λe=>hq e.symm),fV];cases hcq:c.jA[q]?with
   |none=>rfl
   |some n'=>
    have h1:=hf.jE n' (bT hcq);have h2:=hx.jE q n' hcq;simp only[iJ,bJ,Prod.mk.injEq,true_and];exact g3.jE n'.2 h1.1 h1.2 (by omega)
 .show m'.get q=p.jG q;rw[g3.jE q j0 (by omega) (by omega),hr.jG q j0 j1]
 .show m'.jP=p.jP;rw[g3.jP,hr.jP]
theorem aqv{t:Int}{e:Ex}(h:QX t e)(b:Wd):QS (t+3) (sQ b e):=by
 obtain⟨z,f,h1,h2⟩:=h;have hl:=λck (hk:((sQ b e).does.look ck).en=0)=>aqs h1 hk;refine⟨_,_,⟨λck hk=>JB (hl ck hk).2.1 hk,afo h1.give h2.wide.1 hl,λ_=>afo h1.fold h2.wide.1 hl,λck v p p' hk ht hv hF=>?_,(λh=>by cases h),(λh=>by cases h)⟩,WT h2 rfl⟩;cases hF;obtain⟨l1,l2,l3,l4⟩:=hl ck hk;rw[l2];obtain⟨j,kn,n,i1,i2,i3,i4,i5⟩:=Ub ht.jA (agr l3);have hfk:lG ck.jA b.text=kn:=by unfold lG;rw[i3];rfl
 obtain⟨y1,y2⟩:=h1.ty ck p.env v p.jG l1 ht hv;rw[l4,hfk]at y2;have hset:=i5 p.env rfl (f p.env v p.jG);refine⟨ht.jG,?_,λq k' n' hq hn'=>?_⟩
 .show ck.jA.map (λk=>k.name.data.toList)=(Gp b.text (f p.env v p.jG) p.env).map (λn=>n.1.data.toList);rw[hset,ht.jA];refine List.ext_getElem? λq=>?_;rw[fV,fV];by_cases hq:q=j
  .subst hq;have hlt:=(List.getElem?_eq_some_iff.1 i2).1;rw[dY hlt,i2];simp[aU,i2]
  .rw[dQ (λe=>hq e.symm)]
 .have hn':=hn';rw[hset]at hn';by_cases hqj:q=j
  .subst hqj;have hlt:=(List.getElem?_eq_some_iff.1 i2).1;rw[dY hlt]at hn';rw[i1]at hq;cases hq;cases hn';exact⟨y1,y2⟩
  .rw[dQ (λe=>hqj e.symm)]at hn';exact ht.vals q k' n' hq hn'
theorem amW{a:Int}{b:Wd}{e:Ex}{z:Sz}{f:Val}(h:MX e z f){ck:Ck}(hk:((uD a b e).does.look ck).en=0):kZ e ck/\(uD a b e).does.look ck=ck.add b.text (e.does.jU ck.jA) true/\ck.en=0:=by
 have e0:(uD a b e).does.look ck=(e.does.look (ck.mD b.text b.at')).add b.text (e.does.jU (ck.mD b.text b.at').jA) true:=rfl;rw[e0]at hk;have q3:=hk;have q4:=h.look _ q3;have q5:(ck.mD b.text b.at').en=0:=by
  have q3':=q3;rw[q4]at q3';exact q3'
 obtain⟨_,q6,q7⟩:=VE q5;rw[q6]at q3 q4;rw[e0,q6,q4];exact⟨q3,rfl,q7⟩
theorem ac6{g:Co->Int->Co×Int}{z:Sz}{f:Val}{a:Int}{b:Wd}{e:Ex}(h:Mx (kZ e) g z f)(hz:0<=z.wide)(hl:∀ck,((uD a b e).does.look ck).en=0->kZ e ck/\(uD a b e).does.look ck=ck.add b.text (e.does.jU ck.jA) true/\ck.en=0):
 Ms (uD a b e).does.look (λc=>((if (g c (-1)).2=c.free then (g c (-1)).1 else (g c (-1)).1.lay 7 [c.free,(g c (-1)).2]).jZ (wrap64 (c.free+1))).know b.text c.free) ⟨max z.wide 1,z.deep,z.jD+1,z.jM+5⟩ (λv p=>.inr {p with env:=p.env++[(b.text,f p.env v p.jG)]}):=by
 intro ck c hf hx hk hw;obtain⟨l1,l2,l3⟩:=hl ck hk;have h8:=hf.free;have hw:c.free+max z.wide 1<=2008:=hw;obtain⟨fr,r,f',e1,x,wk⟩:=h.lay ck c (-1) hf l1 (by omega) (ji rfl);have x0:=x.r0;have x1:=x.r1;have x2:=x.f2;have x3:=x.r3;have xn:=x.jD;have xd:=x.deep;have xl:=x.jM;have hwr:wrap64 (c.free+1)=c.free+1:=NW _ (by unfold jO;omega);have LW:∀code,Ctx ⟨code,c.jA++[(b.text,c.free)],c.free+1⟩:=λcode=>by
  refine⟨?_,λj n hj=>?_⟩
  .show c.free+1=8+((c.jA++[(b.text,c.free)]).length:Int);have:=hx.free;simp;omega
  .have hj:=hj;rcases dG j c.jA.length with hlt|hge
   .rw[aT hlt]at hj;exact hx.jE j n hj
   .rw[bW hge]at hj;rcases gJ (j-c.jA.length)with h0|h0
    .rw[h0]at hj;simp only[dw,bJ]at hj;subst hj;have:=hx.free;omega
    .rw[bV (by simp;omega)]at hj;cases hj
 have hfit:∀code,Fit (ck.add b.text (e.does.jU ck.jA) true) ⟨code,c.jA++[(b.text,c.free)],c.free+1⟩:=λcode=>Fit.know (c:=⟨code,c.jA,c.free+1⟩) (hf.more (by omega)) (by omega) (by show c.free<c.free+1;omega);have hrep:∀code (m m':Mc)(p:oz)(v:Vw)(d:Nat),uO c m p->oC c.free (-1) d m m'->m'.get c.free=f (lu c m.get) v m.get->uO ⟨code,c.jA++[(b.text,c.free)],c.free+1⟩ m' {p with env:=p.env++[(b.text,f p.env v p.jG)]}:=λcode m m' p v d hr hs hv=>by
  refine⟨?_,λj j0 j1=>by rw[hs.jE j j0 (by omega) (by omega)];exact hr.jG j j0 j1,by rw[hs.jP];exact hr.jP⟩;unfold lu;rw[dF];have:=BA hf hs;unfold lu at this;rw[this];have h2:=hr.env;unfold lu at h2;rw[h2];show p.env++[(b.text,m'.get c.free)]=_;rw[hv,hr.val h.pq]
 simp only;rw[e1];simp only;rw[hwr,l2];by_cases hr:r=c.free
 .rw[jl hr];refine⟨fr,[(b.text,c.free)],rfl,by simp,LW _,hfit _,⟨x.ok,by show fr.jD<=z.jD+1;omega,xd,by show _<=z.jM+5;omega,x.low.wide (by show c.free+z.wide<=c.free+max z.wide 1;omega)⟩,?_⟩;intro v S jG k lp m p hv hS hd hll hlow MC ht;obtain⟨m',g1,g2,g3⟩:=wk v S jG k lp m hv hS hd hll hlow (MC.ty hf ht);exact⟨m',g1,hrep _ m m' p v _ MC g3 (by rw[<-hr];exact g2),g3.len,g3.uU,g3.left⟩
 .rw[jk hr];have hins:qN ⟨7,[c.free,r]⟩:=aau ⟨by omega,by omega⟩ ⟨x0,by omega⟩;have ho:rF 7:=by unfold rF;omega
  refine⟨fr.seq (Fr.ins ⟨7,[c.free,r]⟩),[(b.text,c.free)],?_,by simp,LW _,hfit _,⟨Fr.ug x.ok (Fr.wW hins (ji (by show(6:Int)<=7;omega)) false),by show fr.jD+1<=z.jD+1;omega,by show max fr.deep 0<=z.deep;omega,?_,?_⟩,?_⟩
  .simp only[Co.lay,Co.jZ,Co.know,Fr.seq,Fr.ins,nI,nk,l9,enc,aX,bY,eG]
   rfl
  .have:=Jf 7 c.free r ⟨by omega,by omega⟩ ⟨x0,by omega⟩;show((jX (fr.is++[⟨7,[c.free,r]⟩])).length:Int)<=z.jM+5;rw[nI,aA];omega
  .refine(x.low.wide (by show c.free+z.wide<=c.free+max z.wide 1;omega)).append (kY.one ⟨λ_=>?_,λ_=>?_,trivial⟩)
   .show c.free+1<=c.free+max z.wide 1;omega
   .show r+1<=c.free+max z.wide 1;omega
  .intro v S jG k lp m p hv hS hd hll hlow MC ht;have hd:lp.length+max fr.deep 0<=8:=hd;obtain⟨m1,g1,g2,g3⟩:=wk v S jG k lp m hv hS.left (by omega) hll hlow.left (MC.ty hf ht);have hg:=yh (v:=v) (jG:=jG) (m:=m1) (hS.right (x.ok.size k lp)).head (by show(6:Int)<=7;omega) (by show(7:Int)≠36;omega);rw[ho.work]at hg;have e7:outcome v 7 (m1.get r) 0=m1.get r:=by simp[outcome]
   rw[e7]at hg;have hlt:=(hlow.right ⟨7,[c.free,r]⟩ (by simp[Fr.ins])).1 rfl;have hs2:oC c.free (-1) lp.length m (m1.put c.free (m1.get r)):=g3.trans (xO (jh (aV _)) (by omega));exact⟨m1.put c.free (m1.get r),g1.trans hg,hrep _ m _ p v _ MC hs2 (by rw[vG _ _ _ (by omega) (by rw[g3.len];omega)];exact g2),hs2.len,hs2.uU,hs2.left⟩
theorem amZ{t:Int}{e:Ex}(h:QX t e)(a:Int)(b:Wd):QS (t+3) (uD a b e):=by
 obtain⟨z,f,h1,h2⟩:=h;have hl:=λck (hk:((uD a b e).does.look ck).en=0)=>amW h1 hk;refine⟨_,_,⟨λck hk=>⟨(hl ck hk).2.2,_,(hl ck hk).2.1⟩,ac6 h1.give h2.wide.1 hl,λ_=>ac6 h1.fold h2.wide.1 hl,λck v p p' hk ht hv hF=>?_,(λh=>by cases h),(λh=>by cases h)⟩,WT h2 rfl⟩;cases hF;obtain⟨l1,l2,l3⟩:=hl ck hk;rw[l2];obtain⟨y1,y2⟩:=h1.ty ck p.env v p.jG l1 ht hv;exact pJ.know ht y1 y2
def V9(f f':Val):mG:=λv p=>match v.sG (f p.env v p.jG),v.uH (f' p.env v p.jG)with
 |some r,some q=>if p.jP.length=256 then .inl none else .inr {p with jP:=p.jP++[(r.id,q.seq)]}
 |_,_=>.inr p
theorem aoS{a b:Int}(h0:0<=a/\a<2008)(h1:0<=b/\b<2008):qN ⟨36,[a,b]⟩:=
 ⟨⟨by show(0:Int)<=36;omega,by show(36:Int)<=36;omega⟩,a,[b],rfl,qV h0.1 h0.2,b,[],rfl,qV h1.1 h1.2,rfl⟩
theorem aey{P:Ck->Prop}{g g':Co->Int->Co×Int}{z z':Sz}{f f':Val}(h:Mx P g z f)(h':Mx P g' z' f')(hz:0<=z.wide/\0<=z'.wide)(lk:Ck->Ck)(hl:∀ck,(lk ck).en=0->P ck/\lk ck=ck):
 Ms lk (λc=>((g' (g c (-1)).1 (-1)).1.lay 36 [(g c (-1)).2,(g' (g c (-1)).1 (-1)).2]).jZ c.free) ⟨max (max z.wide (1+z'.wide)) 1,max z.deep z'.deep,z.jD+z'.jD+1,z.jM+z'.jM+5⟩ (V9 f f'):=by
 intro ck c hf hx hk hw;obtain⟨hP,l2⟩:=hl ck hk;have h8:=hf.free;have hw:c.free+max (max z.wide (1+z'.wide)) 1<=2008:=hw;obtain⟨fr,r,p,e,x,w⟩:=h.lay ck c (-1) hf hP (by omega) (ji rfl);have x1:=x.r1;have x0:=x.r0;have xf:=x.f2;have xg:=x.f1;have x3:=x.r3;obtain⟨fr',r',p',ee,x',w'⟩:=h'.lay ck ⟨c.code++jX fr.is,c.jA,p⟩ (-1) (hf.more xg) hP (by show p+z'.wide<=2008;omega) (ji rfl);have y1:=x'.r1;have y0:=x'.r0;have y3:r'<p\/r'<p+z'.wide:=x'.r3;have hins:=aoS ⟨x0,by omega⟩ ⟨y0,by omega⟩;have xn:=x.jD;have xn':=x'.jD;have xd:=x.deep;have xd':=x'.deep;have xl:=x.jM;have xl':=x'.jM;simp only;rw[e];simp only;rw[ee,l2];have hco:((⟨c.code++jX fr.is++jX fr'.is,c.jA,p'⟩:Co).lay 36 [r,r']).jZ c.free=⟨c.code++jX (fr.seq (fr'.seq (Fr.ins ⟨36,[r,r']⟩))).is,c.jA,c.free⟩:=by
  simp only[Co.lay,Co.jZ,Fr.seq,Fr.ins,nI,nk,l9,enc,aX,bY]
 simp only;rw[hco,yR];refine⟨fr.seq (fr'.seq (Fr.ins ⟨36,[r,r']⟩)),[],rfl,by simp,FN hx rfl,FT hf rfl,⟨Fr.ug x.ok (Fr.ug x'.ok (Fr.wW hins (ji (by show(6:Int)<=36;omega)) false)),by show fr.jD+(fr'.jD+1)<=z.jD+z'.jD+1;omega,by show max fr.deep (max fr'.deep 0)<=max z.deep z'.deep;omega,?_,?_⟩,?_⟩
 .have:=Jf 36 r r' ⟨x0,by omega⟩ ⟨y0,by omega⟩;show((jX (fr.is++(fr'.is++[⟨36,[r,r']⟩]))).length:Int)<=z.jM+z'.jM+5;rw[nI,nI,aA,aA];omega
 .refine(x.low.wide ?_).append ((x'.low.wide ?_).append (kY.one ⟨λ_=>?_,λ_=>?_,trivial⟩))
  .show c.free+z.wide<=c.free+max (max z.wide (1+z'.wide)) 1;omega
  .show p+z'.wide<=c.free+max (max z.wide (1+z'.wide)) 1;omega
  .show r+1<=c.free+max (max z.wide (1+z'.wide)) 1;omega
  .show r'+1<=c.free+max (max z.wide (1+z'.wide)) 1;omega
 .intro v S jG k lp m pp hv hS hd hll hlow hr ht;have hd:lp.length+max fr.deep (max fr'.deep 0)<=8:=hd;have ty0:=hr.ty hf ht;obtain⟨m1,g1,g2,g3⟩:=w v S jG k lp m hv hS.left (by omega) hll hlow.left ty0;have hS2:=hS.right (x.ok.size k lp);have t1:Ty ck ⟨c.code++jX fr.is,c.jA,p⟩ m1.get:=(Gx ty0 g3 hf).jA rfl;obtain⟨m2,q1,q2,q3⟩:=w' v S jG (k+fr.size) lp m1 hv hS2.left (by omega) (by rw[g3.uU];exact hll) (by rw[g3.len];exact hlow.right.left) t1;have q3:=q3;have hS3:=hS2.right (x'.ok.size (k+fr.size) lp);have hs2:oC c.free (-1) lp.length m m2:=g3.trans (q3.less xg (ji rfl) (aj _));have v1:m2.get r=f pp.env v pp.jG:=by rw[q3.jE r x0 x1 (by omega),g2,hr.val h.pq]
  have v2:m2.get r'=f' pp.env v pp.jG:=by
   rw[q2];show f' (lu c m1.get) v m1.get=_;rw[aat h'.pq hf g3,hr.val h'.pq]
  have hac:m2.jP=pp.jP:=by rw[hs2.jP];exact hr.jP
  have hrep:∀jP,uO ⟨c.code++jX (fr.seq (fr'.seq (Fr.ins ⟨36,[r,r']⟩))).is,c.jA,c.free⟩ {m2 with jP:=jP} {pp with jP:=jP}:=λjP=>
   ⟨by show lu c m2.get=pp.env;rw[BA hf hs2];exact hr.env,λj j0 j1=>by show m2.get j=pp.jG j;rw[hs2.jE j j0 (by omega) (by omega)];exact hr.jG j j0 j1,rfl⟩
  have hstep:Hx.step v S jG (k+fr.size+fr'.size) (stepOf ⟨36,[r,r']⟩) m2=match push v (m2.get r) (m2.get r') m2 with
   |none=>.inl ⟨1,jG,[]⟩
   |some m'=>.inr (((k+fr.size+fr'.size:Nat):Int)+1,m'):=by
   unfold Hx.step;rw[jk (by show¬(36:Int)=1;omega),jk (by show¬(36:Int)=2;omega),jk (by show¬(36:Int)=3;omega),jk (by show¬(36:Int)=4;omega),jk (by show¬(36:Int)=5;omega),jk (by show¬(36:Int)=0;omega),jl (by rfl)]
   rfl
  have hhead:=hS3.head;have hsz:k+(fr.seq (fr'.seq (Fr.ins ⟨36,[r,r']⟩))).size=k+fr.size+fr'.size+1:=by
   show k+(fr.size+(fr'.size+1))=_;omega
  rw[hsz,<-yR];have hpre:=g1.trans q1;unfold V9;unfold push at hstep;rw[v1,v2]at hstep;refine wP.before ?_ hpre hs2.len hs2.uU hs2.left;cases hrd:v.sG (f pp.env v pp.jG)with
  |none=>
   rw[hrd]at hstep;simp only at hstep⊢;exact⟨m2,Ac hhead (by rw[hstep];rfl),⟨(hrep pp.jP).env,(hrep pp.jP).jG,hac⟩,rfl,rfl,λ_ _=>rfl⟩
  |some rd=>
   rw[hrd]at hstep;cases hpk:v.uH (f' pp.env v pp.jG)with
   |none=>
    rw[hpk]at hstep;simp only at hstep⊢;exact⟨m2,Ac hhead (by rw[hstep];rfl),⟨(hrep pp.jP).env,(hrep pp.jP).jG,hac⟩,rfl,rfl,λ_ _=>rfl⟩
   |some pk=>
    rw[hpk]at hstep;simp only at hstep⊢;rw[hac]at hstep;by_cases h256:pp.jP.length=256
    .rw[jl h256]at hstep⊢;exact WL hhead hstep
    .rw[jk h256]at hstep⊢;exact⟨{m2 with jP:=pp.jP++[(rd.id,pk.seq)]},Ac hhead (by rw[hstep];rfl),hrep _,rfl,rfl,λ_ _=>rfl⟩
theorem ao1{t t':Int}{e f:Ex}(he:QX t e)(hf:QX t' f)(a:Int):QS (t+t'+3) (vU a e f):=by
 obtain⟨z,v1,h1,h2⟩:=he;obtain⟨z',v2,k1,k2⟩:=hf;have hl:∀ck,((vU a e f).does.look ck).en=0->(kZ e ck/\kZ f ck)/\(vU a e f).does.look ck=ck:=λck hk=>by
  have e0:(vU a e f).does.look ck=(f.does.look ((e.does.look ck).want (e.does.jU ck.jA) e.at' 3)).want (f.does.jU ((e.does.look ck).want (e.does.jU ck.jA) e.at' 3).jA) f.at' 4:=rfl;rw[e0]at hk;obtain⟨_,q2,q3⟩:=zQ hk;have q4:=k1.look _ q3;have q5:((e.does.look ck).want (e.does.jU ck.jA) e.at' 3).en=0:=by
   have q3':=q3;rw[q4]at q3';exact q3'
  obtain⟨_,q6,q7⟩:=zQ q5;have q8:=h1.look ck q7;rw[q6,q8]at q3 q4;rw[e0,q2,q6,q8];exact⟨⟨q7,q3⟩,q4⟩
 have w1:=h2.wide;have w2:=k2.wide;refine⟨_,_,⟨λck hk=>JB (hl ck hk).2 hk,aey (P:=λck=>kZ e ck/\kZ f ck) (h1.give.of λck hk=>hk.1) (k1.give.of λck hk=>hk.2) ⟨w1.1,w2.1⟩ _ hl,λ_=>aey (P:=λck=>kZ e ck/\kZ f ck) (h1.fold.of λck hk=>hk.1) (k1.fold.of λck hk=>hk.2) ⟨w1.1,w2.1⟩ _ hl,λck v p p' hk ht hv hF=>?_,(λh=>by cases h),(λh=>by cases h)⟩,?_⟩
 .rw[(hl ck hk).2];unfold V9 at hF;split at hF
  .split at hF
   .cases hF
   .cases hF;exact ht
  .cases hF;exact ht
 .have l1:=h2.jM;have l2:=k2.jM;have n1:=h2.jD;have n2:=k2.jD;have t1:=h2.tok;have t2:=k2.tok;have c1:=h2.jy;have c2:=k2.jy;refine⟨by omega,⟨by show 1<=max (max z.wide (1+z'.wide)) 1;omega,by show 2 * max (max z.wide (1+z'.wide)) 1<=t+t'+3;omega⟩,⟨by show 0<=z.jM+z'.jM+5;omega,by show z.jM+z'.jM+5<=20 * (t+t'+3);omega⟩,by show 0<=z.jD+z'.jD+1;omega,⟨xK (by simp;exact⟨c1,c2⟩),(rC c1 c2).2⟩,λhk=>?_⟩;have hk:jS [e.jy,f.jy]<=1000000:=hk;have hp:=zJ c1.1 c1.2 c2.1 c2.2 hk;obtain⟨a1,a2⟩:=h2.all (by omega);obtain⟨b1,b2⟩:=k2.all (by omega);show z.jD+z'.jD+1<=40 * jS [e.jy,f.jy]/\((8^max z.deep z'.deep:Nat):Int)<=jS [e.jy,f.jy]+1;rw[hp];refine⟨by omega,?_⟩;rcases gX z.deep z'.deep with hh|hh
  .rw[gG hh];omega
  .rw[gV hh];omega
theorem apS(a:Int):QS 2 (yC a):=by
 have hm:Ms (yC a).does.look (λc=>c.lay 1 []) ⟨1,0,1,1⟩ (λ_ p=>.inl (some p)):=by
  intro ck c hf hx hk hw;have hins:qN ⟨1,[]⟩:=⟨⟨by decide,by decide⟩,rfl⟩;have hco:c.lay 1 []=⟨c.code++jX (Fr.ins ⟨1,[]⟩).is,c.jA,c.free⟩:=by simp only[Co.lay,Fr.ins,nk,l9,enc,aX]
  simp only;rw[hco,yR];refine⟨Fr.ins ⟨1,[]⟩,[],rfl,by simp,FN hx rfl,FT hf rfl,⟨Fr.wW hins (jh rfl) false,aV _,aj _,by decide,kY.one trivial⟩,?_⟩;intro v S jG k lp m p hv hS hd hll hlow hr ht;refine⟨⟨0,m.jE,m.jP⟩,WL hS.head ?_,rfl,λi hi=>?_,hr.jP⟩
  .unfold Hx.step;rw[jl (by rfl)]
  .have:=hr.jG (i:Int) (by omega) (by omega);rw[<-this];unfold Mc.get;rw[bK]
 refine⟨_,_,⟨λck hk=>JB rfl hk,hm,λ_=>hm,λck v p p' hk ht hv hF=>(by cases hF),(λh=>by cases h),λ_ ck v p _ _ _=>⟨_,rfl⟩⟩,⟨by decide,by decide,by decide,by decide,by show(1:Int)<=1/\(1:Int)<=1000001;decide,λ_=>by show(1:Int)<=40 * 1/\((8^0:Nat):Int)<=1+1;decide⟩⟩
def oZ:List mG->mG
 |[],_,p=>.inr p
 |F::Fs,v,p=>match F v p with
  | .inl r=>.inl r
  | .inr p'=>oZ Fs v p'
def qX:List jK->List (Sz×mG)->Int->Prop
 |[],zs,t=>zs=[]/\t=0
 |s::l,zs,t=>∃z F zs' ts t',zs=(z,F)::zs'/\MS s z F/\Oh ts s z/\t=ts+t'/\qX l zs' t'
theorem ac2:∀{l:List jK}{zs:List (Sz×mG)}{t:Int}{s:jK}{z:Sz}{F:mG}{ts:Int},qX l zs t->MS s z F->Oh ts s z->qX (l++[s]) (zs++[(z,F)]) (t+ts)
 |[],_,_,s,z,F,ts,⟨h1,h2⟩,hm,hs=>by
  subst h1 h2;exact⟨z,F,[],ts,0,rfl,hm,hs,by omega,rfl,rfl⟩
 |c::l,_,_,s,z,F,ts,⟨z',F',zs',ts',t',h1,h2,h3,h4,h5⟩,hm,hs=>by
  subst h1 h4;exact⟨z',F',zs'++[(z,F)],ts',t'+ts,rfl,h2,h3,by omega,ac2 h5 hm hs⟩
def kC:List (Sz×mG)->Sz
 |[]=>⟨0,0,0,0⟩
 |p::zs=>⟨max p.1.wide (1+(kC zs).wide),max p.1.deep (kC zs).deep,p.1.jD+(kC zs).jD,p.1.jM+(kC zs).jM⟩
structure ag5(l:List jK)(zs:List (Sz×mG))(t:Int):Prop where
 tok:0<=t
 wide:0<=(kC zs).wide/\2 * (kC zs).wide<=t
 jM:0<=(kC zs).jM/\(kC zs).jM<=20 * t
 jD:0<=(kC zs).jD
 jy:0<=lQ l
 pos:∀s∈l,1<=s.jy/\s.jy<=1000001
 all:lQ l<=1000000->(kC zs).jD<=40 * lQ l/\((8^(kC zs).deep:Nat):Int)<=lQ l+1
theorem Ig:∀{l:List jK}{zs:List (Sz×mG)}{t:Int},qX l zs t->ag5 l zs t
 |[],_,_,⟨h1,h2⟩=>by
  subst h1 h2;exact⟨by omega,by decide,by decide,by decide,by simp[lQ],by simp,λ_=>by simp[kC,lQ]⟩
 |s::l,_,_,⟨z,F,zs,ts,t',h1,h2,h3,h4,h5⟩=>by
  subst h1 h4;have q:=Ig h5;have a1:=q.tok;have a2:=q.wide;have a3:=q.jM;have a4:=q.jD;have a5:=q.jy;have b1:=h3.tok;have b2:=h3.wide;have b3:=h3.jM;have b4:=h3.jD;have b5:=h3.jy;have e1:lQ (s::l)=s.jy+lQ l:=by simp[lQ]
  refine⟨by omega,⟨by show 0<=max z.wide (1+(kC zs).wide);omega,by show 2 * max z.wide (1+(kC zs).wide)<=ts+t';omega⟩,⟨by show 0<=z.jM+(kC zs).jM;omega,by show z.jM+(kC zs).jM<=_;omega⟩,by show 0<=z.jD+(kC zs).jD;omega,by omega,λx hx=>?_,λhc=>?_⟩
  .rcases dh.1 hx with rfl|hx
   .exact b5
   .exact q.pos x hx
  .obtain⟨c1,c2⟩:=q.all (by omega);obtain⟨d1,d2⟩:=h3.all (by omega);refine⟨by show z.jD+(kC zs).jD<=_;omega,?_⟩;show((8^max z.deep (kC zs).deep:Nat):Int)<=_;rcases gX z.deep (kC zs).deep with hh|hh
   .rw[gG hh];omega
   .rw[gV hh];omega
theorem F6{c c':Co}{d:Nat}{v:Vw}{S:List St}{jG:List Int}{k:Nat}{m:Mc}{lC alU:Nat}{r:Option oz}(h:wP c d v S jG k m lC (.inl r)):wP c' d v S jG k m alU (.inl r):=by
 cases r with
 |none=>exact h
 |some p=>exact h
theorem Zn{ck ck1:Ck}{c c1 c2:Co}{fr fr':Fr}{F G:mG}(h:yG ck c c1 fr F)(h':yG ck1 c1 c2 fr' G)(hok:fr.Ok false)(hty:∀v p p',nO ck p->nH v->F v p=.inr p'->nO ck1 p'):yG ck c c2 (fr.seq fr') (λv p=>match F v p with| .inl r=>.inl r| .inr p'=>G v p'):=by
 intro v S jG k lp m p hv hS hd hll hlow hr ht;have hd:lp.length+max fr.deep fr'.deep<=8:=hd;have h1:=h v S jG k lp m p hv hS.left (by omega) hll hlow.left hr ht;have hsz:k+(fr.seq fr').size=k+fr.size+fr'.size:=by
  show k+(fr.size+fr'.size)=_;omega
 rw[hsz];simp only;cases hF:F v p with
 |inl r=>
  rw[hF]at h1;exact F6 h1
 |inr p1=>
  rw[hF]at h1;obtain⟨m1,g1,g2,g3,g4,g5⟩:=h1;exact(h' v S jG (k+fr.size) lp m1 p1 hv (hS.right (hok.size k lp)) (by omega) (by rw[g4];exact hll) (by rw[g3];exact hlow.right) g2 (hty v p p1 ht hv hF)).before g1 g3 g4 g5
theorem JA(s:jK)(l:List jK)(ck:Ck):oG (s::l) ck=oG l (s.does.look ck):=rfl
theorem F8:∀{l:List jK}{zs:List (Sz×mG)}{t:Int},qX l zs t->∀ck,(oG l ck).en=0->ck.en=0/\∃more,oG l ck=⟨ck.jA++more,ck.en,ck.ea⟩
 |[],_,_,_,ck,h=>⟨h,[],by show ck=_;simp⟩
 |s::l,_,_,⟨z,F,zs,ts,t',h1,h2,h3,h4,h5⟩,ck,h=>by
  rw[JA]at h⊢;obtain⟨a1,m1,a2⟩:=F8 h5 _ h;obtain⟨b1,m2,b2⟩:=h2.look ck a1;refine⟨b1,m2++m1,?_⟩;rw[a2,b2];simp
theorem ae3:∀{l:List jK}{zs:List (Sz×mG)}{t:Int},qX l zs t->∀ck v p p',(oG l ck).en=0->nO ck p->nH v->oZ (zs.map (·.2)) v p=.inr p'->nO (oG l ck) p'
 |[],_,_,⟨h1,_⟩,ck,v,p,p',_,ht,_,hF=>by
  subst h1;cases hF;exact ht
 |s::l,_,_,⟨z,F,zs,ts,t',h1,h2,h3,h4,h5⟩,ck,v,p,p',hk,ht,hv,hF=>by
  subst h1;rw[JA]at hk⊢;have hs:=(F8 h5 _ hk).1;simp only[dL,oZ]at hF;cases hq:F v p with
  |inl r=>rw[hq]at hF;cases hF
  |inr p1=>
   rw[hq]at hF;exact ae3 h5 _ v p1 p' hk (h2.ty ck v p p1 hs ht hv hq) hv hF
theorem ae2:∀{l:List jK}{zs:List (Sz×mG)}{t:Int},qX l zs t->∀(ck:Ck)(c:Co),Fit ck c->Ctx c->(oG l ck).en=0->c.free+(kC zs).wide<=2008->
 ∃(fr:Fr)(more:List (jm×Int)),qP l c=⟨c.code++jX fr.is,c.jA++more,c.free+more.length⟩/\Xt c (kC zs) fr/\yG ck c (qP l c) fr (oZ (zs.map (·.2)))
 |[],_,_,⟨h1,_⟩,ck,c,hf,hx,hk,hw=>by
  subst h1;refine⟨Fr.nil,[],by show c=_;simp[Fr.nil,l9],⟨Fr.Nj false,aV _,aj _,by simp[Fr.nil,l9,kC],kY.nil _⟩,?_⟩;intro v S jG k lp m p hv hS hd hll hlow hr ht;exact⟨m,Reaches.refl _ _ _ _ _,hr,rfl,rfl,λ_ _=>rfl⟩
 |s::l,_,_,⟨z,F,zs,ts,t',h1,h2,h3,h4,h5⟩,ck,c,hf,hx,hk,hw=>by
  subst h1;rw[JA]at hk;have hs:=(F8 h5 _ hk).1;have hw:c.free+max z.wide (1+(kC zs).wide)<=2008:=hw;obtain⟨fr,more,q1,q2,q3,q4,q5,q6⟩:=h2.lay ck c hf hx hs (by omega);have hfree:(s.does.lay c).free=c.free+more.length:=by rw[q1]
  obtain⟨fr',more',r1,r2,r3⟩:=ae2 h5 (s.does.look ck) (s.does.lay c) q4 q3 hk (by rw[hfree];omega);have e0:qP (s::l) c=qP l (s.does.lay c):=rfl;have n1:=q5.jD;have n2:=r2.jD;have d1:=q5.deep;have d2:=r2.deep;have l1:=q5.jM;have l2:=r2.jM;refine⟨fr.seq fr',more++more',?_,⟨Fr.ug q5.ok r2.ok,by show fr.jD+fr'.jD<=z.jD+(kC zs).jD;omega,by show max fr.deep fr'.deep<=max z.deep (kC zs).deep;omega,?_,(q5.low.wide ?_).append (r2.low.wide ?_)⟩,?_⟩
  .rw[e0,r1,q1];simp only[Fr.seq,nI,bY,aA,iE,iR]
  .show((jX (fr.is++fr'.is)).length:Int)<=z.jM+(kC zs).jM;rw[nI,aA];omega
  .show c.free+z.wide<=c.free+max z.wide (1+(kC zs).wide);omega
  .rw[hfree];show c.free+more.length+(kC zs).wide<=c.free+max z.wide (1+(kC zs).wide);omega
  .rw[e0];have:=Zn q6 r3 q5.ok (λv p p' ht hv hF=>h2.ty ck v p p' hs ht hv hF);exact this
theorem WC:∀{l:List jK}{zs:List (Sz×mG)}{t:Int},qX l zs t->∀(ck:Ck)(c:Co),Fit ck c->Ctx c->(oG l ck).en=0->c.free+(kC zs).wide<=2008->
 ∃(fr:Fr)(more:List (jm×Int)),qP (kS l) c=⟨c.code++jX fr.is,c.jA++more,c.free+more.length⟩/\Xt c (kC zs) fr/\yG ck c (qP (kS l) c) fr (oZ (zs.map (·.2)))
 |[],_,_,⟨h1,_⟩,ck,c,hf,hx,hk,hw=>by
  subst h1;refine⟨Fr.nil,[],by show c=_;simp[Fr.nil,l9],⟨Fr.Nj false,aV _,aj _,by simp[Fr.nil,l9,kC],kY.nil _⟩,?_⟩;intro v S jG k lp m p hv hS hd hll hlow hr ht;exact⟨m,Reaches.refl _ _ _ _ _,hr,rfl,rfl,λ_ _=>rfl⟩
 |s::l,_,_,⟨z,F,zs,ts,t',h1,h2,h3,h4,h5⟩,ck,c,hf,hx,hk,hw=>by
  subst h1;rw[JA]at hk;have hs:=(F8 h5 _ hk).1;have hw:c.free+max z.wide (1+(kC zs).wide)<=2008:=hw;have b2:=h3.wide;have b3:=h3.jM;have b4:=h3.jD;have qf:=Ig h5;have a2:=qf.wide;have a3:=qf.jM;have a4:=qf.jD;have hz1:∀{c:Co}{fr:Fr},Xt c (kC zs) fr->Xt c (kC ((z,F)::zs)) fr:=λhx=>hx.grow (by show(kC zs).wide<=max z.wide (1+(kC zs).wide);omega) (by show(kC zs).deep<=max z.deep (kC zs).deep;omega) (by show(kC zs).jD<=z.jD+(kC zs).jD;omega) (by show(kC zs).jM<=z.jM+(kC zs).jM;omega);have hz2:∀{c:Co}{fr:Fr},Xt c z fr->Xt c (kC ((z,F)::zs)) fr:=λhx=>hx.grow (by show z.wide<=max z.wide (1+(kC zs).wide);omega) (by show z.deep<=max z.deep (kC zs).deep;omega) (by show z.jD<=z.jD+(kC zs).jD;omega) (by show z.jM<=z.jM+(kC zs).jM;omega);cases hi:s.does.fs.idle with
  |true=>
   obtain⟨i1,i2⟩:=h2.idle hi ck hs;rw[i1]at hk;obtain⟨fr,more,q1,q2,q3⟩:=WC h5 ck c hf hx hk (by omega);have e0:kS (s::l)=kS l:=by
    show(if s.does.fs.idle then kS l else if s.does.fs.ends then [s.uq]else s.uq::kS l)=_;rw[hi]
    rfl
   rw[e0];refine⟨fr,more,q1,hz1 q2,?_⟩;intro v S jG k lp m p hv hS hd hll hlow hr ht;have:=q3 v S jG k lp m p hv hS hd hll hlow hr ht;simp only[dL,oZ];rw[i2 v p ht hv];exact this
  |false=>
   cases he:s.does.fs.ends with
   |true=>
    have e0:kS (s::l)=[s.uq]:=by
     show(if s.does.fs.idle then kS l else if s.does.fs.ends then [s.uq]else s.uq::kS l)=_;rw[hi,he]
     rfl
    rw[e0];obtain⟨fr,more,q1,q2,q3,q4,q5,q6⟩:=h2.fold hi ck c hf hx hs (by omega);refine⟨fr,more,q1,hz2 q5,?_⟩;intro v S jG k lp m p hv hS hd hll hlow hr ht;have h1:=q6 v S jG k lp m p hv hS hd hll hlow hr ht;obtain⟨r,hr'⟩:=h2.ends he ck v p hs ht hv;simp only[dL,oZ];rw[hr']at h1⊢;exact F6 h1
   |false=>
    have e0:kS (s::l)=s.uq::kS l:=by
     show(if s.does.fs.idle then kS l else if s.does.fs.ends then [s.uq]else s.uq::kS l)=_;rw[hi,he]
     rfl
    rw[e0];obtain⟨fr,more,q1,q2,q3,q4,q5,q6⟩:=h2.fold hi ck c hf hx hs (by omega);have hfree:(s.does.fs.lay c).free=c.free+more.length:=by rw[q1]
    obtain⟨fr',more',r1,r2,r3⟩:=WC h5 (s.does.look ck) (s.does.fs.lay c) q4 q3 hk (by rw[hfree];omega);have e1:qP (s.uq::kS l) c=qP (kS l) (s.does.fs.lay c):=rfl;have n1:=q5.jD;have n2:=r2.jD;have d1:=q5.deep;have d2:=r2.deep;have l1:=q5.jM;have l2:=r2.jM;refine⟨fr.seq fr',more++more',?_,⟨Fr.ug q5.ok r2.ok,by show fr.jD+fr'.jD<=z.jD+(kC zs).jD;omega,by show max fr.deep fr'.deep<=max z.deep (kC zs).deep;omega,?_,(q5.low.wide ?_).append (r2.low.wide ?_)⟩,?_⟩
    .rw[e1,r1,q1];simp only[Fr.seq,nI,bY,aA,iE,iR]
    .show((jX (fr.is++fr'.is)).length:Int)<=z.jM+(kC zs).jM;rw[nI,aA];omega
    .show c.free+z.wide<=c.free+max z.wide (1+(kC zs).wide);omega
    .rw[hfree];show c.free+more.length+(kC zs).wide<=c.free+max z.wide (1+(kC zs).wide);omega
    .rw[e1];have:=Zn q6 r3 q5.ok (λv p p' ht hv hF=>h2.ty ck v p p' hs ht hv hF);exact this
theorem ae1:∀{l:List jK}{zs:List (Sz×mG)}{t:Int},qX l zs t->kS l=[]->∀ck v p,(oG l ck).en=0->nO ck p->nH v->oZ (zs.map (·.2)) v p=.inr p
 |[],_,_,⟨h1,_⟩,_,ck,v,p,_,_,_=>by
  subst h1
  rfl
 |s::l,_,_,⟨z,F,zs,ts,t',h1,h2,h3,h4,h5⟩,he,ck,v,p,hk,ht,hv=>by
  subst h1;rw[JA]at hk;have hs:=(F8 h5 _ hk).1;have he:(if s.does.fs.idle then kS l else if s.does.fs.ends then [s.uq]else s.uq::kS l)=[]:=he;cases hi:s.does.fs.idle with
  |true=>
   rw[hi]at he;obtain⟨i1,i2⟩:=h2.idle hi ck hs;simp only[dL,oZ];rw[i2 v p ht hv];rw[i1]at hk;exact ae1 h5 he ck v p hk ht hv
  |false=>
   rw[hi]at he;simp only[aH,cZ]at he;split at he<;>cases he
theorem WB:∀{l:List jK}{zs:List (Sz×mG)}{t:Int},qX l zs t->uy (kS l)=true->∀ck v p,(oG l ck).en=0->nO ck p->nH v->∃r,oZ (zs.map (·.2)) v p=.inl r
 |[],_,_,_,he,ck,v,p,_,_,_=>by cases he
 |s::l,_,_,⟨z,F,zs,ts,t',h1,h2,h3,h4,h5⟩,he,ck,v,p,hk,ht,hv=>by
  subst h1;rw[JA]at hk;have hs:=(F8 h5 _ hk).1;have he:uy (if s.does.fs.idle then kS l else if s.does.fs.ends then [s.uq]else s.uq::kS l)=true:=he;simp only[dL,oZ];cases hi:s.does.fs.idle with
  |true=>
   rw[hi]at he;obtain⟨i1,i2⟩:=h2.idle hi ck hs;rw[i2 v p ht hv];rw[i1]at hk;exact WB h5 he ck v p hk ht hv
  |false=>
   rw[hi]at he;simp only[aH,cZ]at he;cases hF:F v p with
   |inl r=>exact⟨r,rfl⟩
   |inr p1=>
    cases hn:s.does.fs.ends with
    |true=>
     obtain⟨r,hr⟩:=h2.ends hn ck v p hs ht hv;rw[hF]at hr;cases hr
    |false=>
     rw[hn]at he;simp only[aH,cZ]at he;refine WB h5 ?_ _ v p1 hk (h2.ty ck v p p1 hs ht hv hF) hv;cases hfl:kS l with
     |nil=>
      rw[hfl]at he;have:uy [s.uq]=s.does.fs.ends:=rfl;rw[this,hn]at he;cases he
     |cons a b=>
      rw[hfl]at he;unfold uy at he⊢;rw[List.getLast?_cons_cons]at he;exact he
end
end Go.Proofs.YthllhabjfchgiaaGreatDoor
