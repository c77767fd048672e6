import Derived.Test.YthllhabjfchgiaaGreatDoorHk20
import Derived.Laws.Bits64
set_option maxRecDepth 100000
set_option maxHeartbeats 8000000
set_option linter.unusedSimpArgs false
namespace Go.Proofs.YthllhabjfchgiaaGreatDoor
open _root_.Go.Proofs.Tryz
section
open Go.RowKit Hx
structure Fit(ck:Ck)(c:Co):Prop where
 en:ck.en=0
 jy:ck.jy.map (λk=>k.name.data.toList)=c.jy.map (λn=>n.1.data.toList)
 jD:∀n∈c.jy,0<=n.2/\n.2<c.free
 free:8<=c.free
structure Ty(ck:Ck)(c:Co)(σ:Int->Int):Prop where
 jF:∀i,0<=i->i<8->jJ (σ i)
 num:∀n∈c.jy,jJ (σ n.2)
 kW:∀(j:Nat)(k:Kn)(n:ji×Int),ck.jy[j]? =some k->c.jy[j]? =some n->k.kind=2->σ n.2=0\/σ n.2=1
structure Sz where
 wide:Int
 deep:Nat
 jC:Int
 jL:Int
abbrev Val:=List (ji×Int)->Vw->(Int->Int)->Int
def lS(c:Co)(σ:Int->Int):List (ji×Int):=c.jy.map λn=>(n.1,σ n.2)
structure Xs(c:Co)(z:Sz)(fr:Fr)(r free':Int):Prop where
 f1:c.free<=free'
 f2:free'<=c.free+1
 r0:0<=r
 r1:r<free'
 r3:r<c.free\/r<c.free+z.wide
 ok:fr.Ok false
 jC:fr.jC<=z.jC
 deep:fr.deep<=z.deep
 jL:((jU fr.is).length:Int)<=z.jL
 low:lG fr.is (c.free+z.wide)
def nM(v:Vw):Prop:=v.Dt/\v.small
def ahO(ck:Ck)(c:Co)(into:Int)(fr:Fr)(r:Int)(f:Val):Prop:=
 ∀(v:Vw)(S:List St)(jF:List Int)(k:Nat)(lp:List Int)(m:Mc),nM v->uz S k (fr.jB k lp)->lp.length+fr.deep<=8->m.left.length=8->lG fr.is m.jD.length->Ty ck c m.get->
  ∃m',Reaches v S jF k m (k+fr.size) m'/\m'.get r=f (lS c m.get) v m.get/\oP c.free into lp.length m m'
def Zv(c:Co)(into:Int):Prop:=into= -1\/(0<=into/\into<c.free)
def uy(f:Val):Prop:=∀(e:List (ji×Int))(v:Vw)(σ τ:Int->Int),(∀i,0<=i->i<8->σ i=τ i)->f e v σ=f e v τ
structure Mx(P:Ck->Prop)(g:Co->Int->Co×Int)(z:Sz)(f:Val):Prop where
 pJ:uy f
 lay:∀(ck:Ck)(c:Co)(into:Int),Fit ck c->P ck->c.free+z.wide<=2008->Zv c into->
  ∃(fr:Fr)(r free':Int),g c into=(⟨c.code++jU fr.is,c.jy,free'⟩,r)/\Xs c z fr r free'/\ahO ck c into fr r f
theorem Mx.of{P P':Ck->Prop}{g:Co->Int->Co×Int}{z:Sz}{f:Val}(h:Mx P g z f)(hp:∀ck,P' ck->P ck):Mx P' g z f:=⟨h.pJ,λck c into hf hP=>h.lay ck c into hf (hp ck hP)⟩
theorem Mx.grow{P:Ck->Prop}{g:Co->Int->Co×Int}{z z':Sz}{f:Val}(h:Mx P g z f)(h1:z.wide<=z'.wide)(h2:z.deep<=z'.deep)(h3:z.jC<=z'.jC)(h4:z.jL<=z'.jL):Mx P g z' f:=⟨h.pJ,λck c into hf hP hw hi=>by
 obtain⟨fr,r,f',e,x,w⟩:=h.lay ck c into hf hP (by omega) hi;exact⟨fr,r,f',e,⟨x.f1,x.f2,x.r0,x.r1,by have:=x.r3;omega,x.ok,by have:=x.jC;omega,by have:=x.deep;omega,by have:=x.jL;omega,x.low.wide (by omega)⟩,w⟩⟩
theorem NT(x:Int)(h:jJ x):wrap64 x=x:=by unfold jJ at h;unfold wrap64;omega
theorem MG(c:Co)(h0:0<=c.free)(h1:c.free<=1000000):c.hold=(c.jX (c.free+1),c.free):=by
 unfold Co.hold;rw[NT (c.free+1) (by unfold jJ;omega),NT _ (by unfold jJ;omega)]
 congr 1
 omega
theorem Oy(c:Co)(into:Int)(h0:0<=c.free)(h1:c.free<=1000000)(hi:Zv c into):∃r f',c.choose into=(⟨c.code,c.jy,f'⟩,r)/\c.free<=f'/\f'<=c.free+1/\0<=r/\r<f'/\(r=into\/c.free<=r):=by
 unfold Co.choose;rcases hi with h|⟨h2,h3⟩
 .rw[jh h,MG c h0 h1];exact⟨c.free,c.free+1,rfl,by omega,by omega,by omega,by omega,je (by omega)⟩
 .rw[jg (by omega)];exact⟨into,c.free,rfl,by omega,by omega,h2,h3,jf rfl⟩
theorem Tz(f:Nat):∀(k r:Nat),r<128^(k+1)->k<=f->(qE f r).length<=k+1:=by
 induction f with
 |zero=>intro k r _ _;simp[qE]
 |succ f ih=>
  intro k r hr hk;unfold qE;split
  .rename_i h;cases k with
   |zero=>omega
   |succ k=>
    have:=ih k (r/128) (by
     rw[iV]at hr;exact Nat.div_lt_of_lt_mul (by rw[Nat.mul_comm];exact hr)) (by omega)
    simp only[aF];omega
  .simp
theorem xI(n:Int)(h0:0<=n)(h1:n<2008):(pV n).length<=2:=by
 refine Tz 9 1 _ ?_ (by omega);unfold ru;rw[jg (by omega)];omega
theorem ac3(n:Int)(h0:0<=n)(h1:n<3):(pV n).length<=1:=by
 refine Tz 9 0 _ ?_ (by omega);unfold ru;rw[jg (by omega)];omega
theorem aow(n:Int):(pV n).length<=10:=by
 refine Tz 9 9 _ ?_ (by omega);have:=YV n;omega
theorem rb{n:Int}(h0:0<=n)(h1:n<2008):Zy 115 n:=⟨by unfold jJ;omega,λ_=>⟨h0,h1⟩,λh=>by cases h⟩
theorem Je(o a b:Int)(ha:0<=a/\a<2008)(hb:0<=b/\b<2008):((jU [⟨o,[a,b]⟩]).length:Int)<=5:=by
 have:=xI a ha.1 ha.2;have:=xI b hb.1 hb.2;simp only[ny,mF,enc,aX,aF,c8,dJ,aA];omega
theorem aaS(o a b d:Int)(ha:0<=a/\a<2008)(hb:0<=b/\b<2008)(hd:0<=d/\d<2008):((jU [⟨o,[a,b,d]⟩]).length:Int)<=7:=by
 have:=xI a ha.1 ha.2;have:=xI b hb.1 hb.2;have:=xI d hd.1 hd.2;simp only[ny,mF,enc,aX,aF,c8,dJ,aA];omega
theorem Nb(P:Ck->Prop)(n:Int)(hn:jJ n):Mx P (wO n) ⟨1,0,1,13⟩ (λ_ _ _=>n):=by
 refine⟨λ_ _ _ _ _=>rfl,?_⟩;intro ck c into hf hP hw hi;have h8:=hf.free;have hw:c.free+1<=2008:=hw;obtain⟨r,f',e,e1,e2,e3,e4,e5⟩:=Oy c into (by omega) (by omega) hi;have hins:rC ⟨6,[r,n]⟩:=⟨⟨by show(0:Int)<=6;omega,by show(6:Int)<=36;omega⟩,r,[n],rfl,rb e3 (by omega),n,[],rfl,⟨hn,(λh=>by cases h),λh=>by cases h⟩,rfl⟩;refine⟨Fr.ins ⟨6,[r,n]⟩,r,f',?_,⟨e1,e2,e3,e4,je (by show r<c.free+1;omega),Fr.xu hins (jf (by show(6:Int)<=6;omega)) false,aV _,aj _,?_,?_⟩,?_⟩
 .unfold wO;rw[e];simp[Co.lay,Fr.ins,ny,mF,enc]
 .have:=xI r e3 (by omega);have:=aow n;simp only[Fr.ins,ny,mF,enc,aX,aF,c8,dJ,aA];omega
 .exact lG.one ⟨λ_=>by show r+1<=c.free+1;omega,(λh=>by cases h),trivial⟩
 .intro v S jF k lp m _ hS _ _ hl _;have hg:=yB (v:=v) (jF:=jF) (m:=m) (i:=⟨6,[r,n]⟩) hS.head (by show(6:Int)<=6;omega) (by show(6:Int)≠36;omega);refine⟨m.put r n,hg,vN m r n e3 ?_,yj e5 e3⟩;have:=(hl ⟨6,[r,n]⟩ (by simp[Fr.ins])).1 rfl;omega
theorem af2(P:Ck->Prop)(slot:List (ji×Int)->Int)(f:Val)(hc:uy f)(h:∀ck c,Fit ck c->P ck->0<=slot c.jy/\slot c.jy<c.free/\∀v σ,f (lS c σ) v σ=σ (slot c.jy)):Mx P (λc _=>(c,slot c.jy)) ⟨0,0,0,0⟩ f:=by
 refine⟨hc,?_⟩;intro ck c into hf hP hw hi;obtain⟨h1,h2,h3⟩:=h ck c hf hP;refine⟨Fr.nil,slot c.jy,c.free,?_,⟨aV _,by omega,h1,h2,jf h2,Fr.Nq false,aV _,aj _,by simp[Fr.nil,mF],lG.nil _⟩,?_⟩
 .simp[Fr.nil,mF]
 .intro v S jF k lp m _ _ _ _ _ _;exact⟨m,Reaches.refl _ _ _ _ _,(h3 v m.get).symm,oP.refl _ _ _ _⟩
def rO(o:Int):Prop:=o=7\/o=8\/o=9\/o=23\/o=24\/o=27\/o=28\/o=29\/o=30\/o=31\/o=32\/o=33\/o=34
theorem rO.shape{o:Int}(h:rO o):Hx.shape o=[115,115]/\6<=o/\o<=36/\o≠36:=by
 unfold rO at h;rcases h with rfl|rfl|rfl|rfl|rfl|rfl|rfl|rfl|rfl|rfl|rfl|rfl|rfl<;>exact⟨by decide,by omega,by omega,by omega⟩
theorem rO.out{o:Int}(h:rO o)(v:Vw)(a b:Int):outcome v o a b=outcome v o a 0:=by
 unfold rO at h;rcases h with rfl|rfl|rfl|rfl|rfl|rfl|rfl|rfl|rfl|rfl|rfl|rfl|rfl<;>simp[outcome]
theorem rO.work{o:Int}(h:rO o)(v:Vw)(k r:Int)(m:Mc):Hx.work v (stepOf ⟨o,[k,r]⟩) m=m.put k (outcome v o (m.get r) 0):=by
 have e:=h.out v (m.get r) (m.get 0);unfold rO at h;unfold Hx.work;rw[jg (by show¬o=6;omega),jg (by show¬o=21;omega),jg (by show¬o=22;omega),jg (by show¬o=25;omega),jg (by show¬o=26;omega)];exact congrArg _ e
theorem Gn{ck:Ck}{c:Co}{m m':Mc}{d:Nat}(h:Ty ck c m.get)(hs:oP c.free (-1) d m m')(hf:Fit ck c):Ty ck c m'.get:=
 ⟨λi h0 h1=>by have:=hf.free;rw[hs.jD i h0 (by omega) (by omega)];exact h.jF i h0 h1,λn hn=>by have:=hf.jD n hn;rw[hs.jD n.2 this.1 this.2 (by omega)];exact h.num n hn,λj k n hk hn hd=>by
   have:=hf.jD n (bT hn);rw[hs.jD _ this.1 this.2 (by omega)];exact h.kW j k n hk hn hd⟩
theorem aoQ{P:Ck->Prop}{g:Co->Int->Co×Int}{z:Sz}{f:Val}{o:Int}(h:Mx P g z f)(ho:rO o):Mx P (λc into=>c.one o into {give:=g}) ⟨max z.wide 1,z.deep,z.jC+1,z.jL+5⟩ (λns v σ=>outcome v o (f ns v σ) 0):=by
 refine⟨λns v σ τ h1=>by show outcome v o (f ns v σ) 0=outcome v o (f ns v τ) 0;rw[h.pJ ns v σ τ h1],?_⟩;intro ck c into hf hP hw hi;have h8:=hf.free;have hw:c.free+max z.wide 1<=2008:=hw;obtain⟨fr,r,f',e,x,w⟩:=h.lay ck c (-1) hf hP (by omega) (jf rfl);obtain⟨k,f2,e',e1,e2,e3,e4,e5⟩:=Oy ((⟨c.code++jU fr.is,c.jy,f'⟩:Co).jX c.free) into (by show 0<=c.free;omega) (by show c.free<=1000000;omega) hi;have e1:c.free<=f2:=e1;have e2:f2<=c.free+1:=e2;have e5:=e5;have x1:=x.r1;have x0:=x.r0;have xf:=x.f2;obtain⟨hsh,o6,Nv,o3⟩:=ho.shape;have hins:rC ⟨o,[k,r]⟩:=⟨⟨by show 0<=o;omega,Nv⟩,by show IK (Hx.shape o) _;rw[hsh];exact⟨k,[r],rfl,rb e3 (by omega),r,[],rfl,rb x0 (by omega),rfl⟩⟩;refine⟨fr.seq (Fr.ins ⟨o,[k,r]⟩),k,f2,?_,⟨e1,e2,e3,e4,je (by show k<c.free+max z.wide 1;omega),Fr.uq x.ok (Fr.xu hins (jf o6) false),?_,?_,?_,?_⟩,?_⟩
 .unfold Co.one;simp only;rw[e];simp only;rw[e'];simp only[Co.lay,Fr.seq,Fr.ins,nN,ny,mF,enc,aX,Co.jX,bY]
 .have:=x.jC;show fr.jC+1<=z.jC+1;omega
 .have:=x.deep;show max fr.deep 0<=z.deep;omega
 .have:=x.jL;have:=Je o k r ⟨e3,by omega⟩ ⟨x0,by omega⟩;show((jU (fr.is++[⟨o,[k,r]⟩])).length:Int)<=z.jL+5;rw[nN,aA];omega
 .refine(x.low.wide ?_).append (lG.one ?_)
  .show c.free+z.wide<=c.free+max z.wide 1;omega
  .rw[show Hx.shape (⟨o,[k,r]⟩:I).o=[115,115]from hsh];exact⟨λ_=>by show k+1<=c.free+max z.wide 1;omega,λ_=>by show r+1<=c.free+max z.wide 1;omega,trivial⟩
 .intro v S jF kk lp m hv hS hd hll hl ht;have hd:lp.length+max fr.deep 0<=8:=hd;obtain⟨m1,g1,g2,g3⟩:=w v S jF kk lp m hv hS.left (by omega) hll hl.left ht;have hS2:=hS.right (x.ok.size kk lp);have hg:=yB (v:=v) (jF:=jF) (m:=m1) (i:=⟨o,[k,r]⟩) hS2.head o6 o3;rw[ho.work]at hg;refine⟨m1.put k (outcome v o (m1.get r) 0),g1.trans hg,?_,(g3.less (aV _) (je (jf (by omega))) (aj _)).trans (yj e5 e3)⟩;have hlk:=hl.right ⟨o,[k,r]⟩ (by simp[Fr.ins]);rw[show Hx.shape (⟨o,[k,r]⟩:I).o=[115,115]from hsh]at hlk;have:=hlk.1 rfl;rw[vN _ _ _ e3 (by rw[g3.len];omega),g2]
theorem Fit.more{ck:Ck}{c:Co}(h:Fit ck c){code:List Int}{f':Int}(hf:c.free<=f'):Fit ck ⟨code,c.jy,f'⟩:=
 ⟨h.en,h.jy,λn hn=>by have:=h.jD n hn;exact⟨this.1,by show n.2<f';omega⟩,by have:=h.free;show 8<=f';omega⟩
theorem Ty.jy{ck:Ck}{c c':Co}{σ:Int->Int}(h:Ty ck c σ)(hn:c'.jy=c.jy):Ty ck c' σ:=⟨h.jF,by rw[hn];exact h.num,by rw[hn];exact h.kW⟩
theorem BP{ck:Ck}{c:Co}{m m':Mc}{d:Nat}(hf:Fit ck c)(hs:oP c.free (-1) d m m'):lS c m'.get=lS c m.get:=by
 unfold lS;refine List.map_congr_left λn hn=>?_;have:=hf.jD n hn;rw[hs.jD n.2 this.1 this.2 (by omega)]
theorem aaD{ck:Ck}{c:Co}{f:Val}{m m':Mc}{d:Nat}(h:uy f)(hf:Fit ck c)(hs:oP c.free (-1) d m m'){v:Vw}:f (lS c m'.get) v m'.get=f (lS c m.get) v m.get:=by
 rw[BP hf hs];exact h _ v m'.get m.get λi h0 h1=>hs.jD i h0 (by have:=hf.free;omega) (by omega)
def Ah(o:Int):Prop:=(10<=o/\o<=20)\/o=35
theorem Ah.shape{o:Int}(h:Ah o):Hx.shape o=[115,115,115]/\6<=o/\o<=36/\o≠36:=by
 unfold Ah at h;refine⟨?_,by omega,by omega,by omega⟩;unfold Hx.shape;rw[jg (by omega),jg (by omega),jg (by omega),jg (by omega),jg (by omega),jg (by omega),jh (by omega)]
theorem Ah.work{o:Int}(h:Ah o)(v:Vw)(k r q:Int)(m:Mc):Hx.work v (stepOf ⟨o,[k,r,q]⟩) m=m.put k (outcome v o (m.get r) (m.get q)):=by
 unfold Ah at h;unfold Hx.work;rw[jg (by show¬o=6;omega),jg (by show¬o=21;omega),jg (by show¬o=22;omega),jg (by show¬o=25;omega),jg (by show¬o=26;omega)]
 rfl
theorem atE{P:Ck->Prop}{g g':Co->Int->Co×Int}{z z':Sz}{f f':Val}{o:Int}(h:Mx P g z f)(h':Mx P g' z' f')(ho:Ah o):
 Mx P (λc into=>c.two o into {give:=g} {give:=g'}) ⟨max (max z.wide (1+z'.wide)) 1,max z.deep z'.deep,z.jC+z'.jC+1,z.jL+z'.jL+7⟩ (λns v σ=>outcome v o (f ns v σ) (f' ns v σ)):=by
 refine⟨λns v σ τ h1=>by show outcome v o (f ns v σ) (f' ns v σ)=outcome v o (f ns v τ) (f' ns v τ);rw[h.pJ ns v σ τ h1,h'.pJ ns v σ τ h1],?_⟩;intro ck c into hf hP hw hi;have h8:=hf.free;have hw:c.free+max (max z.wide (1+z'.wide)) 1<=2008:=hw;obtain⟨fr,r,p,e,x,w⟩:=h.lay ck c (-1) hf hP (by omega) (jf rfl);have x1:=x.r1;have x0:=x.r0;have xf:=x.f2;have xg:=x.f1;obtain⟨fr',r',p',ee,x',w'⟩:=h'.lay ck ⟨c.code++jU fr.is,c.jy,p⟩ (-1) (hf.more xg) hP (by show p+z'.wide<=2008;omega) (jf rfl);have y1:=x'.r1;have y0:=x'.r0;have yf:=x'.f2;have yg:=x'.f1;have y3:r'<p\/r'<p+z'.wide:=x'.r3;have x3:=x.r3;obtain⟨k,f2,e',e1,e2,e3,e4,e5⟩:=Oy ((⟨c.code++jU fr.is++jU fr'.is,c.jy,p'⟩:Co).jX c.free) into (by show 0<=c.free;omega) (by show c.free<=1000000;omega) hi;have e1:=e1;have e2:f2<=c.free+1:=e2;have e5:=e5;obtain⟨hsh,o6,Nv,o3⟩:=ho.shape;have hins:rC ⟨o,[k,r,r']⟩:=⟨⟨by show 0<=o;omega,Nv⟩,by show IK (Hx.shape o) _;rw[hsh];exact⟨k,[r,r'],rfl,rb e3 (by omega),r,[r'],rfl,rb x0 (by omega),r',[],rfl,rb y0 (by omega),rfl⟩⟩;refine⟨fr.seq (fr'.seq (Fr.ins ⟨o,[k,r,r']⟩)),k,f2,?_,⟨e1,e2,e3,e4,je (by show k<c.free+max (max z.wide (1+z'.wide)) 1;omega),Fr.uq x.ok (Fr.uq x'.ok (Fr.xu hins (jf o6) false)),?_,?_,?_,?_⟩,?_⟩
 .unfold Co.two;simp only;rw[e];simp only;rw[ee];simp only;rw[e'];simp only[Co.lay,Fr.seq,Fr.ins,nN,ny,mF,enc,aX,Co.jX,bY]
 .have:=x.jC;have:=x'.jC;show fr.jC+(fr'.jC+1)<=z.jC+z'.jC+1;omega
 .have:=x.deep;have:=x'.deep;show max fr.deep (max fr'.deep 0)<=max z.deep z'.deep;omega
 .have:=x.jL;have:=x'.jL;have:=aaS o k r r' ⟨e3,by omega⟩ ⟨x0,by omega⟩ ⟨y0,by omega⟩;show((jU (fr.is++(fr'.is++[⟨o,[k,r,r']⟩]))).length:Int)<=z.jL+z'.jL+7;rw[nN,nN,aA,aA];omega
 .refine(x.low.wide ?_).append ((x'.low.wide ?_).append (lG.one ?_))
  .show c.free+z.wide<=c.free+max (max z.wide (1+z'.wide)) 1;omega
  .show p+z'.wide<=c.free+max (max z.wide (1+z'.wide)) 1;omega
  .rw[show Hx.shape (⟨o,[k,r,r']⟩:I).o=[115,115,115]from hsh];exact⟨λ_=>by show k+1<=c.free+max (max z.wide (1+z'.wide)) 1;omega,λ_=>by show r+1<=c.free+max (max z.wide (1+z'.wide)) 1;omega,λ_=>by show r'+1<=c.free+max (max z.wide (1+z'.wide)) 1;omega,trivial⟩
 .intro v S jF kk lp m hv hS hd hll hl ht;have hd:lp.length+max fr.deep (max fr'.deep 0)<=8:=hd;obtain⟨m1,g1,g2,g3⟩:=w v S jF kk lp m hv hS.left (by omega) hll hl.left ht;have hS2:=hS.right (x.ok.size kk lp);have t1:Ty ck ⟨c.code++jU fr.is,c.jy,p⟩ m1.get:=(Gn ht g3 hf).jy rfl;obtain⟨m2,q1,q2,q3⟩:=w' v S jF (kk+fr.size) lp m1 hv hS2.left (by omega) (by rw[g3.uV];exact hll) (by rw[g3.len];exact hl.right.left) t1;have q3:=q3;have hS3:=hS2.right (x'.ok.size (kk+fr.size) lp);have hg:=yB (v:=v) (jF:=jF) (m:=m2) (i:=⟨o,[k,r,r']⟩) hS3.head o6 o3;rw[ho.work]at hg;have hsz:(fr.seq (fr'.seq (Fr.ins ⟨o,[k,r,r']⟩))).size=fr.size+(fr'.size+1):=rfl;refine⟨m2.put k (outcome v o (m2.get r) (m2.get r')),?_,?_,((g3.trans (q3.less xg (je (jf (by omega))) (aj _))).less (aV _) (je (jf (by omega))) (aj _)).trans (yj e5 e3)⟩
  .rw[hsz,<-fE,<-fE];exact(g1.trans q1).trans hg
  .have hlk:=hl.right.right ⟨o,[k,r,r']⟩ (by simp[Fr.ins]);rw[show Hx.shape (⟨o,[k,r,r']⟩:I).o=[115,115,115]from hsh]at hlk;have:=hlk.1 rfl;rw[vN _ _ _ e3 (by rw[q3.len,g3.len];omega),q2,q3.jD r x0 x1 (by omega),g2];show outcome v o _ (f' (lS c m1.get) v m1.get)=_;rw[aaD h'.pJ hf g3]
section
def yU(x:Int):Int:=bits .and .u64 x (IntKind.u64.wrap (x-1))
theorem Lu{x:Int}(h0:0<x)(h1:x<18446744073709551616):0<=yU x/\yU x<x:=by
 unfold yU;obtain⟨n,rfl⟩:=bI (Int.le_of_lt h0);have e:IntKind.u64.wrap ((n:Int)-1)=((n-1:Nat):Int):=by
  rw[IntKind.wrap_u64];omega
 rw[e,bits_and_u64_nat n (n-1) (by omega) (by omega)];have h2:n&&&(n-1)<=n-1:=Nat.and_le_right;omega
def BM:Nat->Int->List Int
 |0,_=>[]
 |n+1,x=>if x=0 then []else tz x::BM n (yU x)
def bitsOf(x:Int):List Int:=BM x.toNat x
theorem Z4:∀(n k:Nat)(x:Int),0<=x->x<18446744073709551616->x.toNat<=n->x.toNat<=k->BM n x=BM k x
 |0,0,_,_,_,_,_=>rfl
 |0,k+1,x,h0,_,hn,_=>by
  have:x=0:=by omega
  subst this;simp[BM]
 |n+1,0,x,h0,_,_,hk=>by
  have:x=0:=by omega
  subst this;simp[BM]
 |n+1,k+1,x,h0,h1,hn,hk=>by
  unfold BM;split
  .rfl
  .rename_i hx;have h2:=Lu (x:=x) (by omega) h1;rw[Z4 n k (yU x) (by omega) (by omega) (by omega) (by omega)]
theorem Z5{x:Int}(h0:0<x)(h1:x<18446744073709551616):bitsOf x=tz x::bitsOf (yU x):=by
 have h2:=Lu h0 h1;obtain⟨n,hn⟩:∃n,x.toNat=n+1:=⟨x.toNat-1,by omega⟩;unfold bitsOf;rw[hn]
 conv=>lhs;unfold BM
 rw[jg (by omega)]
 congr 1
 exact Z4 n (yU x).toNat (yU x) (by omega) (by omega) (by omega) (aj _)
theorem Xg{x:Int}(h0:0<x)(h1:x<18446744073709551616):0<=tz x/\tz x<64:=by
 unfold tz;have:=(Lib.lowest_bit 64 x.toNat (by omega) (by omega)).2;omega
variable {v:Vw}{S:List St}{jF:List Int}
theorem turns{k lD:Nat}{list a b:Int}{d:Nat}(Inv:List Int->Mc->Prop)
 (hbody:∀(i x:Int)(rest:List Int)(m:Mc),0<=i->i<64->Inv (i::rest) m->∃m2,Reaches v S jF (k+1) ((m.put a i).lX d x) (kS (mP list a b d lD) k m2).2.toNat (kS (mP list a b d lD) k m2).1/\m2.ni d=x/\Inv rest m2):
 ∀(n:Nat)(x:Int)(m:Mc),x.toNat<=n->0<=x->x<18446744073709551616->m.ni d=x->Inv (bitsOf x) m->∃m',Reaches v S jF (kS (mP list a b d lD) k m).2.toNat (kS (mP list a b d lD) k m).1 lD m'/\Inv [] m':=by
 intro n;induction n with
 |zero=>
  intro x m hn h0 _ hx hI;have:x=0:=by omega
  subst this;have e:kS (mP list a b d lD) k m=(m,(lD:Int)):=by unfold kS;rw[jh (by exact hx)];rfl
  rw[e];exact⟨m,Reaches.refl _ _ _ _ _,hI⟩
 |succ n ih=>
  intro x m hn h0 h1 hx hI;rcases Int.lt_or_eq_of_le h0 with hp|hz
  .have h2:=Lu hp h1;have ht:=Xg hp h1;rw[Z5 hp h1]at hI;have e:kS (mP list a b d lD) k m=((m.put a (tz x)).lX d (yU x),(k:Int)+1):=by
    have hx':m.ni (mP list a b d lD).depth=x:=hx;unfold kS;rw[hx',jg (by omega)]
    rfl
   obtain⟨m2,g1,g2,g3⟩:=hbody (tz x) (yU x) _ m ht.1 ht.2 hI;obtain⟨m',q1,q2⟩:=ih (yU x) m2 (by omega) h2.1 (by omega) g2 g3;rw[e];refine⟨m',?_,q2⟩;rw[show((k:Int)+1).toNat=k+1 by omega];exact g1.trans q1
  .subst hz;have e:kS (mP list a b d lD) k m=(m,(lD:Int)):=by unfold kS;rw[jh (by exact hx)];rfl
   rw[e];exact⟨m,Reaches.refl _ _ _ _ _,hI⟩
theorem anc{k lD:Nat}{list a b:Int}{d:Nat}{m:Mc}(hS:S[k]? =some (mP list a b d lD))(hd:d<8)(Inv:List Int->Mc->Prop)(hm:m.left.length=8)
 (hbody:∀(i x:Int)(rest:List Int)(m:Mc),0<=i->i<64->Inv (i::rest) m->∃m2,Reaches v S jF (k+1) ((m.put a i).lX d x) (kS (mP list a b d lD) k m2).2.toNat (kS (mP list a b d lD) k m2).1/\m2.ni d=x/\Inv rest m2)
 (hI:∀x,Inv (bitsOf (pY (bits .and .i64 (m.get b) (v.all list)))) (m.lX d x)):∃m',Reaches v S jF k m lD m'/\Inv [] m':=by
 have hu:=EL (bits .and .i64 (m.get b) (v.all list));obtain⟨m',q1,q2⟩:=turns (lD:=lD) (list:=list) (a:=a) (b:=b) Inv hbody (pY (bits .and .i64 (m.get b) (v.all list))).toNat _ (rP v (mP list a b d lD) m) (aj _) hu.1 hu.2 (P5 m d _ (by omega)) (hI _);refine⟨m',Reaches.trans ?_ q1,q2⟩;have hpos:0<=(kS (mP list a b d lD) k (rP v (mP list a b d lD) m)).2:=by
  unfold kS;split
  .show(0:Int)<=lD;omega
  .show(0:Int)<=(k:Int)+1;omega
 refine Aw hS ?_;unfold Hx.step;rw[jg (by show¬(4:Int)=1;omega),jg (by show¬(4:Int)=2;omega),jg (by show¬(4:Int)=3;omega),jh (by rfl)];rw[iF hpos]
theorem aaU{k j lD:Nat}{list a b:Int}{d:Nat}{m:Mc}(hS:S[k]? =some (mP list a b d lD))(hj:S[j]? =some (FI k)):Reaches v S jF j m (kS (mP list a b d lD) k m).2.toNat (kS (mP list a b d lD) k m).1:=by
 have hpos:0<=(kS (mP list a b d lD) k m).2:=by
  unfold kS;split
  .show(0:Int)<=lD;omega
  .show(0:Int)<=(k:Int)+1;omega
 refine Aw hj ?_;unfold Hx.step;rw[jg (by show¬(0:Int)=1;omega),jg (by show¬(0:Int)=2;omega),jg (by show¬(0:Int)=3;omega),jg (by show¬(0:Int)=4;omega),jg (by show¬(0:Int)=5;omega),jh (by rfl)];show(match S[((k:Int)).toNat]?with|some l=>_|none=>_)=_;rw[bK,hS];simp only;rw[iF hpos]
 rfl
theorem asI{k j lD:Nat}{list a b q:Int}{d:Nat}{m:Mc}(hS:S[k]? =some (mP list a b d lD))(hj:S[j]? =some (Q7 q k))(hz:m.get q=0):Reaches v S jF j m (kS (mP list a b d lD) k m).2.toNat (kS (mP list a b d lD) k m).1:=by
 have hpos:0<=(kS (mP list a b d lD) k m).2:=by
  unfold kS;split
  .show(0:Int)<=lD;omega
  .show(0:Int)<=(k:Int)+1;omega
 refine Aw hj ?_;unfold Hx.step;rw[jg (by show¬(5:Int)=1;omega),jg (by show¬(5:Int)=2;omega),jg (by show¬(5:Int)=3;omega),jg (by show¬(5:Int)=4;omega),jh (by rfl),jh (by exact hz)];show(match S[((k:Int)).toNat]?with|some l=>_|none=>_)=_;rw[bK,hS];simp only;rw[iF hpos]
 rfl
theorem asK{k j:Nat}{q:Int}{m:Mc}(hj:S[j]? =some (Q7 q k))(hz:m.get q≠0):Reaches v S jF j m (j+1) m:=by
 refine Aw hj ?_;unfold Hx.step;rw[jg (by show¬(5:Int)=1;omega),jg (by show¬(5:Int)=2;omega),jg (by show¬(5:Int)=3;omega),jg (by show¬(5:Int)=4;omega),jh (by rfl),jg (by exact hz)]
 rfl
end
end
section
open Go.RowKit Hx
attribute [local go_sem ↓] Go.wp_at_zero Go.wp_at_succ
attribute [local go_sem] kP
section
variable {B:Nat}{w:jk}{v:jm}
theorem aci:(prog.info? 5).map (λi=>(i.zero,i.size,i.bytes))=some (some (.int .u8 0),1,1):=by kernel_rfl
def uF(l:List Int):List jm:=l.map (Value.int .u8)
theorem auj(x:Nat)(h:x<18446744073709551616):(18446744073709551615^^^x:Nat)=18446744073709551615-x:=by
 have h1:=congrArg BitVec.toNat (BitVec.allOnes_xor (x:=BitVec.ofNat 64 x));rw[BitVec.toNat_xor,BitVec.toNat_not,BitVec.toNat_allOnes,BitVec.toNat_ofNat,iO h]at h1;simpa using h1
theorem ahf(n:Int):IntKind.u64.wrap (IntKind.u64.wrap n * 2)=(2 * n)%18446744073709551616:=by
 show(n%18446744073709551616 * 2)%18446744073709551616=(2 * n)%18446744073709551616;omega
theorem auo(n:Int)(h:¬n<0):IntKind.u64.wrap (IntKind.u64.wrap n * 2)=((ru n:Nat):Int):=by
 rw[ahf];unfold ru;rw[jg h];omega
theorem aun(n:Int)(h:n<0):bits BinOp.xor IntKind.u64 IntKind.u64.max (IntKind.u64.wrap (IntKind.u64.wrap n * 2))=((ru n:Nat):Int):=by
 rw[ahf];unfold ru;rw[jh h];have e1:(2 * n)%18446744073709551616=(((2 * n)%18446744073709551616).toNat:Int):=by omega
 have e2:IntKind.u64.max=((18446744073709551615:Nat):Int):=rfl;have hlt:((2 * n)%18446744073709551616).toNat<18446744073709551616:=by omega
 rw[e1,e2,bits_xor_u64_nat _ _ (by decide) hlt,auj _ hlt];omega
theorem aej(r:Nat):bits BinOp.or IntKind.u8 ((r:Int)%256) 128=((r%128+128:Nat):Int):=by
 have h:∀k:Fin 256,bits .or .u8 (k.val:Int) 128=((k.val%128+128:Nat):Int):=by decide+kernel
 have h1:=h ⟨r%256,by omega⟩;simp only at h1;have e:((r%256:Nat):Int)=(r:Int)%256:=by omega
 rw[e]at h1;rw[h1];omega
structure EN(B:Nat)(w wr:jk)(v0 v:jm)(m':Nat)(ys:List jm)(rr gg:Nat)(all:List jm):Prop where
 row:wr.ownsRow B 5 1 v m' ys
 grown:w.grownBy wr v0.ownBlock
 own:∀g,v.ownBlock=some g->v0.ownBlock=some g\/w.heap.size<=g
 bd:rr<2 * 128^gg
 len:m'+gg<=1100000000
 eq:ys++uF (qE gg rr)=all
theorem V7{n:Nat}{T:jo}{k:Nat}{us:List jm}(h:w.ownsRow B T k v n us):∃a cap,v=.slice a n cap:=by
 rcases h with⟨_,⟨h2,h3⟩|⟨g,cap,cur,h2,_⟩⟩
 .subst h3;exact⟨_,_,h2⟩
 .exact⟨_,_,h2⟩
theorem EN.more{wr w2:jk}{v0:jm}{a1:Option Addr}{m' c1 rr gk g cap:Nat}{ys all:List jm}(h:EN B w wr v0 (.slice a1 m' c1) m' ys rr (gk+1) all)(h128:128<=rr){o:Obj}
 (hown:w2.ownsRow B 5 1 (.slice (some (Ad g 0)) (m'+1) cap) (m'+1) (ys++[.int .u8 ((rr%128+128:Nat):Int)]))(hgr:(wr.alloc o).grownBy w2 (Value.slice a1 m' c1).ownBlock)(hat:(Value.slice a1 m' c1).ownBlock=some g\/g=wr.heap.size+1):
 EN B w w2 v0 (.slice (some (Ad g 0)) (m'+1) cap) (m'+1) (ys++[.int .u8 ((rr%128+128:Nat):Int)]) (rr/128) gk all:=by
 have hs:=h.grown.size;refine⟨hown,(h.grown.trans (ah wr o _)).andThen hgr (λj ej=>?_),λk hk=>?_,?_,by have:=h.len;omega,?_⟩
 .rcases h.own j ej with e|e
  .exact je e
  .exact jf e
 .simp only[Value.ownBlock,bJ]at hk;subst hk;rcases hat with e|e
  .exact h.own g e
  .right;omega
 .have:=h.bd;rw[iV]at this;omega
 .have h1:=h.eq;unfold qE at h1;rw[jh h128]at h1;simpa [uF]using h1
theorem EN.last{wr w2:jk}{v0:jm}{a1:Option Addr}{m' c1 rr gk g cap m0:Nat}{ys all:List jm}(h:EN B w wr v0 (.slice a1 m' c1) m' ys rr gk all)(h128:rr<128){o:Obj}(hm0:all.length=m0)
 (hown:w2.ownsRow B 5 1 (.slice (some (Ad g 0)) (m'+1) cap) (m'+1) (ys++[.int .u8 (rr:Int)]))(hgr:(wr.alloc o).grownBy w2 (Value.slice a1 m' c1).ownBlock)(hat:(Value.slice a1 m' c1).ownBlock=some g\/g=wr.heap.size+1):
 m'+1=m0/\w2.ownsRow B 5 1 (.slice (some (Ad g 0)) m0 cap) m0 all/\w.grownBy w2 v0.ownBlock/\(v0.ownBlock=some g\/w.heap.size<=g):=by
 have hs:=h.grown.size;have he:qE gk rr=[(rr:Int)]:=by
  cases gk with
  |zero=>rfl
  |succ k=>unfold qE;rw[jg (by omega)]
 have h1:=h.eq;rw[he]at h1;have h2:ys++[.int .u8 (rr:Int)]=all:=h1;rw[h2]at hown;have hlen:m'+1=m0:=by
  have h3:=h.row.1;rw[<-hm0,<-h2];simp only[aA,aF,bg];omega
 subst hlen;refine⟨rfl,hown,(h.grown.trans (ah wr o _)).andThen hgr (λj ej=>?_),?_⟩
 .rcases h.own j ej with e|e
  .exact je e
  .exact jf e
 .rcases hat with e|e
  .exact h.own g e
  .right;omega
theorem ah9(xs:List jm)(m:Nat)(n:Int)(hrow:w.ownsRow B 5 1 v m xs)(hB:B<=w.heap.size)(hm:m<=1000000000):
 Calls prog 144 #[v,Im n] w λe w'=>∃g cap,e=.returned (.slice (some (Ad g 0)) (m+(pV n).length) cap)/\w'.ownsRow B 5 1 (.slice (some (Ad g 0)) (m+(pV n).length) cap) (m+(pV n).length) (xs++uF (pV n))/\w.grownBy w' v.ownBlock/\(v.ownBlock=some g\/w.heap.size<=g):=by
 obtain⟨i0,hi,hz0,hz1,hz2⟩:=info_parts aci;obtain⟨a,cp,rfl⟩:=V7 hrow;have hz:ru n<2 * 128^9:=by unfold ru;split<;>omega
 have HO:Hid (EN B w w (.slice a m cp) (.slice a m cp) m xs (ru n) 9 (xs++uF (pV n))):=⟨hrow,aN _ _,λg h=>jf h,hz,by omega,rfl⟩;have hl0:(xs++uF (pV n)).length=m+(pV n).length:=by
  have:=hrow.1;simp only[aA,uF,List.length_map];omega
 have Ze:=jA hl0;clear hrow hl0;generalize xs++uF (pV n)=all at *;generalize m+(pV n).length=m0 at *;by_cases hn:n<0
 .have d0:decide (n<0)=true:=by simpa using hn
  have HZ:=jA (aun n hn);go_enter func144,ntmps144;go_wp2_with fail;go_loopg [0,5] 9 (λgg v r wr=>Hid (∃m' ys rr,r=.int .u64 ((rr:Nat):Int)/\EN B w wr (.slice a m cp) v m' ys rr gg all))
  case atStart=>exact⟨m,xs,ru n,by rw[HZ.out],HO.out⟩
  case round=>
   obtain⟨m',ys,rr,hr,hI⟩:=hrel.out;clear hrel HO HZ;subst hr;obtain⟨a1,c1,rfl⟩:=V7 hI.row;have hl:=hI.len;have hbd:=hI.bd;have hB2:=dH hB hI.grown.size;have DY:=jA (λo=>hI.row.alloc o);by_cases h128:128<=rr
   .have d1:decide ((128:Int)<=(rr:Int))=true:=by simp;omega
    obtain⟨gk',rfl⟩:∃g',gk=g'+1:=by
     cases gk with
     |zero=>rw[Nat.pow_zero]at hbd;omega
     |succ g'=>exact⟨g',rfl⟩
    have HI:=jA hI;obtain⟨bt,hor⟩:∃bt,bits BinOp.or IntKind.u8 ((rr:Int)%256) 128=bt:=⟨_,rfl⟩;have KA:=jA (hor.symm.trans (aej rr));clear hI hbd;go_wp2_with (at_builtin;refine wpList_append_lies _ rfl _ _ 194 rfl B 5 i0 (.int .u8 0) 1 1 Tryz.underlying194 hi hz0 hz1 hz2 rfl (by decide) (.slice a1 m' c1) m' ys rfl (DY.out _) (Ad wr.heap.size 0) 1 1 [.int .u8 bt] rfl rfl (cell_one_new _ _ _) (by simp[Value.oneCell']) (by decide) (by unfold maxLen;omega) (by omega) (by simp;omega) (wr.heap.size+1) (by simp) ?_;intro g cap w2 hown hgr hat hlt);rw[KA.out]at hown;have HN:=jA (HI.out.more h128 hown hgr hat);clear hown hgr hat HI DY KA;go_roundg gk'
    case measure=>omega
    case rel=>exact⟨m'+1,_,rr/128,congrArg (Value.int .u64) (by omega),HN.out⟩
   .have d1:decide ((128:Int)<=(rr:Int))=false:=by simp;omega
    have HI:=jA hI;have hmod:(rr:Int)%256=(rr:Int):=by omega
    clear hI hbd;go_wp2_with (at_builtin;refine wpList_append_lies _ rfl _ _ 194 rfl B 5 i0 (.int .u8 0) 1 1 Tryz.underlying194 hi hz0 hz1 hz2 rfl (by decide) (.slice a1 m' c1) m' ys rfl (DY.out _) (Ad wr.heap.size 0) 1 1 [.int .u8 (rr:Int)] rfl rfl (cell_one_new _ _ _) (by simp[Value.oneCell']) (by decide) (by unfold maxLen;omega) (by omega) (by simp;omega) (wr.heap.size+1) (by simp) ?_;intro g cap w2 hown hgr hat hlt);have hX:=HI.out.last (by omega) Ze.out hown hgr hat;have HN:=jA hX;clear hown hgr hat HI DY hX;go_ret;exact⟨g,cap,by rw[HN.out.1];rfl,HN.out.2⟩
 .have d0:decide (n<0)=false:=by simpa using hn
  have HZ:=jA (auo n hn);go_enter func144,ntmps144;go_wp2_with fail;go_loopg [0,5] 9 (λgg v r wr=>Hid (∃m' ys rr,r=.int .u64 ((rr:Nat):Int)/\EN B w wr (.slice a m cp) v m' ys rr gg all))
  case atStart=>exact⟨m,xs,ru n,by rw[HZ.out],HO.out⟩
  case round=>
   obtain⟨m',ys,rr,hr,hI⟩:=hrel.out;clear hrel HO HZ;subst hr;obtain⟨a1,c1,rfl⟩:=V7 hI.row;have hl:=hI.len;have hbd:=hI.bd;have hB2:=dH hB hI.grown.size;have DY:=jA (λo=>hI.row.alloc o);by_cases h128:128<=rr
   .have d1:decide ((128:Int)<=(rr:Int))=true:=by simp;omega
    obtain⟨gk',rfl⟩:∃g',gk=g'+1:=by
     cases gk with
     |zero=>rw[Nat.pow_zero]at hbd;omega
     |succ g'=>exact⟨g',rfl⟩
    have HI:=jA hI;obtain⟨bt,hor⟩:∃bt,bits BinOp.or IntKind.u8 ((rr:Int)%256) 128=bt:=⟨_,rfl⟩;have KA:=jA (hor.symm.trans (aej rr));clear hI hbd;go_wp2_with (at_builtin;refine wpList_append_lies _ rfl _ _ 194 rfl B 5 i0 (.int .u8 0) 1 1 Tryz.underlying194 hi hz0 hz1 hz2 rfl (by decide) (.slice a1 m' c1) m' ys rfl (DY.out _) (Ad wr.heap.size 0) 1 1 [.int .u8 bt] rfl rfl (cell_one_new _ _ _) (by simp[Value.oneCell']) (by decide) (by unfold maxLen;omega) (by omega) (by simp;omega) (wr.heap.size+1) (by simp) ?_;intro g cap w2 hown hgr hat hlt);rw[KA.out]at hown;have HN:=jA (HI.out.more h128 hown hgr hat);clear hown hgr hat HI DY KA;go_roundg gk'
    case measure=>omega
    case rel=>exact⟨m'+1,_,rr/128,congrArg (Value.int .u64) (by omega),HN.out⟩
   .have d1:decide ((128:Int)<=(rr:Int))=false:=by simp;omega
    have HI:=jA hI;have hmod:(rr:Int)%256=(rr:Int):=by omega
    clear hI hbd;go_wp2_with (at_builtin;refine wpList_append_lies _ rfl _ _ 194 rfl B 5 i0 (.int .u8 0) 1 1 Tryz.underlying194 hi hz0 hz1 hz2 rfl (by decide) (.slice a1 m' c1) m' ys rfl (DY.out _) (Ad wr.heap.size 0) 1 1 [.int .u8 (rr:Int)] rfl rfl (cell_one_new _ _ _) (by simp[Value.oneCell']) (by decide) (by unfold maxLen;omega) (by omega) (by simp;omega) (wr.heap.size+1) (by simp) ?_;intro g cap w2 hown hgr hat hlt);have hX:=HI.out.last (by omega) Ze.out hown hgr hat;have HN:=jA hX;clear hown hgr hat HI DY hX;go_ret;exact⟨g,cap,by rw[HN.out.1];rfl,HN.out.2⟩
end
end
namespace Hx
open Go.RowKit
section
def o9(p:Ps):Prop:=p.k.kind=0/\p.k.text=⟨#[]⟩
structure mQ(s:ji)(p q:Ps):Prop where
 ok:q.Ok s
 mono:p.k.at'<=q.k.at'
 keeps:o9 q\/q.dp=p.dp
 bad:o9 p->o9 q
def Deep(d:Nat)(p:Ps):Prop:=o9 p\/(0<=p.dp/\p.dp<=20/\21<=d+p.dp)
variable {s:ji}{p q r:Ps}{d:Nat}
theorem mQ.refl(h:p.Ok s):mQ s p p:=⟨h,aV _,je rfl,λb=>b⟩
theorem mQ.trans(h:mQ s p q)(k:mQ s q r):mQ s p r:=
 ⟨k.ok,fD h.mono k.mono,by
   rcases k.keeps with b|e
   .exact jf b
   .rcases h.keeps with b|e'
    .exact jf (k.bad b)
    .exact je (e.trans e'),λb=>k.bad (h.bad b)⟩
theorem o9.fail(p:Ps):o9 p.fail:=⟨rfl,rfl⟩
theorem o9.is(h:o9 p){t:List UInt8}(ht:t≠[]):p.is t=false:=by
 unfold Ps.is;rw[h.2];cases t with
 |nil=>exact jl rfl ht
 |cons a l=>rfl
theorem o9.expect(h:o9 p){t:List UInt8}(ht:t≠[]):o9 (p.expect s t):=by
 unfold Ps.expect;rw[h.is ht];exact o9.fail p
theorem o9.close(h:o9 p){t:List UInt8}(ht:t≠[]):o9 (p.close s t):=h.expect ht
theorem o9.jZ(h:o9 p){t:List UInt8}(ht:t≠[]):o9 (p.jZ s t):=by
 unfold Ps.jZ;split
 .exact o9.fail p
 .exact h.expect ht
theorem Ei(h:p.Ok s):mQ s p p.fail:=⟨h.fail,aV _,jf (o9.fail p),λ_=>o9.fail p⟩
theorem F6(h:p.Ok s):p.k.at'+p.k.text.size<=(p.next s).k.at':=by
 have h1:=(WG s _ h.tok.bd).2;have h2:=h.tok.yR;show p.k.at'+(p.k.text.size:Int)<=(scan s (p.k.at'.toNat+p.k.text.size)).at';omega
theorem nZ(h:p.Ok s)(hb:¬o9 p):mQ s p (p.next s):=
 ⟨h.next,by have:=F6 h;omega,je rfl,λb=>jl b hb⟩
theorem oU{t:List UInt8}(ht:t≠[])(h:p.is t=true):¬o9 p:=λb=>by rw[b.is ht]at h;cases h
theorem H9(h:p.k.kind≠0):¬o9 p:=λb=>h b.1
theorem yC(h:p.Ok s){t:List UInt8}(ht:t≠[]):mQ s p (p.expect s t):=by
 unfold Ps.expect;split
 .rename_i hi;exact nZ h (oU ht hi)
 .exact Ei h
theorem Ej(h:p.Ok s):mQ s p (p.name s).2:=by
 unfold Ps.name;split
 .rename_i hk;exact nZ h (H9 (by rw[hk];decide))
 .exact Ei h
theorem Jl(h:p.Ok s){t u:List UInt8}(ht:t≠[])(hu:u≠[])(hq:mQ s (p.jZ s t) r):mQ s p (r.close s u):=by
 have hc:=yC hq.ok (t:=u) hu;refine⟨hq.ok.close u,?_,?_,λb=>(hq.bad (b.jZ ht)).close hu⟩
 .have h1:p.k.at'<=(p.jZ s t).k.at':=by
   unfold Ps.jZ;split
   .exact aV _
   .exact(yC h ht).mono
  exact fD h1 (fD hq.mono hc.mono)
 .rcases hc.keeps with b|e
  .exact jf b
  .rcases hq.keeps with b|e'
   .exact jf (b.close hu)
   .by_cases hd:p.dp=20
    .have hf:p.jZ s t=p.fail:=by unfold Ps.jZ;rw[jh hd]
     refine jf ((hq.bad ?_).close hu);rw[hf];exact o9.fail p
    .have hf:p.jZ s t=(p.expect s t).FB:=by unfold Ps.jZ;rw[jg hd]
     rcases(yC h ht).keeps with b|e2
     .exact jf ((hq.bad (by rw[hf];exact b)).close hu)
     .refine je ?_;show wrap64 ((r.expect s u).dp-1)=p.dp;rw[e,e',hf];show wrap64 (wrap64 ((p.expect s t).dp+1)-1)=p.dp;rw[e2];have:=h.dp;unfold jJ at this;unfold wrap64;omega
theorem Deep.good(h:Deep d p)(k:mQ s p q):Deep d q:=by
 rcases h with b|⟨h1,h2,h3⟩
 .exact jf (k.bad b)
 .rcases k.keeps with b|e
  .exact jf b
  .exact je (by rw[e];exact⟨h1,h2,h3⟩)
theorem Deep.jZ(h:Deep (d+1) p)(ok:p.Ok s){t:List UInt8}(ht:t≠[]):Deep d (p.jZ s t):=by
 rcases h with b|⟨h1,h2,h3⟩
 .exact jf (b.jZ ht)
 .by_cases hd:p.dp=20
  .left;unfold Ps.jZ;rw[jh hd];exact o9.fail p
  .have hf:p.jZ s t=(p.expect s t).FB:=by unfold Ps.jZ;rw[jg hd]
   rw[hf];rcases(yC ok ht).keeps with b|e2
   .exact jf b
   .right;show 0<=wrap64 ((p.expect s t).dp+1)/\wrap64 ((p.expect s t).dp+1)<=20/\21<=(d:Int)+wrap64 ((p.expect s t).dp+1);rw[e2];unfold wrap64;omega
end
end Hx
section
open Go.RowKit Hx
theorem VL(xs:List Int)(hx:∀x∈xs,0<=x/\x<=1000001):0<=jR xs/\jR xs<=1000001:=by
 unfold jR;have:=yu xs hx;exact yu _ (by simp;omega)
theorem qj{a:Int}(h:0<=a/\a<=1000001):0<=jR [a]/\jR [a]<=1000001:=VL _ (by simpa using h)
theorem rG{a b:Int}(h:0<=a/\a<=1000001)(k:0<=b/\b<=1000001):0<=jR [a,b]/\jR [a,b]<=1000001:=VL _ (by simp;exact⟨h,k⟩)
structure pq(x:Sx):Prop where
 jw:0<=x.jw/\x.jw<=1000001
 of:x.of=3\/x.of=4
 all:∀b∈x.jE,kV b.2
theorem pq.law{x:Sx}(h:pq x):Lawful (oW x):=NJ λb hb a=>(h.all b hb).law a
theorem uo{x:Sx}{c:Int}(hc:0<=c/\c<=1000001):0<=x.round c/\x.round c<=1000001:=by
 have h1:=yu [1,c] (by simp;omega);unfold Hx.Sx.round;generalize lu [1,c]=y at *;unfold lu;simp only[bP,eF];split<;>omega
theorem pq.add{x:Sx}(h:pq x){b:Wd×Ex}(hb:kV b.2):pq (x.add b):=by
 refine⟨yu _ (by have:=h.jw;have:=uo (x:=x) hb.jw;simp;omega),h.of,?_⟩;intro c hc;rcases List.mem_append.1 hc with hc|hc
 .exact h.all c hc
 .rw[cO.1 hc];exact hb
theorem Vt(at' n:Int):kV (kN at' n):=vV (by simp[lU]) Cc (by omega)
theorem Rn(at' kind:Int)(b:Bool):kV (zY at' 1 kind b):=vV (by simp[lU]) Cc (by omega)
theorem F7:kV rF:=vV (by simp[lU]) Cc (by omega)
theorem VZ(at' n:Int):kV (wQ at' n):=vV (by simp[lU]) Cc (by omega)
theorem YJ(at':Int)(d:Wd):kV (oZ at' d):=by
 have hk:∀k,kV (rE 389 391 at' 1 k y9 (λ_=>[.string d.text,Im d.at'])):=λk=>vV (by simp[lU]) Cc (by omega);refine⟨λa=>⟨λw w' lo hi v ⟨k,h⟩ hb=>⟨k,((hk k).law a).loc _ _ _ _ _ h hb⟩,λw lo hi lo' hi' v ⟨k,h⟩ h1 h2=>⟨k,((hk k).law a).wide _ _ _ _ _ _ h h1 h2⟩⟩,λa w lo hi v ⟨k,h⟩=>(hk k).head _ _ _ _ _ h,λa a' w lo hi T b ⟨k,h⟩=>⟨k,(hk k).widen _ _ _ _ _ _ _ h⟩,?_⟩;show 0<=(1:Int)/\(1:Int)<=1000001;omega
theorem acB(at':Int){e:Ex}(h:kV e):kV (yZ at' e):=vV (by simp[lU]) (qW (h.law _)) (qj h.jw)
theorem Vz(at' kind:Int)(sign:ji){e:Ex}(h:kV e):kV (oV at' kind sign e):=vV (by simp[lU]) (qW (h.law _)) (qj h.jw)
theorem Ro(at' kind:Int)(sign:ji){l r:Ex}(h:kV l)(k:kV r):kV (kK at' kind sign l r):=vV (by simp[lU]) (wJ (h.law _) (k.law _)) (rG h.jw k.jw)
theorem QA(at' kind owner:Int){e:Ex}(h:kV e)(d:Wd):kV (vY at' kind owner e d):=vV (by simp[lU]) (qW (h.law _)) (qj h.jw)
theorem ad2(at':Int){l r:Ex}(h:kV l)(k:kV r):kV (x9 at' l r):=vV (by simp[lU]) (wJ (h.law _) (k.law _)) (rG h.jw k.jw)
theorem ZJ(kind:Int)(what:ji){x:Sx}(h:pq x):kV (xR kind what x):=vV (by simp[lU]) (qW h.law) (qj h.jw)
theorem adA(kind:Int)(what:ji){x:Sx}(h:pq x){b:Wd×Ex}(k:kV b.2):kV (uY kind what x b):=vV (by simp[lU]) (wJ h.law (k.law _)) (rG h.jw (uo k.jw))
theorem ag5{e:Ex}(h:kV e)(a:Int):kV (e.widen a):=⟨h.law,h.head,h.widen,h.jw⟩
section
def qI(s:ji)(ex:Ps->Ex×Ps)(d:Nat):Prop:=∀p,p.Ok s->Deep d p->mQ s p (ex p).2/\kV (ex p).1
variable {s:ji}{ex:Ps->Ex×Ps}{d:Nat}{p:Ps}
theorem PN(h:qI s ex d)(ok:p.Ok s)(hd:Deep (d+1) p):mQ s p (Dq s ex p).2/\kV (Dq s ex p).1:=by
 obtain⟨h1,h2⟩:=h _ (ok.jZ [40]) (hd.jZ ok (by simp));exact⟨Jl ok (by simp) (by simp) h1,h2⟩
theorem ad3(h:qI s ex d)(ok:p.Ok s)(hd:Deep (d+1) p)(at':Int){e:Ex}(he:kV e):mQ s p (vW s ex at' e p).2/\kV (vW s ex at' e p).1:=by
 obtain⟨h1,h2⟩:=h _ (ok.jZ [40]) (hd.jZ ok (by simp));exact⟨Jl ok (by simp) (by simp) h1,ad2 at' he h2⟩
theorem Oq(h:qI s ex d)(ok:p.Ok s)(hd:Deep (d+1) p):mQ s p (qP s ex p).2/\kV (qP s ex p).1.2:=by
 have o0:=ok.jZ [40];have g1:=Ej o0;have g2:=yC g1.ok (t:=[58]) (by simp);have g12:=g1.trans g2;obtain⟨h1,h2⟩:=h _ g2.ok ((hd.jZ ok (by simp)).good g12);exact⟨Jl ok (by simp) (by simp) (g12.trans h1),h2⟩
theorem afO(h:qI s ex d):∀(n:Nat)(x:Sx)(p:Ps),pq x->p.Ok s->Deep (d+1) p->mQ s p (vw s ex n x p).2/\pq (vw s ex n x p).1.1
 |0,x,p,hx,ok,_=>⟨mQ.refl ok,hx⟩
 |n+1,x,p,hx,ok,hd=>by
  unfold vw;split
  .rename_i h1;have g1:=nZ ok (oU (by simp) h1);split
   .rename_i h2;have g2:=nZ g1.ok (oU (by simp) h2);have g12:=g1.trans g2;obtain⟨g3,e3⟩:=Oq h g2.ok (hd.good g12);have Di:=g12.trans g3;obtain⟨g4,e4⟩:=afO h n _ _ (hx.add e3) g3.ok (hd.good Di);exact⟨Di.trans g4,e4⟩
   .exact⟨g1,hx⟩
  .exact⟨mQ.refl ok,hx⟩
theorem adP{of:Int}(h:setOf p.k.text.data.toList=some of):¬o9 p:=λb=>by
 rw[b.2]at h;simp[setOf]at h
theorem QU{u:List UInt8}{of:Int}(h:setOf u=some of):of=3\/of=4:=by
 unfold setOf at h;split at h
 .exact jf (fZ h).symm
 .split at h
  .exact je (fZ h).symm
  .cases h
theorem QV(h:qI s ex d)(n:Nat)(ok:p.Ok s)(hd:Deep (d+1) p):mQ s p (oD s ex n p).2/\pq (oD s ex n p).1.1:=by
 unfold oD;split
 .rename_i of hof;have g1:=nZ ok (adP hof);obtain⟨g2,e2⟩:=afO h n ⟨p.k.at',1,p.k.text,of,[]⟩ _ ⟨by simp,QU hof,by simp⟩ g1.ok (hd.good g1);exact⟨g1.trans g2,e2⟩
 .exact⟨Ei ok,⟨by simp,je rfl,by simp⟩⟩
theorem ZK(ok:p.Ok s)(hb:¬o9 p){x:Sx}(hx:pq x)(kind:Int):mQ s p (Lf s x kind p).2/\kV (Lf s x kind p).1:=⟨nZ ok hb,ZJ kind _ hx⟩
theorem Qj(h:qI s ex d)(ok:p.Ok s)(hd:Deep (d+1) p)(hb:¬o9 p){x:Sx}(hx:pq x)(kind:Int):mQ s p (FY s ex x kind p).2/\kV (FY s ex x kind p).1:=by
 have g1:=nZ ok hb;obtain⟨g2,e2⟩:=Oq h g1.ok (hd.good g1);exact⟨g1.trans g2,adA kind _ hx e2⟩
theorem ap8(h:qI s ex d)(ok:p.Ok s)(hd:Deep (d+1) p){x:Sx}(hx:pq x):mQ s p (Ih s ex x p).2/\kV (Ih s ex x p).1:=by
 unfold Ih;split
 .rename_i h1;exact ZK ok (oU (by simp) h1) hx _
 split
 .rename_i h1;exact ZK ok (oU (by simp) h1) hx _
 split
 .rename_i h1;rcases Bool.or_eq_true_iff.1 h1 with h1|h1
  .exact Qj h ok hd (oU (by simp) h1) hx _
  .exact Qj h ok hd (oU (by simp) h1) hx _
 split
 .rename_i h1;exact Qj h ok hd (oU (by simp) h1) hx _
 split
 .rename_i h1;exact Qj h ok hd (oU (by simp) h1) hx _
 .exact⟨Ei ok,F7⟩
theorem aqe(h:qI s ex d)(n:Nat)(ok:p.Ok s)(hd:Deep (d+1) p):mQ s p (AY s ex n p).2/\kV (AY s ex n p).1:=by
 obtain⟨g1,e1⟩:=QV h n ok hd;unfold AY;split
 .obtain⟨g2,e2⟩:=ap8 h g1.ok (hd.good g1) e1;exact⟨g1.trans g2,e2⟩
 .exact⟨g1.trans (Ei g1.ok),F7⟩
theorem ZT(h:qI s ex d)(n:Nat)(ok:p.Ok s)(hd:Deep (d+1) p):mQ s p (sZ s ex n p).2/\kV (sZ s ex n p).1:=by
 unfold sZ;split
 .rename_i h1;exact⟨nZ ok (H9 (by rw[h1];decide)),Vt _ _⟩
 split
 .rename_i h1;exact⟨nZ ok (H9 (by rw[h1];decide)),VZ _ _⟩
 split
 .rename_i h1;exact⟨nZ ok (H9 (by rw[h1];decide)),YJ _ _⟩
 split
 .rename_i h1;refine⟨nZ ok ?_,Rn _ _ _⟩;rcases Bool.or_eq_true_iff.1 h1 with h1|h1
  .exact oU (by simp) h1
  .exact oU (by simp) h1
 split
 .obtain⟨g1,e1⟩:=PN h ok hd;exact⟨g1,ag5 e1 _⟩
 split
 .rename_i h1;have g0:=nZ ok (oU (by simp) h1);obtain⟨g1,e1⟩:=PN h g0.ok (hd.good g0);exact⟨g0.trans g1,acB _ e1⟩
 split
 .exact aqe h n ok hd
 .exact⟨Ei ok,F7⟩
theorem SL(h:qI s ex d)(at':Int):∀(n:Nat)(e:Ex)(p:Ps),kV e->p.Ok s->Deep (d+1) p->mQ s p (tk s ex at' n e p).2/\kV (tk s ex at' n e p).1
 |0,e,p,he,ok,_=>⟨mQ.refl ok,he⟩
 |n+1,e,p,he,ok,hd=>by
  unfold tk;split
  .rename_i h1;have g1:=nZ ok (oU (by simp) h1);have g2:=g1.trans (Ej g1.ok);simp only;split
   .obtain⟨g3,e3⟩:=ad3 h g2.ok (hd.good g2) at' he;obtain⟨g4,e4⟩:=SL h at' n _ _ e3 g3.ok (hd.good (g2.trans g3));exact⟨(g2.trans g3).trans g4,e4⟩
   .obtain⟨g4,e4⟩:=SL h at' n _ _ (QA at' _ _ he _) g2.ok (hd.good g2);exact⟨g2.trans g4,e4⟩
  .exact⟨mQ.refl ok,he⟩
theorem ZX(h:qI s ex d)(n:Nat)(ok:p.Ok s)(hd:Deep (d+1) p):mQ s p (Ak s ex n p).2/\kV (Ak s ex n p).1:=by
 obtain⟨g1,e1⟩:=ZT h n ok hd;obtain⟨g2,e2⟩:=SL h p.k.at' n _ _ e1 g1.ok (hd.good g1);exact⟨g1.trans g2,e2⟩
theorem Nj(h:qI s ex d)(n:Nat):∀(m:Nat)(p:Ps),p.Ok s->Deep (d+1) p->mQ s p (qG s ex n m p).2/\kV (qG s ex n m p).1
 |0,p,ok,hd=>ZX h n ok hd
 |m+1,p,ok,hd=>by
  unfold qG;split
  .rename_i h1;have g1:=nZ ok (oU (by simp) h1);obtain⟨g2,e2⟩:=Nj h n m _ g1.ok (hd.good g1);exact⟨g1.trans g2,Vz _ _ _ e2⟩
  split
  .rename_i h1;have g1:=nZ ok (oU (by simp) h1);obtain⟨g2,e2⟩:=Nj h n m _ g1.ok (hd.good g1);exact⟨g1.trans g2,Vz _ _ _ e2⟩
  .exact ZX h n ok hd
theorem adO{of:Int}(h5:of<=5)(h:nO p.k.text.data.toList=of):¬o9 p:=λb=>by
 rw[b.2]at h;simp[nO]at h;omega
theorem aec{lower:Ps->Ex×Ps}(h:qI s lower d)(of:Int)(h5:of<=5)(at':Int):∀(n:Nat)(e:Ex)(p:Ps),kV e->p.Ok s->Deep d p->mQ s p (rY s lower of at' n e p).2/\kV (rY s lower of at' n e p).1
 |0,e,p,he,ok,_=>⟨mQ.refl ok,he⟩
 |n+1,e,p,he,ok,hd=>by
  unfold rY;split
  .rename_i h1;have g1:=nZ ok (adO h5 h1);obtain⟨g2,e2⟩:=h _ g1.ok (hd.good g1);have g12:=g1.trans g2;simp only;split
   .exact⟨g12,Ro _ _ _ he e2⟩
   .obtain⟨g3,e3⟩:=aec h of h5 at' n _ _ (Ro at' _ _ he e2) g2.ok (hd.good g12);exact⟨g12.trans g3,e3⟩
  .exact⟨mQ.refl ok,he⟩
theorem Qr(h:qI s ex d)(n:Nat):∀(l:Nat),qI s (qR s ex n l) (d+1)
 |0=>λp ok hd=>Nj h n n p ok hd
 |l+1=>λp ok hd=>by
  obtain⟨g1,e1⟩:=Qr h n l p ok hd;obtain⟨g2,e2⟩:=aec (Qr h n l) (5-l) (by omega) p.k.at' n _ _ e1 g1.ok (hd.good g1);exact⟨g1.trans g2,e2⟩
theorem GV(s:ji):∀(d:Nat),qI s (kT s d) d
 |0=>λ_ ok _=>⟨Ei ok,F7⟩
 |d+1=>λp ok hd=>Qr (GV s d) (s.size+1) 6 p ok hd
end
end
section
open Go.RowKit Hx
attribute [local go_sem ↓] Go.wp_at_zero Go.wp_at_succ
attribute [local go_sem] kP
section
def mV(fn:FuncId)(more:List jm)(s:ji)(p:Ps)(r:Ex×Ps):Prop:=
 ∀(P:Nat)(w:jk),jQ w P s p->Calls prog fn (Pt P 0::more).toArray w λe w'=>∃v,e=.returned v/\r.1.here r.1.at' w' w.heap.size w'.heap.size v/\jQ w' P s r.2/\w.grownBy w' (some P)
structure Reader(s:ji)(ex:Ps->Ex×Ps)(d:Nat):Prop where
 good:qI s ex d
 reads:∀p,p.Ok s->Deep d p->mV 238 [] s p (ex p)
theorem kV.keep{e:Ex}(h:kV e){a:Int}{w w':jk}{lo hi P:Nat}{v:jm}(hh:e.here a w lo hi v)(hP:P<lo)(hi':hi<=w.heap.size)(hg:w.grownBy w' (some P)):e.here a w' lo hi v:=
 (h.law a).loc _ _ _ _ _ hh λb b1 b2=>hg.block b (by omega) (by simp;omega)
variable {s:ji}{ex:Ps->Ex×Ps}{d:Nat}{p:Ps}
theorem ace(hs:s.size<=4000)(h:Reader s ex d)(ok:p.Ok s)(hd:Deep (d+1) p):mV 274 [] s p (Dq s ex p):=by
 intro P w hp;have hlt:=hp.lt;have o1:=ok.jZ [40];have d1:=hd.jZ ok (t:=[40]) (by simp);obtain⟨g1,x1⟩:=h.good _ o1 d1;have H0:=jA (Ny hp ok hs [40]);have H1:=jA (λx (hx:jQ x P s (p.jZ s [40]))=>h.reads _ o1 d1 P x hx);have H2:=jA (λx (hx:jQ x P s (ex (p.jZ s [40])).2)=>LC hx g1.ok hs [41]);show Calls prog 274 #[Pt P 0] w λe w'=>∃v,e=.returned v/\(ex (p.jZ s [40])).1.here (ex (p.jZ s [40])).1.at' w' w.heap.size w'.heap.size v/\jQ w' P s ((ex (p.jZ s [40])).2.close s [41])/\w.grownBy w' (some P);generalize ex (p.jZ s [40])=r at *;generalize p.jZ s [40]=q at *;generalize r.2.close s [41]=q2 at *;have HX:Hid (kV r.1):=x1;clear hp o1 d1 g1 x1 ok hd h;go_enter func274,ntmps274;go_wp2_with fail;refine H0.out.mono ?_;rintro e w1 ⟨rfl,p1,k1⟩;have kJ:=jA (jd p1 k1);clear p1 k1 H0;go_wp2_with fail;refine(H1.out _ kJ.out.1).mono ?_;rintro e w2 ⟨v,rfl,e2,p2,k2⟩;have HP2:=jA (jd e2 (jd p2 k2));clear e2 p2 k2 H1;go_wp2_with fail;refine(H2.out _ HP2.out.2.1).mono ?_;rintro e w3 ⟨rfl,p3,k3⟩;have lI:=jA (jd p3 k3);clear p3 k3 H2;go_wp2_with fail;go_ret;obtain⟨a1,a2⟩:=kJ.out;obtain⟨b0,b1,b2⟩:=HP2.out;obtain⟨c1,c2⟩:=lI.out;have s1:=a2.size;have s2:=b2.size;have s3:=c2.size;exact⟨v,rfl,(HX.out.law _).wide _ _ _ _ _ _ (HX.out.keep b0 (by omega) (aj _) c2) s1 s3,c1,(a2.trans b2).trans c2⟩
end
end
end Go.Proofs.YthllhabjfchgiaaGreatDoor
