import Derived.Test.YthllhabjfchgiaaGreatDoorHb20
import Derived.Laws.Bits64
set_option maxRecDepth 100000
set_option maxHeartbeats 8000000
set_option linter.unusedSimpArgs false
namespace Go.Proofs.YthllhabjfchgiaaGreatDoor
open _root_.Go.Proofs.Tryz
section
open Go.RowKit Hx
structure Fit(ck:Ck)(c:Co):Prop where
 en:ck.en=0
 jA:ck.jA.map (λk=>k.name.data.toList)=c.jA.map (λn=>n.1.data.toList)
 jE:∀n∈c.jA,0<=n.2/\n.2<c.free
 free:8<=c.free
structure Ty(ck:Ck)(c:Co)(σ:Int->Int):Prop where
 jG:∀i,0<=i->i<8->jO (σ i)
 num:∀n∈c.jA,jO (σ n.2)
 oI:∀(j:Nat)(k:Kn)(n:jm×Int),ck.jA[j]? =some k->c.jA[j]? =some n->k.kind=2->σ n.2=0\/σ n.2=1
structure Sz where
 wide:Int
 deep:Nat
 jD:Int
 jM:Int
abbrev Val:=List (jm×Int)->Vw->(Int->Int)->Int
def lu(c:Co)(σ:Int->Int):List (jm×Int):=c.jA.map λn=>(n.1,σ n.2)
structure Xs(c:Co)(z:Sz)(fr:Fr)(r free':Int):Prop where
 f1:c.free<=free'
 f2:free'<=c.free+1
 r0:0<=r
 r1:r<free'
 r3:r<c.free\/r<c.free+z.wide
 ok:fr.Ok false
 jD:fr.jD<=z.jD
 deep:fr.deep<=z.deep
 jM:((jX fr.is).length:Int)<=z.jM
 low:kY fr.is (c.free+z.wide)
def nH(v:Vw):Prop:=v.FZ/\v.small
def ahc(ck:Ck)(c:Co)(into:Int)(fr:Fr)(r:Int)(f:Val):Prop:=
 ∀(v:Vw)(S:List St)(jG:List Int)(k:Nat)(lp:List Int)(m:Mc),nH v->sK S k (fr.jC k lp)->lp.length+fr.deep<=8->m.left.length=8->kY fr.is m.jE.length->Ty ck c m.get->
  ∃m',Reaches v S jG k m (k+fr.size) m'/\m'.get r=f (lu c m.get) v m.get/\oC c.free into lp.length m m'
def Ze(c:Co)(into:Int):Prop:=into= -1\/(0<=into/\into<c.free)
def uj(f:Val):Prop:=∀(e:List (jm×Int))(v:Vw)(σ τ:Int->Int),(∀i,0<=i->i<8->σ i=τ i)->f e v σ=f e v τ
structure Mx(P:Ck->Prop)(g:Co->Int->Co×Int)(z:Sz)(f:Val):Prop where
 pq:uj f
 lay:∀(ck:Ck)(c:Co)(into:Int),Fit ck c->P ck->c.free+z.wide<=2008->Ze c into->
  ∃(fr:Fr)(r free':Int),g c into=(⟨c.code++jX fr.is,c.jA,free'⟩,r)/\Xs c z fr r free'/\ahc ck c into fr r f
theorem Mx.of{P P':Ck->Prop}{g:Co->Int->Co×Int}{z:Sz}{f:Val}(h:Mx P g z f)(hp:∀ck,P' ck->P ck):Mx P' g z f:=⟨h.pq,λck c into hf hP=>h.lay ck c into hf (hp ck hP)⟩
theorem Mx.grow{P:Ck->Prop}{g:Co->Int->Co×Int}{z z':Sz}{f:Val}(h:Mx P g z f)(h1:z.wide<=z'.wide)(h2:z.deep<=z'.deep)(h3:z.jD<=z'.jD)(h4:z.jM<=z'.jM):Mx P g z' f:=⟨h.pq,λck c into hf hP hw hi=>by
 obtain⟨fr,r,f',e,x,w⟩:=h.lay ck c into hf hP (by omega) hi;exact⟨fr,r,f',e,⟨x.f1,x.f2,x.r0,x.r1,by have:=x.r3;omega,x.ok,by have:=x.jD;omega,by have:=x.deep;omega,by have:=x.jM;omega,x.low.wide (by omega)⟩,w⟩⟩
theorem NW(x:Int)(h:jO x):wrap64 x=x:=by unfold jO at h;unfold wrap64;omega
theorem Me(c:Co)(h0:0<=c.free)(h1:c.free<=1000000):c.hold=(c.jZ (c.free+1),c.free):=by
 unfold Co.hold;rw[NW (c.free+1) (by unfold jO;omega),NW _ (by unfold jO;omega)]
 congr 1
 omega
theorem OE(c:Co)(into:Int)(h0:0<=c.free)(h1:c.free<=1000000)(hi:Ze c into):∃r f',c.choose into=(⟨c.code,c.jA,f'⟩,r)/\c.free<=f'/\f'<=c.free+1/\0<=r/\r<f'/\(r=into\/c.free<=r):=by
 unfold Co.choose;rcases hi with h|⟨h2,h3⟩
 .rw[jl h,Me c h0 h1];exact⟨c.free,c.free+1,rfl,by omega,by omega,by omega,by omega,jh (by omega)⟩
 .rw[jk (by omega)];exact⟨into,c.free,rfl,by omega,by omega,h2,h3,ji rfl⟩
theorem TP(f:Nat):∀(k r:Nat),r<128^(k+1)->k<=f->(qo f r).length<=k+1:=by
 induction f with
 |zero=>intro k r _ _;simp[qo]
 |succ f ih=>
  intro k r hr hk;unfold qo;split
  .rename_i h;cases k with
   |zero=>omega
   |succ k=>
    have:=ih k (r/128) (by
     rw[iY]at hr;exact Nat.div_lt_of_lt_mul (by rw[Nat.mul_comm];exact hr)) (by omega)
    simp only[aF];omega
  .simp
theorem xq(n:Int)(h0:0<=n)(h1:n<2008):(pK n).length<=2:=by
 refine TP 9 1 _ ?_ (by omega);unfold qW;rw[jk (by omega)];omega
theorem acG(n:Int)(h0:0<=n)(h1:n<3):(pK n).length<=1:=by
 refine TP 9 0 _ ?_ (by omega);unfold qW;rw[jk (by omega)];omega
theorem anD(n:Int):(pK n).length<=10:=by
 refine TP 9 9 _ ?_ (by omega);have:=YN n;omega
theorem qV{n:Int}(h0:0<=n)(h1:n<2008):Zh 115 n:=⟨by unfold jO;omega,λ_=>⟨h0,h1⟩,λh=>by cases h⟩
theorem Jf(o a b:Int)(ha:0<=a/\a<2008)(hb:0<=b/\b<2008):((jX [⟨o,[a,b]⟩]).length:Int)<=5:=by
 have:=xq a ha.1 ha.2;have:=xq b hb.1 hb.2;simp only[nk,l9,enc,aX,aF,c8,dJ,aA];omega
theorem aaH(o a b d:Int)(ha:0<=a/\a<2008)(hb:0<=b/\b<2008)(hd:0<=d/\d<2008):((jX [⟨o,[a,b,d]⟩]).length:Int)<=7:=by
 have:=xq a ha.1 ha.2;have:=xq b hb.1 hb.2;have:=xq d hd.1 hd.2;simp only[nk,l9,enc,aX,aF,c8,dJ,aA];omega
theorem MV(P:Ck->Prop)(n:Int)(hn:jO n):Mx P (wH n) ⟨1,0,1,13⟩ (λ_ _ _=>n):=by
 refine⟨λ_ _ _ _ _=>rfl,?_⟩;intro ck c into hf hP hw hi;have h8:=hf.free;have hw:c.free+1<=2008:=hw;obtain⟨r,f',e,e1,e2,e3,e4,e5⟩:=OE c into (by omega) (by omega) hi;have hins:qN ⟨6,[r,n]⟩:=⟨⟨by show(0:Int)<=6;omega,by show(6:Int)<=36;omega⟩,r,[n],rfl,qV e3 (by omega),n,[],rfl,⟨hn,(λh=>by cases h),λh=>by cases h⟩,rfl⟩;refine⟨Fr.ins ⟨6,[r,n]⟩,r,f',?_,⟨e1,e2,e3,e4,jh (by show r<c.free+1;omega),Fr.wW hins (ji (by show(6:Int)<=6;omega)) false,aV _,aj _,?_,?_⟩,?_⟩
 .unfold wH;rw[e];simp[Co.lay,Fr.ins,nk,l9,enc]
 .have:=xq r e3 (by omega);have:=anD n;simp only[Fr.ins,nk,l9,enc,aX,aF,c8,dJ,aA];omega
 .exact kY.one ⟨λ_=>by show r+1<=c.free+1;omega,(λh=>by cases h),trivial⟩
 .intro v S jG k lp m _ hS _ _ hl _;have hg:=yh (v:=v) (jG:=jG) (m:=m) (i:=⟨6,[r,n]⟩) hS.head (by show(6:Int)<=6;omega) (by show(6:Int)≠36;omega);refine⟨m.put r n,hg,vG m r n e3 ?_,xO e5 e3⟩;have:=(hl ⟨6,[r,n]⟩ (by simp[Fr.ins])).1 rfl;omega
theorem afs(P:Ck->Prop)(slot:List (jm×Int)->Int)(f:Val)(hc:uj f)(h:∀ck c,Fit ck c->P ck->0<=slot c.jA/\slot c.jA<c.free/\∀v σ,f (lu c σ) v σ=σ (slot c.jA)):Mx P (λc _=>(c,slot c.jA)) ⟨0,0,0,0⟩ f:=by
 refine⟨hc,?_⟩;intro ck c into hf hP hw hi;obtain⟨h1,h2,h3⟩:=h ck c hf hP;refine⟨Fr.nil,slot c.jA,c.free,?_,⟨aV _,by omega,h1,h2,ji h2,Fr.Nj false,aV _,aj _,by simp[Fr.nil,l9],kY.nil _⟩,?_⟩
 .simp[Fr.nil,l9]
 .intro v S jG k lp m _ _ _ _ _ _;exact⟨m,Reaches.refl _ _ _ _ _,(h3 v m.get).symm,oC.refl _ _ _ _⟩
def rF(o:Int):Prop:=o=7\/o=8\/o=9\/o=23\/o=24\/o=27\/o=28\/o=29\/o=30\/o=31\/o=32\/o=33\/o=34
theorem rF.shape{o:Int}(h:rF o):Hx.shape o=[115,115]/\6<=o/\o<=36/\o≠36:=by
 unfold rF at h;rcases h with rfl|rfl|rfl|rfl|rfl|rfl|rfl|rfl|rfl|rfl|rfl|rfl|rfl<;>exact⟨by decide,by omega,by omega,by omega⟩
theorem rF.out{o:Int}(h:rF o)(v:Vw)(a b:Int):outcome v o a b=outcome v o a 0:=by
 unfold rF at h;rcases h with rfl|rfl|rfl|rfl|rfl|rfl|rfl|rfl|rfl|rfl|rfl|rfl|rfl<;>simp[outcome]
theorem rF.work{o:Int}(h:rF o)(v:Vw)(k r:Int)(m:Mc):Hx.work v (stepOf ⟨o,[k,r]⟩) m=m.put k (outcome v o (m.get r) 0):=by
 have e:=h.out v (m.get r) (m.get 0);unfold rF at h;unfold Hx.work;rw[jk (by show¬o=6;omega),jk (by show¬o=21;omega),jk (by show¬o=22;omega),jk (by show¬o=25;omega),jk (by show¬o=26;omega)];exact congrArg _ e
theorem Gx{ck:Ck}{c:Co}{m m':Mc}{d:Nat}(h:Ty ck c m.get)(hs:oC c.free (-1) d m m')(hf:Fit ck c):Ty ck c m'.get:=
 ⟨λi h0 h1=>by have:=hf.free;rw[hs.jE i h0 (by omega) (by omega)];exact h.jG i h0 h1,λn hn=>by have:=hf.jE n hn;rw[hs.jE n.2 this.1 this.2 (by omega)];exact h.num n hn,λj k n hk hn hd=>by
   have:=hf.jE n (bT hn);rw[hs.jE _ this.1 this.2 (by omega)];exact h.oI j k n hk hn hd⟩
theorem anX{P:Ck->Prop}{g:Co->Int->Co×Int}{z:Sz}{f:Val}{o:Int}(h:Mx P g z f)(ho:rF o):Mx P (λc into=>c.one o into {give:=g}) ⟨max z.wide 1,z.deep,z.jD+1,z.jM+5⟩ (λns v σ=>outcome v o (f ns v σ) 0):=by
 refine⟨λns v σ τ h1=>by show outcome v o (f ns v σ) 0=outcome v o (f ns v τ) 0;rw[h.pq ns v σ τ h1],?_⟩;intro ck c into hf hP hw hi;have h8:=hf.free;have hw:c.free+max z.wide 1<=2008:=hw;obtain⟨fr,r,f',e,x,w⟩:=h.lay ck c (-1) hf hP (by omega) (ji rfl);obtain⟨k,f2,e',e1,e2,e3,e4,e5⟩:=OE ((⟨c.code++jX fr.is,c.jA,f'⟩:Co).jZ c.free) into (by show 0<=c.free;omega) (by show c.free<=1000000;omega) hi;have e1:c.free<=f2:=e1;have e2:f2<=c.free+1:=e2;have e5:=e5;have x1:=x.r1;have x0:=x.r0;have xf:=x.f2;obtain⟨hsh,o6,Nr,o3⟩:=ho.shape;have hins:qN ⟨o,[k,r]⟩:=⟨⟨by show 0<=o;omega,Nr⟩,by show IZ (Hx.shape o) _;rw[hsh];exact⟨k,[r],rfl,qV e3 (by omega),r,[],rfl,qV x0 (by omega),rfl⟩⟩;refine⟨fr.seq (Fr.ins ⟨o,[k,r]⟩),k,f2,?_,⟨e1,e2,e3,e4,jh (by show k<c.free+max z.wide 1;omega),Fr.ug x.ok (Fr.wW hins (ji o6) false),?_,?_,?_,?_⟩,?_⟩
 .unfold Co.one;simp only;rw[e];simp only;rw[e'];simp only[Co.lay,Fr.seq,Fr.ins,nI,nk,l9,enc,aX,Co.jZ,bY]
 .have:=x.jD;show fr.jD+1<=z.jD+1;omega
 .have:=x.deep;show max fr.deep 0<=z.deep;omega
 .have:=x.jM;have:=Jf o k r ⟨e3,by omega⟩ ⟨x0,by omega⟩;show((jX (fr.is++[⟨o,[k,r]⟩])).length:Int)<=z.jM+5;rw[nI,aA];omega
 .refine(x.low.wide ?_).append (kY.one ?_)
  .show c.free+z.wide<=c.free+max z.wide 1;omega
  .rw[show Hx.shape (⟨o,[k,r]⟩:I).o=[115,115]from hsh];exact⟨λ_=>by show k+1<=c.free+max z.wide 1;omega,λ_=>by show r+1<=c.free+max z.wide 1;omega,trivial⟩
 .intro v S jG kk lp m hv hS hd hll hl ht;have hd:lp.length+max fr.deep 0<=8:=hd;obtain⟨m1,g1,g2,g3⟩:=w v S jG kk lp m hv hS.left (by omega) hll hl.left ht;have hS2:=hS.right (x.ok.size kk lp);have hg:=yh (v:=v) (jG:=jG) (m:=m1) (i:=⟨o,[k,r]⟩) hS2.head o6 o3;rw[ho.work]at hg;refine⟨m1.put k (outcome v o (m1.get r) 0),g1.trans hg,?_,(g3.less (aV _) (jh (ji (by omega))) (aj _)).trans (xO e5 e3)⟩;have hlk:=hl.right ⟨o,[k,r]⟩ (by simp[Fr.ins]);rw[show Hx.shape (⟨o,[k,r]⟩:I).o=[115,115]from hsh]at hlk;have:=hlk.1 rfl;rw[vG _ _ _ e3 (by rw[g3.len];omega),g2]
theorem Fit.more{ck:Ck}{c:Co}(h:Fit ck c){code:List Int}{f':Int}(hf:c.free<=f'):Fit ck ⟨code,c.jA,f'⟩:=
 ⟨h.en,h.jA,λn hn=>by have:=h.jE n hn;exact⟨this.1,by show n.2<f';omega⟩,by have:=h.free;show 8<=f';omega⟩
theorem Ty.jA{ck:Ck}{c c':Co}{σ:Int->Int}(h:Ty ck c σ)(hn:c'.jA=c.jA):Ty ck c' σ:=⟨h.jG,by rw[hn];exact h.num,by rw[hn];exact h.oI⟩
theorem BA{ck:Ck}{c:Co}{m m':Mc}{d:Nat}(hf:Fit ck c)(hs:oC c.free (-1) d m m'):lu c m'.get=lu c m.get:=by
 unfold lu;refine List.map_congr_left λn hn=>?_;have:=hf.jE n hn;rw[hs.jE n.2 this.1 this.2 (by omega)]
theorem aat{ck:Ck}{c:Co}{f:Val}{m m':Mc}{d:Nat}(h:uj f)(hf:Fit ck c)(hs:oC c.free (-1) d m m'){v:Vw}:f (lu c m'.get) v m'.get=f (lu c m.get) v m.get:=by
 rw[BA hf hs];exact h _ v m'.get m.get λi h0 h1=>hs.jE i h0 (by have:=hf.free;omega) (by omega)
def zV(o:Int):Prop:=(10<=o/\o<=20)\/o=35
theorem zV.shape{o:Int}(h:zV o):Hx.shape o=[115,115,115]/\6<=o/\o<=36/\o≠36:=by
 unfold zV at h;refine⟨?_,by omega,by omega,by omega⟩;unfold Hx.shape;rw[jk (by omega),jk (by omega),jk (by omega),jk (by omega),jk (by omega),jk (by omega),jl (by omega)]
theorem zV.work{o:Int}(h:zV o)(v:Vw)(k r q:Int)(m:Mc):Hx.work v (stepOf ⟨o,[k,r,q]⟩) m=m.put k (outcome v o (m.get r) (m.get q)):=by
 unfold zV at h;unfold Hx.work;rw[jk (by show¬o=6;omega),jk (by show¬o=21;omega),jk (by show¬o=22;omega),jk (by show¬o=25;omega),jk (by show¬o=26;omega)]
 rfl
theorem arB{P:Ck->Prop}{g g':Co->Int->Co×Int}{z z':Sz}{f f':Val}{o:Int}(h:Mx P g z f)(h':Mx P g' z' f')(ho:zV o):
 Mx P (λc into=>c.two o into {give:=g} {give:=g'}) ⟨max (max z.wide (1+z'.wide)) 1,max z.deep z'.deep,z.jD+z'.jD+1,z.jM+z'.jM+7⟩ (λns v σ=>outcome v o (f ns v σ) (f' ns v σ)):=by
 refine⟨λns v σ τ h1=>by show outcome v o (f ns v σ) (f' ns v σ)=outcome v o (f ns v τ) (f' ns v τ);rw[h.pq ns v σ τ h1,h'.pq ns v σ τ h1],?_⟩;intro ck c into hf hP hw hi;have h8:=hf.free;have hw:c.free+max (max z.wide (1+z'.wide)) 1<=2008:=hw;obtain⟨fr,r,p,e,x,w⟩:=h.lay ck c (-1) hf hP (by omega) (ji rfl);have x1:=x.r1;have x0:=x.r0;have xf:=x.f2;have xg:=x.f1;obtain⟨fr',r',p',ee,x',w'⟩:=h'.lay ck ⟨c.code++jX fr.is,c.jA,p⟩ (-1) (hf.more xg) hP (by show p+z'.wide<=2008;omega) (ji rfl);have y1:=x'.r1;have y0:=x'.r0;have yf:=x'.f2;have yg:=x'.f1;have y3:r'<p\/r'<p+z'.wide:=x'.r3;have x3:=x.r3;obtain⟨k,f2,e',e1,e2,e3,e4,e5⟩:=OE ((⟨c.code++jX fr.is++jX fr'.is,c.jA,p'⟩:Co).jZ c.free) into (by show 0<=c.free;omega) (by show c.free<=1000000;omega) hi;have e1:=e1;have e2:f2<=c.free+1:=e2;have e5:=e5;obtain⟨hsh,o6,Nr,o3⟩:=ho.shape;have hins:qN ⟨o,[k,r,r']⟩:=⟨⟨by show 0<=o;omega,Nr⟩,by show IZ (Hx.shape o) _;rw[hsh];exact⟨k,[r,r'],rfl,qV e3 (by omega),r,[r'],rfl,qV x0 (by omega),r',[],rfl,qV y0 (by omega),rfl⟩⟩;refine⟨fr.seq (fr'.seq (Fr.ins ⟨o,[k,r,r']⟩)),k,f2,?_,⟨e1,e2,e3,e4,jh (by show k<c.free+max (max z.wide (1+z'.wide)) 1;omega),Fr.ug x.ok (Fr.ug x'.ok (Fr.wW hins (ji o6) false)),?_,?_,?_,?_⟩,?_⟩
 .unfold Co.two;simp only;rw[e];simp only;rw[ee];simp only;rw[e'];simp only[Co.lay,Fr.seq,Fr.ins,nI,nk,l9,enc,aX,Co.jZ,bY]
 .have:=x.jD;have:=x'.jD;show fr.jD+(fr'.jD+1)<=z.jD+z'.jD+1;omega
 .have:=x.deep;have:=x'.deep;show max fr.deep (max fr'.deep 0)<=max z.deep z'.deep;omega
 .have:=x.jM;have:=x'.jM;have:=aaH o k r r' ⟨e3,by omega⟩ ⟨x0,by omega⟩ ⟨y0,by omega⟩;show((jX (fr.is++(fr'.is++[⟨o,[k,r,r']⟩]))).length:Int)<=z.jM+z'.jM+7;rw[nI,nI,aA,aA];omega
 .refine(x.low.wide ?_).append ((x'.low.wide ?_).append (kY.one ?_))
  .show c.free+z.wide<=c.free+max (max z.wide (1+z'.wide)) 1;omega
  .show p+z'.wide<=c.free+max (max z.wide (1+z'.wide)) 1;omega
  .rw[show Hx.shape (⟨o,[k,r,r']⟩:I).o=[115,115,115]from hsh];exact⟨λ_=>by show k+1<=c.free+max (max z.wide (1+z'.wide)) 1;omega,λ_=>by show r+1<=c.free+max (max z.wide (1+z'.wide)) 1;omega,λ_=>by show r'+1<=c.free+max (max z.wide (1+z'.wide)) 1;omega,trivial⟩
 .intro v S jG kk lp m hv hS hd hll hl ht;have hd:lp.length+max fr.deep (max fr'.deep 0)<=8:=hd;obtain⟨m1,g1,g2,g3⟩:=w v S jG kk lp m hv hS.left (by omega) hll hl.left ht;have hS2:=hS.right (x.ok.size kk lp);have t1:Ty ck ⟨c.code++jX fr.is,c.jA,p⟩ m1.get:=(Gx ht g3 hf).jA rfl;obtain⟨m2,q1,q2,q3⟩:=w' v S jG (kk+fr.size) lp m1 hv hS2.left (by omega) (by rw[g3.uU];exact hll) (by rw[g3.len];exact hl.right.left) t1;have q3:=q3;have hS3:=hS2.right (x'.ok.size (kk+fr.size) lp);have hg:=yh (v:=v) (jG:=jG) (m:=m2) (i:=⟨o,[k,r,r']⟩) hS3.head o6 o3;rw[ho.work]at hg;have hsz:(fr.seq (fr'.seq (Fr.ins ⟨o,[k,r,r']⟩))).size=fr.size+(fr'.size+1):=rfl;refine⟨m2.put k (outcome v o (m2.get r) (m2.get r')),?_,?_,((g3.trans (q3.less xg (jh (ji (by omega))) (aj _))).less (aV _) (jh (ji (by omega))) (aj _)).trans (xO e5 e3)⟩
  .rw[hsz,<-fE,<-fE];exact(g1.trans q1).trans hg
  .have hlk:=hl.right.right ⟨o,[k,r,r']⟩ (by simp[Fr.ins]);rw[show Hx.shape (⟨o,[k,r,r']⟩:I).o=[115,115,115]from hsh]at hlk;have:=hlk.1 rfl;rw[vG _ _ _ e3 (by rw[q3.len,g3.len];omega),q2,q3.jE r x0 x1 (by omega),g2];show outcome v o _ (f' (lu c m1.get) v m1.get)=_;rw[aat h'.pq hf g3]
section
def yQ(x:Int):Int:=bits .and .u64 x (IntKind.u64.wrap (x-1))
theorem Lm{x:Int}(h0:0<x)(h1:x<18446744073709551616):0<=yQ x/\yQ x<x:=by
 unfold yQ;obtain⟨n,rfl⟩:=bI (Int.le_of_lt h0);have e:IntKind.u64.wrap ((n:Int)-1)=((n-1:Nat):Int):=by
  rw[IntKind.wrap_u64];omega
 rw[e,bits_and_u64_nat n (n-1) (by omega) (by omega)];have h2:n&&&(n-1)<=n-1:=Nat.and_le_right;omega
def Bq:Nat->Int->List Int
 |0,_=>[]
 |n+1,x=>if x=0 then []else tz x::Bq n (yQ x)
def bitsOf(x:Int):List Int:=Bq x.toNat x
theorem ZK:∀(n k:Nat)(x:Int),0<=x->x<18446744073709551616->x.toNat<=n->x.toNat<=k->Bq n x=Bq k x
 |0,0,_,_,_,_,_=>rfl
 |0,k+1,x,h0,_,hn,_=>by
  have:x=0:=by omega
  subst this;simp[Bq]
 |n+1,0,x,h0,_,_,hk=>by
  have:x=0:=by omega
  subst this;simp[Bq]
 |n+1,k+1,x,h0,h1,hn,hk=>by
  unfold Bq;split
  .rfl
  .rename_i hx;have h2:=Lm (x:=x) (by omega) h1;rw[ZK n k (yQ x) (by omega) (by omega) (by omega) (by omega)]
theorem ZL{x:Int}(h0:0<x)(h1:x<18446744073709551616):bitsOf x=tz x::bitsOf (yQ x):=by
 have h2:=Lm h0 h1;obtain⟨n,hn⟩:∃n,x.toNat=n+1:=⟨x.toNat-1,by omega⟩;unfold bitsOf;rw[hn]
 conv=>lhs;unfold Bq
 rw[jk (by omega)]
 congr 1
 exact ZK n (yQ x).toNat (yQ x) (by omega) (by omega) (by omega) (aj _)
theorem Xc{x:Int}(h0:0<x)(h1:x<18446744073709551616):0<=tz x/\tz x<64:=by
 unfold tz;have:=(Lib.lowest_bit 64 x.toNat (by omega) (by omega)).2;omega
variable {v:Vw}{S:List St}{jG:List Int}
theorem turns{k lC:Nat}{list a b:Int}{d:Nat}(Inv:List Int->Mc->Prop)
 (hbody:∀(i x:Int)(rest:List Int)(m:Mc),0<=i->i<64->Inv (i::rest) m->∃m2,Reaches v S jG (k+1) ((m.put a i).lU d x) (kR (mg list a b d lC) k m2).2.toNat (kR (mg list a b d lC) k m2).1/\m2.mV d=x/\Inv rest m2):
 ∀(n:Nat)(x:Int)(m:Mc),x.toNat<=n->0<=x->x<18446744073709551616->m.mV d=x->Inv (bitsOf x) m->∃m',Reaches v S jG (kR (mg list a b d lC) k m).2.toNat (kR (mg list a b d lC) k m).1 lC m'/\Inv [] m':=by
 intro n;induction n with
 |zero=>
  intro x m hn h0 _ hx hI;have:x=0:=by omega
  subst this;have e:kR (mg list a b d lC) k m=(m,(lC:Int)):=by unfold kR;rw[jl (by exact hx)];rfl
  rw[e];exact⟨m,Reaches.refl _ _ _ _ _,hI⟩
 |succ n ih=>
  intro x m hn h0 h1 hx hI;rcases Int.lt_or_eq_of_le h0 with hp|hz
  .have h2:=Lm hp h1;have ht:=Xc hp h1;rw[ZL hp h1]at hI;have e:kR (mg list a b d lC) k m=((m.put a (tz x)).lU d (yQ x),(k:Int)+1):=by
    have hx':m.mV (mg list a b d lC).depth=x:=hx;unfold kR;rw[hx',jk (by omega)]
    rfl
   obtain⟨m2,g1,g2,g3⟩:=hbody (tz x) (yQ x) _ m ht.1 ht.2 hI;obtain⟨m',q1,q2⟩:=ih (yQ x) m2 (by omega) h2.1 (by omega) g2 g3;rw[e];refine⟨m',?_,q2⟩;rw[show((k:Int)+1).toNat=k+1 by omega];exact g1.trans q1
  .subst hz;have e:kR (mg list a b d lC) k m=(m,(lC:Int)):=by unfold kR;rw[jl (by exact hx)];rfl
   rw[e];exact⟨m,Reaches.refl _ _ _ _ _,hI⟩
theorem amH{k lC:Nat}{list a b:Int}{d:Nat}{m:Mc}(hS:S[k]? =some (mg list a b d lC))(hd:d<8)(Inv:List Int->Mc->Prop)(hm:m.left.length=8)
 (hbody:∀(i x:Int)(rest:List Int)(m:Mc),0<=i->i<64->Inv (i::rest) m->∃m2,Reaches v S jG (k+1) ((m.put a i).lU d x) (kR (mg list a b d lC) k m2).2.toNat (kR (mg list a b d lC) k m2).1/\m2.mV d=x/\Inv rest m2)
 (hI:∀x,Inv (bitsOf (pU (bits .and .i64 (m.get b) (v.all list)))) (m.lU d x)):∃m',Reaches v S jG k m lC m'/\Inv [] m':=by
 have hu:=EU (bits .and .i64 (m.get b) (v.all list));obtain⟨m',q1,q2⟩:=turns (lC:=lC) (list:=list) (a:=a) (b:=b) Inv hbody (pU (bits .and .i64 (m.get b) (v.all list))).toNat _ (rG v (mg list a b d lC) m) (aj _) hu.1 hu.2 (Qb m d _ (by omega)) (hI _);refine⟨m',Reaches.trans ?_ q1,q2⟩;have hpos:0<=(kR (mg list a b d lC) k (rG v (mg list a b d lC) m)).2:=by
  unfold kR;split
  .show(0:Int)<=lC;omega
  .show(0:Int)<=(k:Int)+1;omega
 refine Ac hS ?_;unfold Hx.step;rw[jk (by show¬(4:Int)=1;omega),jk (by show¬(4:Int)=2;omega),jk (by show¬(4:Int)=3;omega),jl (by rfl)];rw[iH hpos]
theorem aaJ{k j lC:Nat}{list a b:Int}{d:Nat}{m:Mc}(hS:S[k]? =some (mg list a b d lC))(hj:S[j]? =some (Ed k)):Reaches v S jG j m (kR (mg list a b d lC) k m).2.toNat (kR (mg list a b d lC) k m).1:=by
 have hpos:0<=(kR (mg list a b d lC) k m).2:=by
  unfold kR;split
  .show(0:Int)<=lC;omega
  .show(0:Int)<=(k:Int)+1;omega
 refine Ac hj ?_;unfold Hx.step;rw[jk (by show¬(0:Int)=1;omega),jk (by show¬(0:Int)=2;omega),jk (by show¬(0:Int)=3;omega),jk (by show¬(0:Int)=4;omega),jk (by show¬(0:Int)=5;omega),jl (by rfl)];show(match S[((k:Int)).toNat]?with|some l=>_|none=>_)=_;rw[bK,hS];simp only;rw[iH hpos]
 rfl
theorem aqC{k j lC:Nat}{list a b q:Int}{d:Nat}{m:Mc}(hS:S[k]? =some (mg list a b d lC))(hj:S[j]? =some (Rk q k))(hz:m.get q=0):Reaches v S jG j m (kR (mg list a b d lC) k m).2.toNat (kR (mg list a b d lC) k m).1:=by
 have hpos:0<=(kR (mg list a b d lC) k m).2:=by
  unfold kR;split
  .show(0:Int)<=lC;omega
  .show(0:Int)<=(k:Int)+1;omega
 refine Ac hj ?_;unfold Hx.step;rw[jk (by show¬(5:Int)=1;omega),jk (by show¬(5:Int)=2;omega),jk (by show¬(5:Int)=3;omega),jk (by show¬(5:Int)=4;omega),jl (by rfl),jl (by exact hz)];show(match S[((k:Int)).toNat]?with|some l=>_|none=>_)=_;rw[bK,hS];simp only;rw[iH hpos]
 rfl
theorem aqE{k j:Nat}{q:Int}{m:Mc}(hj:S[j]? =some (Rk q k))(hz:m.get q≠0):Reaches v S jG j m (j+1) m:=by
 refine Ac hj ?_;unfold Hx.step;rw[jk (by show¬(5:Int)=1;omega),jk (by show¬(5:Int)=2;omega),jk (by show¬(5:Int)=3;omega),jk (by show¬(5:Int)=4;omega),jl (by rfl),jk (by exact hz)]
 rfl
end
end
section
open Go.RowKit Hx
attribute [local go_sem ↓] Go.wp_at_zero Go.wp_at_succ
attribute [local go_sem] kL
section
variable {B:Nat}{w:jo}{v:jr}
theorem ab4:(prog.info? 5).map (λi=>(i.zero,i.size,i.bytes))=some (some (.int .u8 0),1,1):=by kernel_rfl
def uo(l:List Int):List jr:=l.map (Value.int .u8)
theorem ar4(x:Nat)(h:x<18446744073709551616):(18446744073709551615^^^x:Nat)=18446744073709551615-x:=by
 have h1:=congrArg BitVec.toNat (BitVec.allOnes_xor (x:=BitVec.ofNat 64 x));rw[BitVec.toNat_xor,BitVec.toNat_not,BitVec.toNat_allOnes,BitVec.toNat_ofNat,iQ h]at h1;simpa using h1
theorem agC(n:Int):IntKind.u64.wrap (IntKind.u64.wrap n * 2)=(2 * n)%18446744073709551616:=by
 show(n%18446744073709551616 * 2)%18446744073709551616=(2 * n)%18446744073709551616;omega
theorem ar8(n:Int)(h:¬n<0):IntKind.u64.wrap (IntKind.u64.wrap n * 2)=((qW n:Nat):Int):=by
 rw[agC];unfold qW;rw[jk h];omega
theorem ar7(n:Int)(h:n<0):bits BinOp.xor IntKind.u64 IntKind.u64.max (IntKind.u64.wrap (IntKind.u64.wrap n * 2))=((qW n:Nat):Int):=by
 rw[agC];unfold qW;rw[jl h];have e1:(2 * n)%18446744073709551616=(((2 * n)%18446744073709551616).toNat:Int):=by omega
 have e2:IntKind.u64.max=((18446744073709551615:Nat):Int):=rfl;have hlt:((2 * n)%18446744073709551616).toNat<18446744073709551616:=by omega
 rw[e1,e2,bits_xor_u64_nat _ _ (by decide) hlt,ar4 _ hlt];omega
theorem ad4(r:Nat):bits BinOp.or IntKind.u8 ((r:Int)%256) 128=((r%128+128:Nat):Int):=by
 have h:∀k:Fin 256,bits .or .u8 (k.val:Int) 128=((k.val%128+128:Nat):Int):=by decide+kernel
 have h1:=h ⟨r%256,by omega⟩;simp only at h1;have e:((r%256:Nat):Int)=(r:Int)%256:=by omega
 rw[e]at h1;rw[h1];omega
structure EX(B:Nat)(w wr:jo)(v0 v:jr)(m':Nat)(ys:List jr)(rr gg:Nat)(all:List jr):Prop where
 row:wr.ownsRow B 5 1 v m' ys
 grown:w.grownBy wr v0.ownBlock
 own:∀g,v.ownBlock=some g->v0.ownBlock=some g\/w.heap.size<=g
 bd:rr<2 * 128^gg
 len:m'+gg<=1100000000
 eq:ys++uo (qo gg rr)=all
theorem WA{n:Nat}{T:jv}{k:Nat}{us:List jr}(h:w.ownsRow B T k v n us):∃a cap,v=.slice a n cap:=by
 rcases h with⟨_,⟨h2,h3⟩|⟨g,cap,cur,h2,_⟩⟩
 .subst h3;exact⟨_,_,h2⟩
 .exact⟨_,_,h2⟩
theorem EX.more{wr w2:jo}{v0:jr}{a1:Option Addr}{m' c1 rr gk g cap:Nat}{ys all:List jr}(h:EX B w wr v0 (.slice a1 m' c1) m' ys rr (gk+1) all)(h128:128<=rr){o:Obj}
 (hown:w2.ownsRow B 5 1 (.slice (some (Ad g 0)) (m'+1) cap) (m'+1) (ys++[.int .u8 ((rr%128+128:Nat):Int)]))(hgr:(wr.alloc o).grownBy w2 (Value.slice a1 m' c1).ownBlock)(hat:(Value.slice a1 m' c1).ownBlock=some g\/g=wr.heap.size+1):
 EX B w w2 v0 (.slice (some (Ad g 0)) (m'+1) cap) (m'+1) (ys++[.int .u8 ((rr%128+128:Nat):Int)]) (rr/128) gk all:=by
 have hs:=h.grown.size;refine⟨hown,(h.grown.trans (ah wr o _)).andThen hgr (λj ej=>?_),λk hk=>?_,?_,by have:=h.len;omega,?_⟩
 .rcases h.own j ej with e|e
  .exact jh e
  .exact ji e
 .simp only[Value.ownBlock,bJ]at hk;subst hk;rcases hat with e|e
  .exact h.own g e
  .right;omega
 .have:=h.bd;rw[iY]at this;omega
 .have h1:=h.eq;unfold qo at h1;rw[jl h128]at h1;simpa [uo]using h1
theorem EX.last{wr w2:jo}{v0:jr}{a1:Option Addr}{m' c1 rr gk g cap m0:Nat}{ys all:List jr}(h:EX B w wr v0 (.slice a1 m' c1) m' ys rr gk all)(h128:rr<128){o:Obj}(hm0:all.length=m0)
 (hown:w2.ownsRow B 5 1 (.slice (some (Ad g 0)) (m'+1) cap) (m'+1) (ys++[.int .u8 (rr:Int)]))(hgr:(wr.alloc o).grownBy w2 (Value.slice a1 m' c1).ownBlock)(hat:(Value.slice a1 m' c1).ownBlock=some g\/g=wr.heap.size+1):
 m'+1=m0/\w2.ownsRow B 5 1 (.slice (some (Ad g 0)) m0 cap) m0 all/\w.grownBy w2 v0.ownBlock/\(v0.ownBlock=some g\/w.heap.size<=g):=by
 have hs:=h.grown.size;have he:qo gk rr=[(rr:Int)]:=by
  cases gk with
  |zero=>rfl
  |succ k=>unfold qo;rw[jk (by omega)]
 have h1:=h.eq;rw[he]at h1;have h2:ys++[.int .u8 (rr:Int)]=all:=h1;rw[h2]at hown;have hlen:m'+1=m0:=by
  have h3:=h.row.1;rw[<-hm0,<-h2];simp only[aA,aF,bg];omega
 subst hlen;refine⟨rfl,hown,(h.grown.trans (ah wr o _)).andThen hgr (λj ej=>?_),?_⟩
 .rcases h.own j ej with e|e
  .exact jh e
  .exact ji e
 .rcases hat with e|e
  .exact h.own g e
  .right;omega
theorem ahv(xs:List jr)(m:Nat)(n:Int)(hrow:w.ownsRow B 5 1 v m xs)(hB:B<=w.heap.size)(hm:m<=1000000000):
 Calls prog 144 #[v,Im n] w λe w'=>∃g cap,e=.returned (.slice (some (Ad g 0)) (m+(pK n).length) cap)/\w'.ownsRow B 5 1 (.slice (some (Ad g 0)) (m+(pK n).length) cap) (m+(pK n).length) (xs++uo (pK n))/\w.grownBy w' v.ownBlock/\(v.ownBlock=some g\/w.heap.size<=g):=by
 obtain⟨i0,hi,hz0,hz1,hz2⟩:=info_parts ab4;obtain⟨a,cp,rfl⟩:=WA hrow;have hz:qW n<2 * 128^9:=by unfold qW;split<;>omega
 have HO:Hid (EX B w w (.slice a m cp) (.slice a m cp) m xs (qW n) 9 (xs++uo (pK n))):=⟨hrow,aN _ _,λg h=>ji h,hz,by omega,rfl⟩;have hl0:(xs++uo (pK n)).length=m+(pK n).length:=by
  have:=hrow.1;simp only[aA,uo,List.length_map];omega
 have Y1:=jB hl0;clear hrow hl0;generalize xs++uo (pK n)=all at *;generalize m+(pK n).length=m0 at *;by_cases hn:n<0
 .have d0:decide (n<0)=true:=by simpa using hn
  have HZ:=jB (ar7 n hn);go_enter func144,ntmps144;go_wp2_with fail;go_loopg [0,5] 9 (λgg v r wr=>Hid (∃m' ys rr,r=.int .u64 ((rr:Nat):Int)/\EX B w wr (.slice a m cp) v m' ys rr gg all))
  case atStart=>exact⟨m,xs,qW n,by rw[HZ.out],HO.out⟩
  case round=>
   obtain⟨m',ys,rr,hr,hI⟩:=hrel.out;clear hrel HO HZ;subst hr;obtain⟨a1,c1,rfl⟩:=WA hI.row;have hl:=hI.len;have hbd:=hI.bd;have hB2:=dH hB hI.grown.size;have DW:=jB (λo=>hI.row.alloc o);by_cases h128:128<=rr
   .have d1:decide ((128:Int)<=(rr:Int))=true:=by simp;omega
    obtain⟨gk',rfl⟩:∃g',gk=g'+1:=by
     cases gk with
     |zero=>rw[Nat.pow_zero]at hbd;omega
     |succ g'=>exact⟨g',rfl⟩
    have HI:=jB hI;obtain⟨bt,hor⟩:∃bt,bits BinOp.or IntKind.u8 ((rr:Int)%256) 128=bt:=⟨_,rfl⟩;have Kv:=jB (hor.symm.trans (ad4 rr));clear hI hbd;go_wp2_with (at_builtin;refine wpList_append_lies _ rfl _ _ 194 rfl B 5 i0 (.int .u8 0) 1 1 Tryz.underlying194 hi hz0 hz1 hz2 rfl (by decide) (.slice a1 m' c1) m' ys rfl (DW.out _) (Ad wr.heap.size 0) 1 1 [.int .u8 bt] rfl rfl (cell_one_new _ _ _) (by simp[Value.oneCell']) (by decide) (by unfold maxLen;omega) (by omega) (by simp;omega) (wr.heap.size+1) (by simp) ?_;intro g cap w2 hown hgr hat hlt);rw[Kv.out]at hown;have HN:=jB (HI.out.more h128 hown hgr hat);clear hown hgr hat HI DW Kv;go_roundg gk'
    case measure=>omega
    case rel=>exact⟨m'+1,_,rr/128,congrArg (Value.int .u64) (by omega),HN.out⟩
   .have d1:decide ((128:Int)<=(rr:Int))=false:=by simp;omega
    have HI:=jB hI;have hmod:(rr:Int)%256=(rr:Int):=by omega
    clear hI hbd;go_wp2_with (at_builtin;refine wpList_append_lies _ rfl _ _ 194 rfl B 5 i0 (.int .u8 0) 1 1 Tryz.underlying194 hi hz0 hz1 hz2 rfl (by decide) (.slice a1 m' c1) m' ys rfl (DW.out _) (Ad wr.heap.size 0) 1 1 [.int .u8 (rr:Int)] rfl rfl (cell_one_new _ _ _) (by simp[Value.oneCell']) (by decide) (by unfold maxLen;omega) (by omega) (by simp;omega) (wr.heap.size+1) (by simp) ?_;intro g cap w2 hown hgr hat hlt);have hX:=HI.out.last (by omega) Y1.out hown hgr hat;have HN:=jB hX;clear hown hgr hat HI DW hX;go_ret;exact⟨g,cap,by rw[HN.out.1];rfl,HN.out.2⟩
 .have d0:decide (n<0)=false:=by simpa using hn
  have HZ:=jB (ar8 n hn);go_enter func144,ntmps144;go_wp2_with fail;go_loopg [0,5] 9 (λgg v r wr=>Hid (∃m' ys rr,r=.int .u64 ((rr:Nat):Int)/\EX B w wr (.slice a m cp) v m' ys rr gg all))
  case atStart=>exact⟨m,xs,qW n,by rw[HZ.out],HO.out⟩
  case round=>
   obtain⟨m',ys,rr,hr,hI⟩:=hrel.out;clear hrel HO HZ;subst hr;obtain⟨a1,c1,rfl⟩:=WA hI.row;have hl:=hI.len;have hbd:=hI.bd;have hB2:=dH hB hI.grown.size;have DW:=jB (λo=>hI.row.alloc o);by_cases h128:128<=rr
   .have d1:decide ((128:Int)<=(rr:Int))=true:=by simp;omega
    obtain⟨gk',rfl⟩:∃g',gk=g'+1:=by
     cases gk with
     |zero=>rw[Nat.pow_zero]at hbd;omega
     |succ g'=>exact⟨g',rfl⟩
    have HI:=jB hI;obtain⟨bt,hor⟩:∃bt,bits BinOp.or IntKind.u8 ((rr:Int)%256) 128=bt:=⟨_,rfl⟩;have Kv:=jB (hor.symm.trans (ad4 rr));clear hI hbd;go_wp2_with (at_builtin;refine wpList_append_lies _ rfl _ _ 194 rfl B 5 i0 (.int .u8 0) 1 1 Tryz.underlying194 hi hz0 hz1 hz2 rfl (by decide) (.slice a1 m' c1) m' ys rfl (DW.out _) (Ad wr.heap.size 0) 1 1 [.int .u8 bt] rfl rfl (cell_one_new _ _ _) (by simp[Value.oneCell']) (by decide) (by unfold maxLen;omega) (by omega) (by simp;omega) (wr.heap.size+1) (by simp) ?_;intro g cap w2 hown hgr hat hlt);rw[Kv.out]at hown;have HN:=jB (HI.out.more h128 hown hgr hat);clear hown hgr hat HI DW Kv;go_roundg gk'
    case measure=>omega
    case rel=>exact⟨m'+1,_,rr/128,congrArg (Value.int .u64) (by omega),HN.out⟩
   .have d1:decide ((128:Int)<=(rr:Int))=false:=by simp;omega
    have HI:=jB hI;have hmod:(rr:Int)%256=(rr:Int):=by omega
    clear hI hbd;go_wp2_with (at_builtin;refine wpList_append_lies _ rfl _ _ 194 rfl B 5 i0 (.int .u8 0) 1 1 Tryz.underlying194 hi hz0 hz1 hz2 rfl (by decide) (.slice a1 m' c1) m' ys rfl (DW.out _) (Ad wr.heap.size 0) 1 1 [.int .u8 (rr:Int)] rfl rfl (cell_one_new _ _ _) (by simp[Value.oneCell']) (by decide) (by unfold maxLen;omega) (by omega) (by simp;omega) (wr.heap.size+1) (by simp) ?_;intro g cap w2 hown hgr hat hlt);have hX:=HI.out.last (by omega) Y1.out hown hgr hat;have HN:=jB hX;clear hown hgr hat HI DW hX;go_ret;exact⟨g,cap,by rw[HN.out.1];rfl,HN.out.2⟩
end
end
namespace Hx
open Go.RowKit
section
def kD(p:Ps):Prop:=p.k.kind=0/\p.k.text=⟨#[]⟩
structure mJ(s:jm)(p q:Ps):Prop where
 ok:q.Ok s
 mono:p.k.at'<=q.k.at'
 keeps:kD q\/q.dp=p.dp
 bad:kD p->kD q
def Deep(d:Nat)(p:Ps):Prop:=kD p\/(0<=p.dp/\p.dp<=20/\21<=d+p.dp)
variable {s:jm}{p q r:Ps}{d:Nat}
theorem mJ.refl(h:p.Ok s):mJ s p p:=⟨h,aV _,jh rfl,λb=>b⟩
theorem mJ.trans(h:mJ s p q)(k:mJ s q r):mJ s p r:=
 ⟨k.ok,fD h.mono k.mono,by
   rcases k.keeps with b|e
   .exact ji b
   .rcases h.keeps with b|e'
    .exact ji (k.bad b)
    .exact jh (e.trans e'),λb=>k.bad (h.bad b)⟩
theorem kD.fail(p:Ps):kD p.fail:=⟨rfl,rfl⟩
theorem kD.is(h:kD p){t:List UInt8}(ht:t≠[]):p.is t=false:=by
 unfold Ps.is;rw[h.2];cases t with
 |nil=>exact jq rfl ht
 |cons a l=>rfl
theorem kD.expect(h:kD p){t:List UInt8}(ht:t≠[]):kD (p.expect s t):=by
 unfold Ps.expect;rw[h.is ht];exact kD.fail p
theorem kD.close(h:kD p){t:List UInt8}(ht:t≠[]):kD (p.close s t):=h.expect ht
theorem kD.jW(h:kD p){t:List UInt8}(ht:t≠[]):kD (p.jW s t):=by
 unfold Ps.jW;split
 .exact kD.fail p
 .exact h.expect ht
theorem Ei(h:p.Ok s):mJ s p p.fail:=⟨h.fail,aV _,ji (kD.fail p),λ_=>kD.fail p⟩
theorem Gi(h:p.Ok s):p.k.at'+p.k.text.size<=(p.next s).k.at':=by
 have h1:=(NJ s _ h.tok.bd).2;have h2:=h.tok.oQ;show p.k.at'+(p.k.text.size:Int)<=(scan s (p.k.at'.toNat+p.k.text.size)).at';omega
theorem nV(h:p.Ok s)(hb:¬kD p):mJ s p (p.next s):=
 ⟨h.next,by have:=Gi h;omega,jh rfl,λb=>jq b hb⟩
theorem oM{t:List UInt8}(ht:t≠[])(h:p.is t=true):¬kD p:=λb=>by rw[b.is ht]at h;cases h
theorem Ij(h:p.k.kind≠0):¬kD p:=λb=>h b.1
theorem yj(h:p.Ok s){t:List UInt8}(ht:t≠[]):mJ s p (p.expect s t):=by
 unfold Ps.expect;split
 .rename_i hi;exact nV h (oM ht hi)
 .exact Ei h
theorem Ej(h:p.Ok s):mJ s p (p.name s).2:=by
 unfold Ps.name;split
 .rename_i hk;exact nV h (Ij (by rw[hk];decide))
 .exact Ei h
theorem Jm(h:p.Ok s){t u:List UInt8}(ht:t≠[])(hu:u≠[])(hq:mJ s (p.jW s t) r):mJ s p (r.close s u):=by
 have hc:=yj hq.ok (t:=u) hu;refine⟨hq.ok.close u,?_,?_,λb=>(hq.bad (b.jW ht)).close hu⟩
 .have h1:p.k.at'<=(p.jW s t).k.at':=by
   unfold Ps.jW;split
   .exact aV _
   .exact(yj h ht).mono
  exact fD h1 (fD hq.mono hc.mono)
 .rcases hc.keeps with b|e
  .exact ji b
  .rcases hq.keeps with b|e'
   .exact ji (b.close hu)
   .by_cases hd:p.dp=20
    .have hf:p.jW s t=p.fail:=by unfold Ps.jW;rw[jl hd]
     refine ji ((hq.bad ?_).close hu);rw[hf];exact kD.fail p
    .have hf:p.jW s t=(p.expect s t).Bz:=by unfold Ps.jW;rw[jk hd]
     rcases(yj h ht).keeps with b|e2
     .exact ji ((hq.bad (by rw[hf];exact b)).close hu)
     .refine jh ?_;show wrap64 ((r.expect s u).dp-1)=p.dp;rw[e,e',hf];show wrap64 (wrap64 ((p.expect s t).dp+1)-1)=p.dp;rw[e2];have:=h.dp;unfold jO at this;unfold wrap64;omega
theorem Deep.good(h:Deep d p)(k:mJ s p q):Deep d q:=by
 rcases h with b|⟨h1,h2,h3⟩
 .exact ji (k.bad b)
 .rcases k.keeps with b|e
  .exact ji b
  .exact jh (by rw[e];exact⟨h1,h2,h3⟩)
theorem Deep.jW(h:Deep (d+1) p)(ok:p.Ok s){t:List UInt8}(ht:t≠[]):Deep d (p.jW s t):=by
 rcases h with b|⟨h1,h2,h3⟩
 .exact ji (b.jW ht)
 .by_cases hd:p.dp=20
  .left;unfold Ps.jW;rw[jl hd];exact kD.fail p
  .have hf:p.jW s t=(p.expect s t).Bz:=by unfold Ps.jW;rw[jk hd]
   rw[hf];rcases(yj ok ht).keeps with b|e2
   .exact ji b
   .right;show 0<=wrap64 ((p.expect s t).dp+1)/\wrap64 ((p.expect s t).dp+1)<=20/\21<=(d:Int)+wrap64 ((p.expect s t).dp+1);rw[e2];unfold wrap64;omega
end
end Hx
section
open Go.RowKit Hx
theorem V3(xs:List Int)(hx:∀x∈xs,0<=x/\x<=1000001):0<=jS xs/\jS xs<=1000001:=by
 unfold jS;have:=xQ xs hx;exact xQ _ (by simp;omega)
theorem pW{a:Int}(h:0<=a/\a<=1000001):0<=jS [a]/\jS [a]<=1000001:=V3 _ (by simpa using h)
theorem rC{a b:Int}(h:0<=a/\a<=1000001)(k:0<=b/\b<=1000001):0<=jS [a,b]/\jS [a,b]<=1000001:=V3 _ (by simp;exact⟨h,k⟩)
structure oU(x:Sx):Prop where
 jy:0<=x.jy/\x.jy<=1000001
 of:x.of=3\/x.of=4
 all:∀b∈x.jF,kV b.2
theorem oU.law{x:Sx}(h:oU x):Lawful (oN x):=NM λb hb a=>(h.all b hb).law a
theorem uf{x:Sx}{c:Int}(hc:0<=c/\c<=1000001):0<=x.round c/\x.round c<=1000001:=by
 have h1:=xQ [1,c] (by simp;omega);unfold Hx.Sx.round;generalize lg [1,c]=y at *;unfold lg;simp only[bP,eF];split<;>omega
theorem oU.add{x:Sx}(h:oU x){b:Wd×Ex}(hb:kV b.2):oU (x.add b):=by
 refine⟨xQ _ (by have:=h.jy;have:=uf (x:=x) hb.jy;simp;omega),h.of,?_⟩;intro c hc;rcases List.mem_append.1 hc with hc|hc
 .exact h.all c hc
 .rw[cO.1 hc];exact hb
theorem VI(at' n:Int):kV (BN at' n):=vP (by simp[lM]) BM (by omega)
theorem RD(at' kind:Int)(b:Bool):kV (zO at' 1 kind b):=vP (by simp[lM]) BM (by omega)
theorem Gj:kV qR:=vP (by simp[lM]) BM (by omega)
theorem Ws(at' n:Int):kV (Dv at' n):=vP (by simp[lM]) BM (by omega)
theorem YF(at':Int)(d:Wd):kV (y8 at' d):=by
 have hk:∀k,kV (qZ 389 391 at' 1 k yY (λ_=>[.string d.text,Im d.at'])):=λk=>vP (by simp[lM]) BM (by omega);refine⟨λa=>⟨λw w' lo hi v ⟨k,h⟩ hb=>⟨k,((hk k).law a).loc _ _ _ _ _ h hb⟩,λw lo hi lo' hi' v ⟨k,h⟩ h1 h2=>⟨k,((hk k).law a).wide _ _ _ _ _ _ h h1 h2⟩⟩,λa w lo hi v ⟨k,h⟩=>(hk k).head _ _ _ _ _ h,λa a' w lo hi T b ⟨k,h⟩=>⟨k,(hk k).widen _ _ _ _ _ _ _ h⟩,?_⟩;show 0<=(1:Int)/\(1:Int)<=1000001;omega
theorem ack(at':Int){e:Ex}(h:kV e):kV (yV at' e):=vP (by simp[lM]) (qO (h.law _)) (pW h.jy)
theorem VL(at' kind:Int)(sign:jm){e:Ex}(h:kV e):kV (tV at' kind sign e):=vP (by simp[lM]) (qO (h.law _)) (pW h.jy)
theorem RF(at' kind:Int)(sign:jm){l r:Ex}(h:kV l)(k:kV r):kV (o7 at' kind sign l r):=vP (by simp[lM]) (wC (h.law _) (k.law _)) (rC h.jy k.jy)
theorem QH(at' kind owner:Int){e:Ex}(h:kV e)(d:Wd):kV (vS at' kind owner e d):=vP (by simp[lM]) (qO (h.law _)) (pW h.jy)
theorem adI(at':Int){l r:Ex}(h:kV l)(k:kV r):kV (xJ at' l r):=vP (by simp[lM]) (wC (h.law _) (k.law _)) (rC h.jy k.jy)
theorem Zu(kind:Int)(what:jm){x:Sx}(h:oU x):kV (xW kind what x):=vP (by simp[lM]) (qO h.law) (pW h.jy)
theorem adf(kind:Int)(what:jm){x:Sx}(h:oU x){b:Wd×Ex}(k:kV b.2):kV (vK kind what x b):=vP (by simp[lM]) (wC h.law (k.law _)) (rC h.jy (uf k.jy))
theorem agy{e:Ex}(h:kV e)(a:Int):kV (e.widen a):=⟨h.law,h.head,h.widen,h.jy⟩
section
def qp(s:jm)(ex:Ps->Ex×Ps)(d:Nat):Prop:=∀p,p.Ok s->Deep d p->mJ s p (ex p).2/\kV (ex p).1
variable {s:jm}{ex:Ps->Ex×Ps}{d:Nat}{p:Ps}
theorem PX(h:qp s ex d)(ok:p.Ok s)(hd:Deep (d+1) p):mJ s p (BH s ex p).2/\kV (BH s ex p).1:=by
 obtain⟨h1,h2⟩:=h _ (ok.jW [40]) (hd.jW ok (by simp));exact⟨Jm ok (by simp) (by simp) h1,h2⟩
theorem adJ(h:qp s ex d)(ok:p.Ok s)(hd:Deep (d+1) p)(at':Int){e:Ex}(he:kV e):mJ s p (qL s ex at' e p).2/\kV (qL s ex at' e p).1:=by
 obtain⟨h1,h2⟩:=h _ (ok.jW [40]) (hd.jW ok (by simp));exact⟨Jm ok (by simp) (by simp) h1,adI at' he h2⟩
theorem Oy(h:qp s ex d)(ok:p.Ok s)(hd:Deep (d+1) p):mJ s p (pY s ex p).2/\kV (pY s ex p).1.2:=by
 have o0:=ok.jW [40];have g1:=Ej o0;have g2:=yj g1.ok (t:=[58]) (by simp);have g12:=g1.trans g2;obtain⟨h1,h2⟩:=h _ g2.ok ((hd.jW ok (by simp)).good g12);exact⟨Jm ok (by simp) (by simp) (g12.trans h1),h2⟩
theorem afd(h:qp s ex d):∀(n:Nat)(x:Sx)(p:Ps),oU x->p.Ok s->Deep (d+1) p->mJ s p (qM s ex n x p).2/\oU (qM s ex n x p).1.1
 |0,x,p,hx,ok,_=>⟨mJ.refl ok,hx⟩
 |n+1,x,p,hx,ok,hd=>by
  unfold qM;split
  .rename_i h1;have g1:=nV ok (oM (by simp) h1);split
   .rename_i h2;have g2:=nV g1.ok (oM (by simp) h2);have g12:=g1.trans g2;obtain⟨g3,e3⟩:=Oy h g2.ok (hd.good g12);have CX:=g12.trans g3;obtain⟨g4,e4⟩:=afd h n _ _ (hx.add e3) g3.ok (hd.good CX);exact⟨CX.trans g4,e4⟩
   .exact⟨g1,hx⟩
  .exact⟨mJ.refl ok,hx⟩
theorem adx{of:Int}(h:setOf p.k.text.data.toList=some of):¬kD p:=λb=>by
 rw[b.2]at h;simp[setOf]at h
theorem Q9{u:List UInt8}{of:Int}(h:setOf u=some of):of=3\/of=4:=by
 unfold setOf at h;split at h
 .exact ji (fZ h).symm
 .split at h
  .exact jh (fZ h).symm
  .cases h
theorem Rf(h:qp s ex d)(n:Nat)(ok:p.Ok s)(hd:Deep (d+1) p):mJ s p (mZ s ex n p).2/\oU (mZ s ex n p).1.1:=by
 unfold mZ;split
 .rename_i of hof;have g1:=nV ok (adx hof);obtain⟨g2,e2⟩:=afd h n ⟨p.k.at',1,p.k.text,of,[]⟩ _ ⟨by simp,Q9 hof,by simp⟩ g1.ok (hd.good g1);exact⟨g1.trans g2,e2⟩
 .exact⟨Ei ok,⟨by simp,jh rfl,by simp⟩⟩
theorem Zv(ok:p.Ok s)(hb:¬kD p){x:Sx}(hx:oU x)(kind:Int):mJ s p (G9 s x kind p).2/\kV (G9 s x kind p).1:=⟨nV ok hb,Zu kind _ hx⟩
theorem Qq(h:qp s ex d)(ok:p.Ok s)(hd:Deep (d+1) p)(hb:¬kD p){x:Sx}(hx:oU x)(kind:Int):mJ s p (Dp s ex x kind p).2/\kV (Dp s ex x kind p).1:=by
 have g1:=nV ok hb;obtain⟨g2,e2⟩:=Oy h g1.ok (hd.good g1);exact⟨g1.trans g2,adf kind _ hx e2⟩
theorem ao8(h:qp s ex d)(ok:p.Ok s)(hd:Deep (d+1) p){x:Sx}(hx:oU x):mJ s p (zL s ex x p).2/\kV (zL s ex x p).1:=by
 unfold zL;split
 .rename_i h1;exact Zv ok (oM (by simp) h1) hx _
 split
 .rename_i h1;exact Zv ok (oM (by simp) h1) hx _
 split
 .rename_i h1;rcases Bool.or_eq_true_iff.1 h1 with h1|h1
  .exact Qq h ok hd (oM (by simp) h1) hx _
  .exact Qq h ok hd (oM (by simp) h1) hx _
 split
 .rename_i h1;exact Qq h ok hd (oM (by simp) h1) hx _
 split
 .rename_i h1;exact Qq h ok hd (oM (by simp) h1) hx _
 .exact⟨Ei ok,Gj⟩
theorem apf(h:qp s ex d)(n:Nat)(ok:p.Ok s)(hd:Deep (d+1) p):mJ s p (yB s ex n p).2/\kV (yB s ex n p).1:=by
 obtain⟨g1,e1⟩:=Rf h n ok hd;unfold yB;split
 .obtain⟨g2,e2⟩:=ao8 h g1.ok (hd.good g1) e1;exact⟨g1.trans g2,e2⟩
 .exact⟨g1.trans (Ei g1.ok),Gj⟩
theorem ZF(h:qp s ex d)(n:Nat)(ok:p.Ok s)(hd:Deep (d+1) p):mJ s p (rX s ex n p).2/\kV (rX s ex n p).1:=by
 unfold rX;split
 .rename_i h1;exact⟨nV ok (Ij (by rw[h1];decide)),VI _ _⟩
 split
 .rename_i h1;exact⟨nV ok (Ij (by rw[h1];decide)),Ws _ _⟩
 split
 .rename_i h1;exact⟨nV ok (Ij (by rw[h1];decide)),YF _ _⟩
 split
 .rename_i h1;refine⟨nV ok ?_,RD _ _ _⟩;rcases Bool.or_eq_true_iff.1 h1 with h1|h1
  .exact oM (by simp) h1
  .exact oM (by simp) h1
 split
 .obtain⟨g1,e1⟩:=PX h ok hd;exact⟨g1,agy e1 _⟩
 split
 .rename_i h1;have g0:=nV ok (oM (by simp) h1);obtain⟨g1,e1⟩:=PX h g0.ok (hd.good g0);exact⟨g0.trans g1,ack _ e1⟩
 split
 .exact apf h n ok hd
 .exact⟨Ei ok,Gj⟩
theorem Tn(h:qp s ex d)(at':Int):∀(n:Nat)(e:Ex)(p:Ps),kV e->p.Ok s->Deep (d+1) p->mJ s p (qA s ex at' n e p).2/\kV (qA s ex at' n e p).1
 |0,e,p,he,ok,_=>⟨mJ.refl ok,he⟩
 |n+1,e,p,he,ok,hd=>by
  unfold qA;split
  .rename_i h1;have g1:=nV ok (oM (by simp) h1);have g2:=g1.trans (Ej g1.ok);simp only;split
   .obtain⟨g3,e3⟩:=adJ h g2.ok (hd.good g2) at' he;obtain⟨g4,e4⟩:=Tn h at' n _ _ e3 g3.ok (hd.good (g2.trans g3));exact⟨(g2.trans g3).trans g4,e4⟩
   .obtain⟨g4,e4⟩:=Tn h at' n _ _ (QH at' _ _ he _) g2.ok (hd.good g2);exact⟨g2.trans g4,e4⟩
  .exact⟨mJ.refl ok,he⟩
theorem ZI(h:qp s ex d)(n:Nat)(ok:p.Ok s)(hd:Deep (d+1) p):mJ s p (xY s ex n p).2/\kV (xY s ex n p).1:=by
 obtain⟨g1,e1⟩:=ZF h n ok hd;obtain⟨g2,e2⟩:=Tn h p.k.at' n _ _ e1 g1.ok (hd.good g1);exact⟨g1.trans g2,e2⟩
theorem Nb(h:qp s ex d)(n:Nat):∀(m:Nat)(p:Ps),p.Ok s->Deep (d+1) p->mJ s p (qQ s ex n m p).2/\kV (qQ s ex n m p).1
 |0,p,ok,hd=>ZI h n ok hd
 |m+1,p,ok,hd=>by
  unfold qQ;split
  .rename_i h1;have g1:=nV ok (oM (by simp) h1);obtain⟨g2,e2⟩:=Nb h n m _ g1.ok (hd.good g1);exact⟨g1.trans g2,VL _ _ _ e2⟩
  split
  .rename_i h1;have g1:=nV ok (oM (by simp) h1);obtain⟨g2,e2⟩:=Nb h n m _ g1.ok (hd.good g1);exact⟨g1.trans g2,VL _ _ _ e2⟩
  .exact ZI h n ok hd
theorem adw{of:Int}(h5:of<=5)(h:oL p.k.text.data.toList=of):¬kD p:=λb=>by
 rw[b.2]at h;simp[oL]at h;omega
theorem adU{lower:Ps->Ex×Ps}(h:qp s lower d)(of:Int)(h5:of<=5)(at':Int):∀(n:Nat)(e:Ex)(p:Ps),kV e->p.Ok s->Deep d p->mJ s p (sF s lower of at' n e p).2/\kV (sF s lower of at' n e p).1
 |0,e,p,he,ok,_=>⟨mJ.refl ok,he⟩
 |n+1,e,p,he,ok,hd=>by
  unfold sF;split
  .rename_i h1;have g1:=nV ok (adw h5 h1);obtain⟨g2,e2⟩:=h _ g1.ok (hd.good g1);have g12:=g1.trans g2;simp only;split
   .exact⟨g12,RF _ _ _ he e2⟩
   .obtain⟨g3,e3⟩:=adU h of h5 at' n _ _ (RF at' _ _ he e2) g2.ok (hd.good g12);exact⟨g12.trans g3,e3⟩
  .exact⟨mJ.refl ok,he⟩
theorem Qy(h:qp s ex d)(n:Nat):∀(l:Nat),qp s (yx s ex n l) (d+1)
 |0=>λp ok hd=>Nb h n n p ok hd
 |l+1=>λp ok hd=>by
  obtain⟨g1,e1⟩:=Qy h n l p ok hd;obtain⟨g2,e2⟩:=adU (Qy h n l) (5-l) (by omega) p.k.at' n _ _ e1 g1.ok (hd.good g1);exact⟨g1.trans g2,e2⟩
theorem Hl(s:jm):∀(d:Nat),qp s (vF s d) d
 |0=>λ_ ok _=>⟨Ei ok,Gj⟩
 |d+1=>λp ok hd=>Qy (Hl s d) (s.size+1) 6 p ok hd
end
end
section
open Go.RowKit Hx
attribute [local go_sem ↓] Go.wp_at_zero Go.wp_at_succ
attribute [local go_sem] kL
section
def mM(fn:FuncId)(more:List jr)(s:jm)(p:Ps)(r:Ex×Ps):Prop:=
 ∀(P:Nat)(w:jo),jR w P s p->Calls prog fn (Pt P 0::more).toArray w λe w'=>∃v,e=.returned v/\r.1.here r.1.at' w' w.heap.size w'.heap.size v/\jR w' P s r.2/\w.grownBy w' (some P)
structure Reader(s:jm)(ex:Ps->Ex×Ps)(d:Nat):Prop where
 good:qp s ex d
 reads:∀p,p.Ok s->Deep d p->mM 238 [] s p (ex p)
theorem kV.keep{e:Ex}(h:kV e){a:Int}{w w':jo}{lo hi P:Nat}{v:jr}(hh:e.here a w lo hi v)(hP:P<lo)(hi':hi<=w.heap.size)(hg:w.grownBy w' (some P)):e.here a w' lo hi v:=
 (h.law a).loc _ _ _ _ _ hh λb b1 b2=>hg.block b (by omega) (by simp;omega)
variable {s:jm}{ex:Ps->Ex×Ps}{d:Nat}{p:Ps}
theorem abZ(hs:s.size<=4000)(h:Reader s ex d)(ok:p.Ok s)(hd:Deep (d+1) p):mM 274 [] s p (BH s ex p):=by
 intro P w hp;have hlt:=hp.lt;have o1:=ok.jW [40];have d1:=hd.jW ok (t:=[40]) (by simp);obtain⟨g1,x1⟩:=h.good _ o1 d1;have H0:=jB (Nx hp ok hs [40]);have H1:=jB (λx (hx:jR x P s (p.jW s [40]))=>h.reads _ o1 d1 P x hx);have H2:=jB (λx (hx:jR x P s (ex (p.jW s [40])).2)=>Lp hx g1.ok hs [41]);show Calls prog 274 #[Pt P 0] w λe w'=>∃v,e=.returned v/\(ex (p.jW s [40])).1.here (ex (p.jW s [40])).1.at' w' w.heap.size w'.heap.size v/\jR w' P s ((ex (p.jW s [40])).2.close s [41])/\w.grownBy w' (some P);generalize ex (p.jW s [40])=r at *;generalize p.jW s [40]=q at *;generalize r.2.close s [41]=q2 at *;have HX:Hid (kV r.1):=x1;clear hp o1 d1 g1 x1 ok hd h;go_enter func274,ntmps274;go_wp2_with fail;refine H0.out.mono ?_;rintro e w1 ⟨rfl,p1,k1⟩;have kH:=jB (jg p1 k1);clear p1 k1 H0;go_wp2_with fail;refine(H1.out _ kH.out.1).mono ?_;rintro e w2 ⟨v,rfl,e2,p2,k2⟩;have HP2:=jB (jg e2 (jg p2 k2));clear e2 p2 k2 H1;go_wp2_with fail;refine(H2.out _ HP2.out.2.1).mono ?_;rintro e w3 ⟨rfl,p3,k3⟩;have lF:=jB (jg p3 k3);clear p3 k3 H2;go_wp2_with fail;go_ret;obtain⟨a1,a2⟩:=kH.out;obtain⟨b0,b1,b2⟩:=HP2.out;obtain⟨c1,c2⟩:=lF.out;have s1:=a2.size;have s2:=b2.size;have s3:=c2.size;exact⟨v,rfl,(HX.out.law _).wide _ _ _ _ _ _ (HX.out.keep b0 (by omega) (aj _) c2) s1 s3,c1,(a2.trans b2).trans c2⟩
end
end
end Go.Proofs.YthllhabjfchgiaaGreatDoor
