import Derived.Test.YthllhabjfchgiaaGreatDoorHs20
import Derived.Laws.Bits64
set_option maxRecDepth 100000
set_option maxHeartbeats 8000000
set_option linter.unusedSimpArgs false
namespace Go.Proofs.YthllhabjfchgiaaGreatDoor
open _root_.Go.Proofs.Tryz
section
open Go.RowKit Hx
structure Fit(ck:Ck)(c:Co):Prop where
 en:ck.en=0
 jy:ck.jy.map (λk=>k.name.data.toList)=c.jy.map (λn=>n.1.data.toList)
 jD:∀n∈c.jy,0<=n.2/\n.2<c.free
 free:8<=c.free
structure Ty(ck:Ck)(c:Co)(σ:Int->Int):Prop where
 jF:∀i,0<=i->i<8->jK (σ i)
 num:∀n∈c.jy,jK (σ n.2)
 lD:∀(j:Nat)(k:Kn)(n:ji×Int),ck.jy[j]? =some k->c.jy[j]? =some n->k.kind=2->σ n.2=0\/σ n.2=1
structure Sz where
 wide:Int
 deep:Nat
 jC:Int
 jL:Int
abbrev Val:=List (ji×Int)->Vw->(Int->Int)->Int
def lM(c:Co)(σ:Int->Int):List (ji×Int):=c.jy.map λn=>(n.1,σ n.2)
structure Xs(c:Co)(z:Sz)(fr:Fr)(r free':Int):Prop where
 f1:c.free<=free'
 f2:free'<=c.free+1
 r0:0<=r
 r1:r<free'
 r3:r<c.free\/r<c.free+z.wide
 ok:fr.Ok false
 jC:fr.jC<=z.jC
 deep:fr.deep<=z.deep
 jL:((jX fr.is).length:Int)<=z.jL
 low:lF fr.is (c.free+z.wide)
def nM(v:Vw):Prop:=v.yO/\v.small
def ajn(ck:Ck)(c:Co)(into:Int)(fr:Fr)(r:Int)(f:Val):Prop:=
 ∀(v:Vw)(S:List St)(jF:List Int)(k:Nat)(lp:List Int)(m:Mc),nM v->uG S k (fr.jB k lp)->lp.length+fr.deep<=8->m.left.length=8->lF fr.is m.jD.length->Ty ck c m.get->
  ∃m',Reaches v S jF k m (k+fr.size) m'/\m'.get r=f (lM c m.get) v m.get/\oU c.free into lp.length m m'
def aaS(c:Co)(into:Int):Prop:=into= -1\/(0<=into/\into<c.free)
def uD(f:Val):Prop:=∀(e:List (ji×Int))(v:Vw)(σ τ:Int->Int),(∀i,0<=i->i<8->σ i=τ i)->f e v σ=f e v τ
structure Mx(P:Ck->Prop)(g:Co->Int->Co×Int)(z:Sz)(f:Val):Prop where
 pO:uD f
 lay:∀(ck:Ck)(c:Co)(into:Int),Fit ck c->P ck->c.free+z.wide<=2008->aaS c into->
  ∃(fr:Fr)(r free':Int),g c into=(⟨c.code++jX fr.is,c.jy,free'⟩,r)/\Xs c z fr r free'/\ajn ck c into fr r f
theorem Mx.of{P e:Ck->Prop}{g:Co->Int->Co×Int}{z:Sz}{f:Val}(h:Mx P g z f)(k:∀a,e a->P a):Mx e g z f:=⟨h.pO,λa c b j i=>h.lay a c b j (k a i)⟩
theorem Mx.grow{P:Ck->Prop}{g:Co->Int->Co×Int}{z z':Sz}{f:Val}(h:Mx P g z f)(n:z.wide<=z'.wide)(o:z.deep<=z'.deep)(t:z.jC<=z'.jC)(u:z.jL<=z'.jL):Mx P g z' f:=⟨h.pO,λb c a l k y m=>by
 obtain⟨j,r,i,e,x,w⟩:=h.lay b c a l k (by omega) m;exact⟨j,r,i,e,⟨x.f1,x.f2,x.r0,x.r1,by have:=x.r3;omega,x.ok,by have:=x.jC;omega,by have:=x.deep;omega,by have:=x.jL;omega,x.low.wide (by omega)⟩,w⟩⟩
theorem Py(x:Int)(h:jK x):wrap64 x=x:=by unfold jK at h;unfold wrap64;omega
theorem Oh(c:Co)(a:0<=c.free)(b:c.free<=1000000):c.hold=(c.kC (c.free+1),c.free):=by
 unfold Co.hold;rw[Py (c.free+1) (by unfold jK;omega),Py _ (by unfold jK;omega)]
 congr 1
 omega
theorem Qj(c:Co)(a:Int)(e:0<=c.free)(f:c.free<=1000000)(hi:aaS c a):∃r b,c.choose a=(⟨c.code,c.jy,b⟩,r)/\c.free<=b/\b<=c.free+1/\0<=r/\r<b/\(r=a\/c.free<=r):=by
 unfold Co.choose;rcases hi with h|⟨g,i⟩
 .rw[jh h,Oh c e f];exact⟨c.free,c.free+1,rfl,by omega,by omega,by omega,by omega,je (by omega)⟩
 .rw[jg (by omega)];exact⟨a,c.free,rfl,by omega,by omega,g,i,jf rfl⟩
theorem Vd(f:Nat):∀(k r:Nat),r<128^(k+1)->k<=f->(qH f r).length<=k+1:=by
 induction f with
 |zero=>intro k r _ _;simp[qH]
 |succ f ih=>
  intro k r a b;unfold qH;split
  .rename_i h;cases k with
   |zero=>omega
   |succ k=>
    have:=ih k (r/128) (by
     rw[iV]at a;exact Nat.div_lt_of_lt_mul (by rw[Nat.mul_comm];exact a)) (by omega)
    simp only[aF];omega
  .simp
theorem xX(n:Int)(a:0<=n)(b:n<2008):(pY n).length<=2:=by
 refine Vd 9 1 _ ?_ (by omega);unfold rD;rw[jg (by omega)];omega
theorem aej(n:Int)(a:0<=n)(b:n<3):(pY n).length<=1:=by
 refine Vd 9 0 _ ?_ (by omega);unfold rD;rw[jg (by omega)];omega
theorem ap0(n:Int):(pY n).length<=10:=by
 refine Vd 9 9 _ ?_ (by omega);have:=aam n;omega
theorem rC{n:Int}(a:0<=n)(b:n<2008):aaV 115 n:=⟨by unfold jK;omega,λ_=>⟨a,b⟩,λh=>by cases h⟩
theorem JZ(o a b:Int)(c:0<=a/\a<2008)(e:0<=b/\b<2008):((jX [⟨o,[a,b]⟩]).length:Int)<=5:=by
 have:=xX a c.1 c.2;have:=xX b e.1 e.2;simp only[ny,mD,enc,aX,aF,c8,dJ,aA];omega
theorem acp(o a b d:Int)(c:0<=a/\a<2008)(e:0<=b/\b<2008)(f:0<=d/\d<2008):((jX [⟨o,[a,b,d]⟩]).length:Int)<=7:=by
 have:=xX a c.1 c.2;have:=xX b e.1 e.2;have:=xX d f.1 f.2;simp only[ny,mD,enc,aX,aF,c8,dJ,aA];omega
theorem OB(P:Ck->Prop)(n:Int)(A:jK n):Mx P (wZ n) ⟨1,0,1,13⟩ (λ_ _ _=>n):=by
 refine⟨λ_ _ _ _ _=>rfl,?_⟩;intro C c f x E g z;have D:=x.free;have g:c.free+1<=2008:=g;obtain⟨r,u,e,j,l,a,o,t⟩:=Qj c f (by omega) (by omega) z;have b:rE ⟨6,[r,n]⟩:=⟨⟨by show(0:Int)<=6;omega,by show(6:Int)<=36;omega⟩,r,[n],rfl,rC a (by omega),n,[],rfl,⟨A,(λh=>by cases h),λh=>by cases h⟩,rfl⟩;refine⟨Fr.ins ⟨6,[r,n]⟩,r,u,?_,⟨j,l,a,o,je (by show r<c.free+1;omega),Fr.xP b (jf (by show(6:Int)<=6;omega)) false,aV _,aj _,?_,?_⟩,?_⟩
 .unfold wZ;rw[e];simp[Co.lay,Fr.ins,ny,mD,enc]
 .have:=xX r a (by omega);have:=ap0 n;simp only[Fr.ins,ny,mD,enc,aX,aF,c8,dJ,aA];omega
 .exact lF.one ⟨λ_=>by show r+1<=c.free+1;omega,(λh=>by cases h),trivial⟩
 .intro v S jF k lp m _ hS _ _ hl _;have y:=yM (v:=v) (jF:=jF) (m:=m) (i:=⟨6,[r,n]⟩) hS.head (by show(6:Int)<=6;omega) (by show(6:Int)≠36;omega);refine⟨m.put r n,y,vW m r n a ?_,yG t a⟩;have:=(hl ⟨6,[r,n]⟩ (by simp[Fr.ins])).1 rfl;omega
theorem ahf(P:Ck->Prop)(slot:List (ji×Int)->Int)(f:Val)(l:uD f)(h:∀a c,Fit a c->P a->0<=slot c.jy/\slot c.jy<c.free/\∀v σ,f (lM c σ) v σ=σ (slot c.jy)):Mx P (λc _=>(c,slot c.jy)) ⟨0,0,0,0⟩ f:=by
 refine⟨l,?_⟩;intro a c e n j t o;obtain⟨g,b,i⟩:=h a c n j;refine⟨Fr.nil,slot c.jy,c.free,?_,⟨aV _,by omega,g,b,jf b,Fr.OT false,aV _,aj _,by simp[Fr.nil,mD],lF.nil _⟩,?_⟩
 .simp[Fr.nil,mD]
 .intro v S jF k lp m _ _ _ _ _ _;exact⟨m,Reaches.refl _ _ _ _ _,(i v m.get).symm,oU.refl _ _ _ _⟩
def rW(o:Int):Prop:=o=7\/o=8\/o=9\/o=23\/o=24\/o=27\/o=28\/o=29\/o=30\/o=31\/o=32\/o=33\/o=34
theorem rW.shape{o:Int}(h:rW o):Hx.shape o=[115,115]/\6<=o/\o<=36/\o≠36:=by
 unfold rW at h;rcases h with rfl|rfl|rfl|rfl|rfl|rfl|rfl|rfl|rfl|rfl|rfl|rfl|rfl<;>exact⟨by decide,by omega,by omega,by omega⟩
theorem rW.out{o:Int}(h:rW o)(v:Vw)(a b:Int):outcome v o a b=outcome v o a 0:=by
 unfold rW at h;rcases h with rfl|rfl|rfl|rfl|rfl|rfl|rfl|rfl|rfl|rfl|rfl|rfl|rfl<;>simp[outcome]
theorem rW.work{o:Int}(h:rW o)(v:Vw)(k r:Int)(m:Mc):Hx.work v (stepOf ⟨o,[k,r]⟩) m=m.put k (outcome v o (m.get r) 0):=by
 have e:=h.out v (m.get r) (m.get 0);unfold rW at h;unfold Hx.work;rw[jg (by show¬o=6;omega),jg (by show¬o=21;omega),jg (by show¬o=22;omega),jg (by show¬o=25;omega),jg (by show¬o=26;omega)];exact congrArg _ e
theorem Ie{ck:Ck}{c:Co}{m g:Mc}{d:Nat}(h:Ty ck c m.get)(e:oU c.free (-1) d m g)(b:Fit ck c):Ty ck c g.get:=
 ⟨λi f l=>by have:=b.free;rw[e.jD i f (by omega) (by omega)];exact h.jF i f l,λn a=>by have:=b.jD n a;rw[e.jD n.2 this.1 this.2 (by omega)];exact h.num n a,λj k n t a o=>by
   have:=b.jD n (bT a);rw[e.jD _ this.1 this.2 (by omega)];exact h.lD j k n t a o⟩
theorem aqr{P:Ck->Prop}{g:Co->Int->Co×Int}{z:Sz}{f:Val}{o:Int}(h:Mx P g z f)(L:rW o):Mx P (λc a=>c.one o a {give:=g}) ⟨max z.wide 1,z.deep,z.jC+1,z.jL+5⟩ (λu v σ=>outcome v o (f u v σ) 0):=by
 refine⟨λu v σ τ Y=>by show outcome v o (f u v σ) 0=outcome v o (f u v τ) 0;rw[h.pO u v σ τ Y],?_⟩;intro R c a J Z M hi;have h8:=J.free;have M:c.free+max z.wide 1<=2008:=M;obtain⟨j,r,V,e,x,w⟩:=h.lay R c (-1) J Z (by omega) (jf rfl);obtain⟨k,D,T,y,A,l,U,C⟩:=Qj ((⟨c.code++jX j.is,c.jy,V⟩:Co).kC c.free) a (by show 0<=c.free;omega) (by show c.free<=1000000;omega) hi;have y:c.free<=D:=y;have A:D<=c.free+1:=A;have C:=C;have x1:=x.r1;have O:=x.r0;have xf:=x.f2;obtain⟨b,N,Q,o3⟩:=L.shape;have n:rE ⟨o,[k,r]⟩:=⟨⟨by show 0<=o;omega,Q⟩,by show JH (Hx.shape o) _;rw[b];exact⟨k,[r],rfl,rC l (by omega),r,[],rfl,rC O (by omega),rfl⟩⟩;refine⟨j.seq (Fr.ins ⟨o,[k,r]⟩),k,D,?_,⟨y,A,l,U,je (by show k<c.free+max z.wide 1;omega),Fr.uy x.ok (Fr.xP n (jf N) false),?_,?_,?_,?_⟩,?_⟩
 .unfold Co.one;simp only;rw[e];simp only;rw[T];simp only[Co.lay,Fr.seq,Fr.ins,nN,ny,mD,enc,aX,Co.kC,bY]
 .have:=x.jC;show j.jC+1<=z.jC+1;omega
 .have:=x.deep;show max j.deep 0<=z.deep;omega
 .have:=x.jL;have:=JZ o k r ⟨l,by omega⟩ ⟨O,by omega⟩;show((jX (j.is++[⟨o,[k,r]⟩])).length:Int)<=z.jL+5;rw[nN,aA];omega
 .refine(x.low.wide ?_).append (lF.one ?_)
  .show c.free+z.wide<=c.free+max z.wide 1;omega
  .rw[show Hx.shape (⟨o,[k,r]⟩:I).o=[115,115]from b];exact⟨λ_=>by show k+1<=c.free+max z.wide 1;omega,λ_=>by show r+1<=c.free+max z.wide 1;omega,trivial⟩
 .intro v S jF kk lp m hv hS H hll hl ht;have H:lp.length+max j.deep 0<=8:=H;obtain⟨F,W,X,G⟩:=w v S jF kk lp m hv hS.left (by omega) hll hl.left ht;have E:=hS.right (x.ok.size kk lp);have K:=yM (v:=v) (jF:=jF) (m:=F) (i:=⟨o,[k,r]⟩) E.head N o3;rw[L.work]at K;refine⟨F.put k (outcome v o (F.get r) 0),W.trans K,?_,(G.less (aV _) (je (jf (by omega))) (aj _)).trans (yG C l)⟩;have t:=hl.right ⟨o,[k,r]⟩ (by simp[Fr.ins]);rw[show Hx.shape (⟨o,[k,r]⟩:I).o=[115,115]from b]at t;have:=t.1 rfl;rw[vW _ _ _ l (by rw[G.len];omega),X]
theorem Fit.more{ck:Ck}{c:Co}(h:Fit ck c){a:List Int}{f':Int}(e:c.free<=f'):Fit ck ⟨a,c.jy,f'⟩:=
 ⟨h.en,h.jy,λn b=>by have:=h.jD n b;exact⟨this.1,by show n.2<f';omega⟩,by have:=h.free;show 8<=f';omega⟩
theorem Ty.jy{ck:Ck}{c a:Co}{σ:Int->Int}(h:Ty ck c σ)(b:a.jy=c.jy):Ty ck a σ:=⟨h.jF,by rw[b];exact h.num,by rw[b];exact h.lD⟩
theorem CP{ck:Ck}{c:Co}{m a:Mc}{d:Nat}(b:Fit ck c)(f:oU c.free (-1) d m a):lM c a.get=lM c m.get:=by
 unfold lM;refine List.map_congr_left λn e=>?_;have:=b.jD n e;rw[f.jD n.2 this.1 this.2 (by omega)]
theorem ab7{ck:Ck}{c:Co}{f:Val}{m a:Mc}{d:Nat}(h:uD f)(b:Fit ck c)(e:oU c.free (-1) d m a){v:Vw}:f (lM c a.get) v a.get=f (lM c m.get) v m.get:=by
 rw[CP b e];exact h _ v a.get m.get λi g j=>e.jD i g (by have:=b.free;omega) (by omega)
def AY(o:Int):Prop:=(10<=o/\o<=20)\/o=35
theorem AY.shape{o:Int}(h:AY o):Hx.shape o=[115,115,115]/\6<=o/\o<=36/\o≠36:=by
 unfold AY at h;refine⟨?_,by omega,by omega,by omega⟩;unfold Hx.shape;rw[jg (by omega),jg (by omega),jg (by omega),jg (by omega),jg (by omega),jg (by omega),jh (by omega)]
theorem AY.work{o:Int}(h:AY o)(v:Vw)(k r q:Int)(m:Mc):Hx.work v (stepOf ⟨o,[k,r,q]⟩) m=m.put k (outcome v o (m.get r) (m.get q)):=by
 unfold AY at h;unfold Hx.work;rw[jg (by show¬o=6;omega),jg (by show¬o=21;omega),jg (by show¬o=22;omega),jg (by show¬o=25;omega),jg (by show¬o=26;omega)]
 rfl
theorem avb{P:Ck->Prop}{g V:Co->Int->Co×Int}{z z':Sz}{f f':Val}{o:Int}(h:Mx P g z f)(O:Mx P V z' f')(ho:AY o):
 Mx P (λc l=>c.two o l {give:=g} {give:=V}) ⟨max (max z.wide (1+z'.wide)) 1,max z.deep z'.deep,z.jC+z'.jC+1,z.jL+z'.jL+7⟩ (λt v σ=>outcome v o (f t v σ) (f' t v σ)):=by
 refine⟨λt v σ τ W=>by show outcome v o (f t v σ) (f' t v σ)=outcome v o (f t v τ) (f' t v τ);rw[h.pO t v σ τ W,O.pO t v σ τ W],?_⟩;intro K c l D X hw hi;have h8:=D.free;have hw:c.free+max (max z.wide (1+z'.wide)) 1<=2008:=hw;obtain⟨j,r,p,e,x,w⟩:=h.lay K c (-1) D X (by omega) (jf rfl);have x1:=x.r1;have T:=x.r0;have xf:=x.f2;have xg:=x.f1;obtain⟨a,b,p',ee,n,w'⟩:=O.lay K ⟨c.code++jX j.is,c.jy,p⟩ (-1) (D.more xg) X (by show p+z'.wide<=2008;omega) (jf rfl);have y1:=n.r1;have y0:=n.r0;have yf:=n.f2;have yg:=n.f1;have y3:b<p\/b<p+z'.wide:=n.r3;have x3:=x.r3;obtain⟨k,U,e',L,M,A,e4,N⟩:=Qj ((⟨c.code++jX j.is++jX a.is,c.jy,p'⟩:Co).kC c.free) l (by show 0<=c.free;omega) (by show c.free<=1000000;omega) hi;have L:=L;have M:U<=c.free+1:=M;have N:=N;obtain⟨u,o6,OX,o3⟩:=ho.shape;have E:rE ⟨o,[k,r,b]⟩:=⟨⟨by show 0<=o;omega,OX⟩,by show JH (Hx.shape o) _;rw[u];exact⟨k,[r,b],rfl,rC A (by omega),r,[b],rfl,rC T (by omega),b,[],rfl,rC y0 (by omega),rfl⟩⟩;refine⟨j.seq (a.seq (Fr.ins ⟨o,[k,r,b]⟩)),k,U,?_,⟨L,M,A,e4,je (by show k<c.free+max (max z.wide (1+z'.wide)) 1;omega),Fr.uy x.ok (Fr.uy n.ok (Fr.xP E (jf o6) false)),?_,?_,?_,?_⟩,?_⟩
 .unfold Co.two;simp only;rw[e];simp only;rw[ee];simp only;rw[e'];simp only[Co.lay,Fr.seq,Fr.ins,nN,ny,mD,enc,aX,Co.kC,bY]
 .have:=x.jC;have:=n.jC;show j.jC+(a.jC+1)<=z.jC+z'.jC+1;omega
 .have:=x.deep;have:=n.deep;show max j.deep (max a.deep 0)<=max z.deep z'.deep;omega
 .have:=x.jL;have:=n.jL;have:=acp o k r b ⟨A,by omega⟩ ⟨T,by omega⟩ ⟨y0,by omega⟩;show((jX (j.is++(a.is++[⟨o,[k,r,b]⟩]))).length:Int)<=z.jL+z'.jL+7;rw[nN,nN,aA,aA];omega
 .refine(x.low.wide ?_).append ((n.low.wide ?_).append (lF.one ?_))
  .show c.free+z.wide<=c.free+max (max z.wide (1+z'.wide)) 1;omega
  .show p+z'.wide<=c.free+max (max z.wide (1+z'.wide)) 1;omega
  .rw[show Hx.shape (⟨o,[k,r,b]⟩:I).o=[115,115,115]from u];exact⟨λ_=>by show k+1<=c.free+max (max z.wide (1+z'.wide)) 1;omega,λ_=>by show r+1<=c.free+max (max z.wide (1+z'.wide)) 1;omega,λ_=>by show b+1<=c.free+max (max z.wide (1+z'.wide)) 1;omega,trivial⟩
 .intro v S jF kk lp m hv hS Y hll hl ht;have Y:lp.length+max j.deep (max a.deep 0)<=8:=Y;obtain⟨H,g1,g2,y⟩:=w v S jF kk lp m hv hS.left (by omega) hll hl.left ht;have C:=hS.right (x.ok.size kk lp);have t1:Ty K ⟨c.code++jX j.is,c.jy,p⟩ H.get:=(Ie ht y D).jy rfl;obtain⟨J,q1,q2,G⟩:=w' v S jF (kk+j.size) lp H hv C.left (by omega) (by rw[y.vk];exact hll) (by rw[y.len];exact hl.right.left) t1;have G:=G;have Q:=C.right (n.ok.size (kk+j.size) lp);have Z:=yM (v:=v) (jF:=jF) (m:=J) (i:=⟨o,[k,r,b]⟩) Q.head o6 o3;rw[ho.work]at Z;have R:(j.seq (a.seq (Fr.ins ⟨o,[k,r,b]⟩))).size=j.size+(a.size+1):=rfl;refine⟨J.put k (outcome v o (J.get r) (J.get b)),?_,?_,((y.trans (G.less xg (je (jf (by omega))) (aj _))).less (aV _) (je (jf (by omega))) (aj _)).trans (yG N A)⟩
  .rw[R,<-fE,<-fE];exact(g1.trans q1).trans Z
  .have F:=hl.right.right ⟨o,[k,r,b]⟩ (by simp[Fr.ins]);rw[show Hx.shape (⟨o,[k,r,b]⟩:I).o=[115,115,115]from u]at F;have:=F.1 rfl;rw[vW _ _ _ A (by rw[G.len,y.len];omega),q2,G.jD r T x1 (by omega),g2];show outcome v o _ (f' (lM c H.get) v H.get)=_;rw[ab7 O.pO D y]
section
def yx(x:Int):Int:=bits .and .u64 x (IntKind.u64.wrap (x-1))
theorem ND{x:Int}(a:0<x)(b:x<18446744073709551616):0<=yx x/\yx x<x:=by
 unfold yx;obtain⟨n,rfl⟩:=bI (Int.le_of_lt a);have e:IntKind.u64.wrap ((n:Int)-1)=((n-1:Nat):Int):=by
  rw[IntKind.wrap_u64];omega
 rw[e,bits_and_u64_nat n (n-1) (by omega) (by omega)];have c:n&&&(n-1)<=n-1:=Nat.and_le_right;omega
def xJ:Nat->Int->List Int
 |0,_=>[]
 |n+1,x=>if x=0 then []else tz x::xJ n (yx x)
def bitsOf(x:Int):List Int:=xJ x.toNat x
theorem abr:∀(n k:Nat)(x:Int),0<=x->x<18446744073709551616->x.toNat<=n->x.toNat<=k->xJ n x=xJ k x
 |0,0,_,_,_,_,_=>rfl
 |0,k+1,x,h0,_,hn,_=>by
  have:x=0:=by omega
  subst this;simp[xJ]
 |n+1,0,x,h0,_,_,hk=>by
  have:x=0:=by omega
  subst this;simp[xJ]
 |n+1,k+1,x,h0,h1,hn,hk=>by
  unfold xJ;split
  .rfl
  .rename_i b;have a:=ND (x:=x) (by omega) h1;rw[abr n k (yx x) (by omega) (by omega) (by omega) (by omega)]
theorem abt{x:Int}(a:0<x)(b:x<18446744073709551616):bitsOf x=tz x::bitsOf (yx x):=by
 have e:=ND a b;obtain⟨n,c⟩:∃n,x.toNat=n+1:=⟨x.toNat-1,by omega⟩;unfold bitsOf;rw[c]
 conv=>lhs;unfold xJ
 rw[jg (by omega)]
 congr 1
 exact abr n (yx x).toNat (yx x) (by omega) (by omega) (by omega) (aj _)
theorem YD{x:Int}(a:0<x)(b:x<18446744073709551616):0<=tz x/\tz x<64:=by
 unfold tz;have:=(Lib.lowest_bit 64 x.toNat (by omega) (by omega)).2;omega
variable {v:Vw}{S:List St}{jF:List Int}
theorem turns{k lC:Nat}{list a b:Int}{d:Nat}(c:List Int->Mc->Prop)
 (g:∀(i x:Int)(f:List Int)(m:Mc),0<=i->i<64->c (i::f) m->∃h,Reaches v S jF (k+1) ((m.put a i).lY d x) (kR (mQ list a b d lC) k h).2.toNat (kR (mQ list a b d lC) k h).1/\h.ni d=x/\c f h):
 ∀(n:Nat)(x:Int)(m:Mc),x.toNat<=n->0<=x->x<18446744073709551616->m.ni d=x->c (bitsOf x) m->∃o,Reaches v S jF (kR (mQ list a b d lC) k m).2.toNat (kR (mQ list a b d lC) k m).1 lC o/\c [] o:=by
 intro n;induction n with
 |zero=>
  intro x m G z _ l j;have:x=0:=by omega
  subst this;have e:kR (mQ list a b d lC) k m=(m,(lC:Int)):=by unfold kR;rw[jh (by exact l)];rfl
  rw[e];exact⟨m,Reaches.refl _ _ _ _ _,j⟩
 |succ n ih=>
  intro x m G z t l j;rcases Int.lt_or_eq_of_le z with u|H
  .have F:=ND u t;have A:=YD u t;rw[abt u t]at j;have e:kR (mQ list a b d lC) k m=((m.put a (tz x)).lY d (yx x),(k:Int)+1):=by
    have y:m.ni (mQ list a b d lC).depth=x:=l;unfold kR;rw[y,jg (by omega)]
    rfl
   obtain⟨h,C,D,E⟩:=g (tz x) (yx x) _ m A.1 A.2 j;obtain⟨o,I,J⟩:=ih (yx x) h (by omega) F.1 (by omega) D E;rw[e];refine⟨o,?_,J⟩;rw[show((k:Int)+1).toNat=k+1 by omega];exact C.trans I
  .subst H;have e:kR (mQ list a b d lC) k m=(m,(lC:Int)):=by unfold kR;rw[jh (by exact l)];rfl
   rw[e];exact⟨m,Reaches.refl _ _ _ _ _,j⟩
theorem ao3{k lC:Nat}{list a b:Int}{d:Nat}{m:Mc}(o:S[k]? =some (mQ list a b d lC))(y:d<8)(c:List Int->Mc->Prop)(z:m.left.length=8)
 (f:∀(i x:Int)(e:List Int)(m:Mc),0<=i->i<64->c (i::e) m->∃j,Reaches v S jF (k+1) ((m.put a i).lY d x) (kR (mQ list a b d lC) k j).2.toNat (kR (mQ list a b d lC) k j).1/\j.ni d=x/\c e j)
 (n:∀x,c (bitsOf (nY (bits .and .i64 (m.get b) (v.all list)))) (m.lY d x)):∃h,Reaches v S jF k m lC h/\c [] h:=by
 have l:=FT (bits .and .i64 (m.get b) (v.all list));obtain⟨h,t,u⟩:=turns (lC:=lC) (list:=list) (a:=a) (b:=b) c f (nY (bits .and .i64 (m.get b) (v.all list))).toNat _ (rX v (mQ list a b d lC) m) (aj _) l.1 l.2 (Rt m d _ (by omega)) (n _);refine⟨h,Reaches.trans ?_ t,u⟩;have g:0<=(kR (mQ list a b d lC) k (rX v (mQ list a b d lC) m)).2:=by
  unfold kR;split
  .show(0:Int)<=lC;omega
  .show(0:Int)<=(k:Int)+1;omega
 refine Bg o ?_;unfold Hx.step;rw[jg (by show¬(4:Int)=1;omega),jg (by show¬(4:Int)=2;omega),jg (by show¬(4:Int)=3;omega),jh (by rfl)];rw[iF g]
theorem acu{k j lC:Nat}{list a b:Int}{d:Nat}{m:Mc}(e:S[k]? =some (mQ list a b d lC))(f:S[j]? =some (GN k)):Reaches v S jF j m (kR (mQ list a b d lC) k m).2.toNat (kR (mQ list a b d lC) k m).1:=by
 have c:0<=(kR (mQ list a b d lC) k m).2:=by
  unfold kR;split
  .show(0:Int)<=lC;omega
  .show(0:Int)<=(k:Int)+1;omega
 refine Bg f ?_;unfold Hx.step;rw[jg (by show¬(0:Int)=1;omega),jg (by show¬(0:Int)=2;omega),jg (by show¬(0:Int)=3;omega),jg (by show¬(0:Int)=4;omega),jg (by show¬(0:Int)=5;omega),jh (by rfl)];show(match S[((k:Int)).toNat]?with|some l=>_|none=>_)=_;rw[bK,e];simp only;rw[iF c]
 rfl
theorem atB{k j lC:Nat}{list a b q:Int}{d:Nat}{m:Mc}(e:S[k]? =some (mQ list a b d lC))(f:S[j]? =some (Tf q k))(g:m.get q=0):Reaches v S jF j m (kR (mQ list a b d lC) k m).2.toNat (kR (mQ list a b d lC) k m).1:=by
 have c:0<=(kR (mQ list a b d lC) k m).2:=by
  unfold kR;split
  .show(0:Int)<=lC;omega
  .show(0:Int)<=(k:Int)+1;omega
 refine Bg f ?_;unfold Hx.step;rw[jg (by show¬(5:Int)=1;omega),jg (by show¬(5:Int)=2;omega),jg (by show¬(5:Int)=3;omega),jg (by show¬(5:Int)=4;omega),jh (by rfl),jh (by exact g)];show(match S[((k:Int)).toNat]?with|some l=>_|none=>_)=_;rw[bK,e];simp only;rw[iF c]
 rfl
theorem atD{k j:Nat}{q:Int}{m:Mc}(a:S[j]? =some (Tf q k))(b:m.get q≠0):Reaches v S jF j m (j+1) m:=by
 refine Bg a ?_;unfold Hx.step;rw[jg (by show¬(5:Int)=1;omega),jg (by show¬(5:Int)=2;omega),jg (by show¬(5:Int)=3;omega),jg (by show¬(5:Int)=4;omega),jh (by rfl),jg (by exact b)]
 rfl
end
end
section
open Go.RowKit Hx
attribute [local go_sem ↓] Go.wp_at_zero Go.wp_at_succ
attribute [local go_sem] kN
section
variable {B:Nat}{w:jk}{v:jm}
theorem adO:(prog.info? 5).map (λi=>(i.zero,i.size,i.bytes))=some (some (.int .u8 0),1,1):=by kernel_rfl
def uI(l:List Int):List jm:=l.map (Value.int .u8)
theorem avN(x:Nat)(h:x<18446744073709551616):(18446744073709551615^^^x:Nat)=18446744073709551615-x:=by
 have a:=congrArg BitVec.toNat (BitVec.allOnes_xor (x:=BitVec.ofNat 64 x));rw[BitVec.toNat_xor,BitVec.toNat_not,BitVec.toNat_allOnes,BitVec.toNat_ofNat,iO h]at a;simpa using a
theorem aiz(n:Int):IntKind.u64.wrap (IntKind.u64.wrap n * 2)=(2 * n)%18446744073709551616:=by
 show(n%18446744073709551616 * 2)%18446744073709551616=(2 * n)%18446744073709551616;omega
theorem avS(n:Int)(h:¬n<0):IntKind.u64.wrap (IntKind.u64.wrap n * 2)=((rD n:Nat):Int):=by
 rw[aiz];unfold rD;rw[jg h];omega
theorem avR(n:Int)(h:n<0):bits BinOp.xor IntKind.u64 IntKind.u64.max (IntKind.u64.wrap (IntKind.u64.wrap n * 2))=((rD n:Nat):Int):=by
 rw[aiz];unfold rD;rw[jh h];have b:(2 * n)%18446744073709551616=(((2 * n)%18446744073709551616).toNat:Int):=by omega
 have c:IntKind.u64.max=((18446744073709551615:Nat):Int):=rfl;have a:((2 * n)%18446744073709551616).toNat<18446744073709551616:=by omega
 rw[b,c,bits_xor_u64_nat _ _ (by decide) a,avN _ a];omega
theorem afK(r:Nat):bits BinOp.or IntKind.u8 ((r:Int)%256) 128=((r%128+128:Nat):Int):=by
 have h:∀k:Fin 256,bits .or .u8 (k.val:Int) 128=((k.val%128+128:Nat):Int):=by decide+kernel
 have a:=h ⟨r%256,by omega⟩;simp only at a;have e:((r%256:Nat):Int)=(r:Int)%256:=by omega
 rw[e]at a;rw[a];omega
structure FX(B:Nat)(w wr:jk)(v0 v:jm)(m':Nat)(ys:List jm)(rr gg:Nat)(all:List jm):Prop where
 row:wr.ownsRow B 5 1 v m' ys
 grown:w.grownBy wr v0.ownBlock
 own:∀g,v.ownBlock=some g->v0.ownBlock=some g\/w.heap.size<=g
 bd:rr<2 * 128^gg
 len:m'+gg<=1100000000
 eq:ys++uI (qH gg rr)=all
theorem XW{n:Nat}{T:jo}{k:Nat}{i:List jm}(h:w.ownsRow B T k v n i):∃a b,v=.slice a n b:=by
 rcases h with⟨_,⟨c,f⟩|⟨g,b,e,c,_⟩⟩
 .subst f;exact⟨_,_,c⟩
 .exact⟨_,_,c⟩
theorem FX.more{wr u:jk}{z:jm}{l:Option Addr}{a c1 i gk g cap:Nat}{x b:List jm}(h:FX B w wr z (.slice l a c1) a x i (gk+1) b)(c:128<=i){o:Obj}
 (f:u.ownsRow B 5 1 (.slice (some (Ad g 0)) (a+1) cap) (a+1) (x++[.int .u8 ((i%128+128:Nat):Int)]))(t:(wr.alloc o).grownBy u (Value.slice l a c1).ownBlock)(n:(Value.slice l a c1).ownBlock=some g\/g=wr.heap.size+1):
 FX B w u z (.slice (some (Ad g 0)) (a+1) cap) (a+1) (x++[.int .u8 ((i%128+128:Nat):Int)]) (i/128) gk b:=by
 have C:=h.grown.size;refine⟨f,(h.grown.trans (ah wr o _)).andThen t (λj A=>?_),λk y=>?_,?_,by have:=h.len;omega,?_⟩
 .rcases h.own j A with e|e
  .exact je e
  .exact jf e
 .simp only[Value.ownBlock,bJ]at y;subst y;rcases n with e|e
  .exact h.own g e
  .right;omega
 .have:=h.bd;rw[iV]at this;omega
 .have m:=h.eq;unfold qH at m;rw[jh c]at m;simpa [uI]using m
theorem FX.last{wr l:jk}{x:jm}{m:Option Addr}{c c1 f gk g cap m0:Nat}{y a:List jm}(h:FX B w wr x (.slice m c c1) c y f gk a)(A:f<128){o:Obj}(u:a.length=m0)
 (b:l.ownsRow B 5 1 (.slice (some (Ad g 0)) (c+1) cap) (c+1) (y++[.int .u8 (f:Int)]))(t:(wr.alloc o).grownBy l (Value.slice m c c1).ownBlock)(n:(Value.slice m c c1).ownBlock=some g\/g=wr.heap.size+1):
 c+1=m0/\l.ownsRow B 5 1 (.slice (some (Ad g 0)) m0 cap) m0 a/\w.grownBy l x.ownBlock/\(x.ownBlock=some g\/w.heap.size<=g):=by
 have G:=h.grown.size;have E:qH gk f=[(f:Int)]:=by
  cases gk with
  |zero=>rfl
  |succ k=>unfold qH;rw[jg (by omega)]
 have z:=h.eq;rw[E]at z;have C:y++[.int .u8 (f:Int)]=a:=z;rw[C]at b;have i:c+1=m0:=by
  have F:=h.row.1;rw[<-u,<-C];simp only[aA,aF,bg];omega
 subst i;refine⟨rfl,b,(h.grown.trans (ah wr o _)).andThen t (λj D=>?_),?_⟩
 .rcases h.own j D with e|e
  .exact je e
  .exact jf e
 .rcases n with e|e
  .exact h.own g e
  .right;omega
theorem ajN(xs:List jm)(m:Nat)(n:Int)(u:w.ownsRow B 5 1 v m xs)(hB:B<=w.heap.size)(hm:m<=1000000000):
 Calls prog 144 #[v,Im n] w λe w'=>∃g k,e=.returned (.slice (some (Ad g 0)) (m+(pY n).length) k)/\w'.ownsRow B 5 1 (.slice (some (Ad g 0)) (m+(pY n).length) k) (m+(pY n).length) (xs++uI (pY n))/\w.grownBy w' v.ownBlock/\(v.ownBlock=some g\/w.heap.size<=g):=by
 obtain⟨Z,X,C,D,E⟩:=info_parts adO;obtain⟨a,W,rfl⟩:=XW u;have hz:rD n<2 * 128^9:=by unfold rD;split<;>omega
 have V:Hid (FX B w w (.slice a m W) (.slice a m W) m xs (rD n) 9 (xs++uI (pY n))):=⟨u,aN _ _,λg h=>jf h,hz,by omega,rfl⟩;have T:(xs++uI (pY n)).length=m+(pY n).length:=by
  have:=u.1;simp only[aA,uI,List.length_map];omega
 have L:=jA T;clear u T;generalize xs++uI (pY n)=P at *;generalize m+(pY n).length=m0 at *;by_cases Y:n<0
 .have d0:decide (n<0)=true:=by simpa using Y
  have M:=jA (avR n Y);go_enter func144,ntmps144;go_wp2_with fail;go_loopg [0,5] 9 (λgg v r wr=>Hid (∃t F c,r=.int .u64 ((c:Nat):Int)/\FX B w wr (.slice a m W) v t F c gg P))
  case atStart=>exact⟨m,xs,rD n,by rw[M.out],V.out⟩
  case round=>
   obtain⟨t,F,c,hr,j⟩:=hrel.out;clear hrel V M;subst hr;obtain⟨O,Q,rfl⟩:=XW j.row;have hl:=j.len;have l:=j.bd;have aa:=dH hB j.grown.size;have z:=jA (λo=>j.row.alloc o);by_cases y:128<=c
   .have d1:decide ((128:Int)<=(c:Int))=true:=by simp;omega
    obtain⟨I,rfl⟩:∃H,gk=H+1:=by
     cases gk with
     |zero=>rw[Nat.pow_zero]at l;omega
     |succ H=>exact⟨H,rfl⟩
    have x:=jA j;obtain⟨G,K⟩:∃G,bits BinOp.or IntKind.u8 ((c:Int)%256) 128=G:=⟨_,rfl⟩;have N:=jA (K.symm.trans (afK c));clear j l;go_wp2_with (at_builtin;refine wpList_append_lies _ rfl _ _ 194 rfl B 5 Z (.int .u8 0) 1 1 Tryz.underlying194 X C D E rfl (by decide) (.slice O t Q) t F rfl (z.out _) (Ad wr.heap.size 0) 1 1 [.int .u8 G] rfl rfl (cell_one_new _ _ _) (by simp[Value.oneCell']) (by decide) (by unfold maxLen;omega) (by omega) (by simp;omega) (wr.heap.size+1) (by simp) ?_;intro g k w2 b i f J);rw[N.out]at b;have A:=jA (x.out.more y b i f);clear b i f x z N;go_roundg I
    case measure=>omega
    case rel=>exact⟨t+1,_,c/128,congrArg (Value.int .u64) (by omega),A.out⟩
   .have d1:decide ((128:Int)<=(c:Int))=false:=by simp;omega
    have x:=jA j;have U:(c:Int)%256=(c:Int):=by omega
    clear j l;go_wp2_with (at_builtin;refine wpList_append_lies _ rfl _ _ 194 rfl B 5 Z (.int .u8 0) 1 1 Tryz.underlying194 X C D E rfl (by decide) (.slice O t Q) t F rfl (z.out _) (Ad wr.heap.size 0) 1 1 [.int .u8 (c:Int)] rfl rfl (cell_one_new _ _ _) (by simp[Value.oneCell']) (by decide) (by unfold maxLen;omega) (by omega) (by simp;omega) (wr.heap.size+1) (by simp) ?_;intro g k w2 b i f J);have R:=x.out.last (by omega) L.out b i f;have A:=jA R;clear b i f x z R;go_ret;exact⟨g,k,by rw[A.out.1];rfl,A.out.2⟩
 .have d0:decide (n<0)=false:=by simpa using Y
  have M:=jA (avS n Y);go_enter func144,ntmps144;go_wp2_with fail;go_loopg [0,5] 9 (λgg v r wr=>Hid (∃t F c,r=.int .u64 ((c:Nat):Int)/\FX B w wr (.slice a m W) v t F c gg P))
  case atStart=>exact⟨m,xs,rD n,by rw[M.out],V.out⟩
  case round=>
   obtain⟨t,F,c,hr,j⟩:=hrel.out;clear hrel V M;subst hr;obtain⟨O,Q,rfl⟩:=XW j.row;have hl:=j.len;have l:=j.bd;have aa:=dH hB j.grown.size;have z:=jA (λo=>j.row.alloc o);by_cases y:128<=c
   .have d1:decide ((128:Int)<=(c:Int))=true:=by simp;omega
    obtain⟨I,rfl⟩:∃H,gk=H+1:=by
     cases gk with
     |zero=>rw[Nat.pow_zero]at l;omega
     |succ H=>exact⟨H,rfl⟩
    have x:=jA j;obtain⟨G,K⟩:∃G,bits BinOp.or IntKind.u8 ((c:Int)%256) 128=G:=⟨_,rfl⟩;have N:=jA (K.symm.trans (afK c));clear j l;go_wp2_with (at_builtin;refine wpList_append_lies _ rfl _ _ 194 rfl B 5 Z (.int .u8 0) 1 1 Tryz.underlying194 X C D E rfl (by decide) (.slice O t Q) t F rfl (z.out _) (Ad wr.heap.size 0) 1 1 [.int .u8 G] rfl rfl (cell_one_new _ _ _) (by simp[Value.oneCell']) (by decide) (by unfold maxLen;omega) (by omega) (by simp;omega) (wr.heap.size+1) (by simp) ?_;intro g k w2 b i f J);rw[N.out]at b;have A:=jA (x.out.more y b i f);clear b i f x z N;go_roundg I
    case measure=>omega
    case rel=>exact⟨t+1,_,c/128,congrArg (Value.int .u64) (by omega),A.out⟩
   .have d1:decide ((128:Int)<=(c:Int))=false:=by simp;omega
    have x:=jA j;have U:(c:Int)%256=(c:Int):=by omega
    clear j l;go_wp2_with (at_builtin;refine wpList_append_lies _ rfl _ _ 194 rfl B 5 Z (.int .u8 0) 1 1 Tryz.underlying194 X C D E rfl (by decide) (.slice O t Q) t F rfl (z.out _) (Ad wr.heap.size 0) 1 1 [.int .u8 (c:Int)] rfl rfl (cell_one_new _ _ _) (by simp[Value.oneCell']) (by decide) (by unfold maxLen;omega) (by omega) (by simp;omega) (wr.heap.size+1) (by simp) ?_;intro g k w2 b i f J);have R:=x.out.last (by omega) L.out b i f;have A:=jA R;clear b i f x z R;go_ret;exact⟨g,k,by rw[A.out.1];rfl,A.out.2⟩
end
end
namespace Hx
open Go.RowKit
section
def o9(p:Ps):Prop:=p.k.kind=0/\p.k.text=⟨#[]⟩
structure mW(s:ji)(p q:Ps):Prop where
 ok:q.Ok s
 mono:p.k.at'<=q.k.at'
 keeps:o9 q\/q.dp=p.dp
 bad:o9 p->o9 q
def Deep(d:Nat)(p:Ps):Prop:=o9 p\/(0<=p.dp/\p.dp<=20/\21<=d+p.dp)
variable {s:ji}{p q r:Ps}{d:Nat}
theorem mW.refl(h:p.Ok s):mW s p p:=⟨h,aV _,je rfl,λb=>b⟩
theorem mW.trans(h:mW s p q)(k:mW s q r):mW s p r:=
 ⟨k.ok,fD h.mono k.mono,by
   rcases k.keeps with b|e
   .exact jf b
   .rcases h.keeps with b|a
    .exact jf (k.bad b)
    .exact je (e.trans a),λb=>k.bad (h.bad b)⟩
theorem o9.fail(p:Ps):o9 p.fail:=⟨rfl,rfl⟩
theorem o9.is(h:o9 p){t:List UInt8}(b:t≠[]):p.is t=false:=by
 unfold Ps.is;rw[h.2];cases t with
 |nil=>exact jl rfl b
 |cons a l=>rfl
theorem o9.expect(h:o9 p){t:List UInt8}(a:t≠[]):o9 (p.expect s t):=by
 unfold Ps.expect;rw[h.is a];exact o9.fail p
theorem o9.close(h:o9 p){t:List UInt8}(a:t≠[]):o9 (p.close s t):=h.expect a
theorem o9.ku(h:o9 p){t:List UInt8}(a:t≠[]):o9 (p.ku s t):=by
 unfold Ps.ku;split
 .exact o9.fail p
 .exact h.expect a
theorem EY(h:p.Ok s):mW s p p.fail:=⟨h.fail,aV _,jf (o9.fail p),λ_=>o9.fail p⟩
theorem Ho(h:p.Ok s):p.k.at'+p.k.text.size<=(p.next s).k.at':=by
 have a:=(XY s _ h.tok.bd).2;have b:=h.tok.zA;show p.k.at'+(p.k.text.size:Int)<=(scan s (p.k.at'.toNat+p.k.text.size)).at';omega
theorem oC(h:p.Ok s)(a:¬o9 p):mW s p (p.next s):=
 ⟨h.next,by have:=Ho h;omega,je rfl,λb=>jl b a⟩
theorem oW{t:List UInt8}(a:t≠[])(h:p.is t=true):¬o9 p:=λb=>by rw[b.is a]at h;cases h
theorem Jg(h:p.k.kind≠0):¬o9 p:=λb=>h b.1
theorem yN(h:p.Ok s){t:List UInt8}(b:t≠[]):mW s p (p.expect s t):=by
 unfold Ps.expect;split
 .rename_i a;exact oC h (oW b a)
 .exact EY h
theorem EZ(h:p.Ok s):mW s p (p.name s).2:=by
 unfold Ps.name;split
 .rename_i a;exact oC h (Jg (by rw[a];decide))
 .exact EY h
theorem J9(h:p.Ok s){t u:List UInt8}(g:t≠[])(c:u≠[])(a:mW s (p.ku s t) r):mW s p (r.close s u):=by
 have i:=yN a.ok (t:=u) c;refine⟨a.ok.close u,?_,?_,λb=>(a.bad (b.ku g)).close c⟩
 .have n:p.k.at'<=(p.ku s t).k.at':=by
   unfold Ps.ku;split
   .exact aV _
   .exact(yN h g).mono
  exact fD n (fD a.mono i.mono)
 .rcases i.keeps with b|e
  .exact jf b
  .rcases a.keeps with b|l
   .exact jf (b.close c)
   .by_cases j:p.dp=20
    .have f:p.ku s t=p.fail:=by unfold Ps.ku;rw[jh j]
     refine jf ((a.bad ?_).close c);rw[f];exact o9.fail p
    .have f:p.ku s t=(p.expect s t).IE:=by unfold Ps.ku;rw[jg j]
     rcases(yN h g).keeps with b|m
     .exact jf ((a.bad (by rw[f];exact b)).close c)
     .refine je ?_;show wrap64 ((r.expect s u).dp-1)=p.dp;rw[e,l,f];show wrap64 (wrap64 ((p.expect s t).dp+1)-1)=p.dp;rw[m];have:=h.dp;unfold jK at this;unfold wrap64;omega
theorem Deep.good(h:Deep d p)(k:mW s p q):Deep d q:=by
 rcases h with b|⟨a,c,f⟩
 .exact jf (k.bad b)
 .rcases k.keeps with b|e
  .exact jf b
  .exact je (by rw[e];exact⟨a,c,f⟩)
theorem Deep.ku(h:Deep (d+1) p)(g:p.Ok s){t:List UInt8}(c:t≠[]):Deep d (p.ku s t):=by
 rcases h with b|⟨i,j,k⟩
 .exact jf (b.ku c)
 .by_cases a:p.dp=20
  .left;unfold Ps.ku;rw[jh a];exact o9.fail p
  .have f:p.ku s t=(p.expect s t).IE:=by unfold Ps.ku;rw[jg a]
   rw[f];rcases(yN g c).keeps with b|e
   .exact jf b
   .right;show 0<=wrap64 ((p.expect s t).dp+1)/\wrap64 ((p.expect s t).dp+1)<=20/\21<=(d:Int)+wrap64 ((p.expect s t).dp+1);rw[e];unfold wrap64;omega
end
end Hx
section
open Go.RowKit Hx
theorem XE(xs:List Int)(a:∀x∈xs,0<=x/\x<=1000001):0<=jS xs/\jS xs<=1000001:=by
 unfold jS;have:=xZ xs a;exact xZ _ (by simp;omega)
theorem qx{a:Int}(h:0<=a/\a<=1000001):0<=jS [a]/\jS [a]<=1000001:=XE _ (by simpa using h)
theorem rO{a b:Int}(h:0<=a/\a<=1000001)(k:0<=b/\b<=1000001):0<=jS [a,b]/\jS [a,b]<=1000001:=XE _ (by simp;exact⟨h,k⟩)
structure pF(x:Sx):Prop where
 jw:0<=x.jw/\x.jw<=1000001
 of:x.of=3\/x.of=4
 all:∀b∈x.jE,kT b.2
theorem pF.law{x:Sx}(h:pF x):Lawful (oZ x):=Pg λb c a=>(h.all b c).law a
theorem tC{x:Sx}{c:Int}(b:0<=c/\c<=1000001):0<=x.round c/\x.round c<=1000001:=by
 have a:=xZ [1,c] (by simp;omega);unfold Hx.Sx.round;generalize kZ [1,c]=y at *;unfold kZ;simp only[bP,eF];split<;>omega
theorem pF.add{x:Sx}(h:pF x){b:Wd×Ex}(e:kT b.2):pF (x.add b):=by
 refine⟨xZ _ (by have:=h.jw;have:=tC (x:=x) e.jw;simp;omega),h.of,?_⟩;intro c a;rcases List.mem_append.1 a with a|a
 .exact h.all c a
 .rw[cO.1 a];exact e
theorem Xn(at' n:Int):kT (Ak at' n):=wE (by simp[lQ]) C9 (by omega)
theorem TJ(at' kind:Int)(b:Bool):kT (AB at' 1 kind b):=wE (by simp[lQ]) C9 (by omega)
theorem Hq:kT rJ:=wE (by simp[lQ]) C9 (by omega)
theorem XP(at' n:Int):kT (Ee at' n):=wE (by simp[lQ]) C9 (by omega)
theorem aac(at':Int)(d:Wd):kT (nK at' d):=by
 have c:∀k,kT (rH 389 391 at' 1 k zH (λ_=>[.string d.text,Im d.at'])):=λk=>wE (by simp[lQ]) C9 (by omega);refine⟨λa=>⟨λw o f e v ⟨k,h⟩ j=>⟨k,((c k).law a).loc _ _ _ _ _ h j⟩,λw f e m l v ⟨k,h⟩ g i=>⟨k,((c k).law a).wide _ _ _ _ _ _ h g i⟩⟩,λa w f e v ⟨k,h⟩=>(c k).head _ _ _ _ _ h,λa n w f e T b ⟨k,h⟩=>⟨k,(c k).widen _ _ _ _ _ _ _ h⟩,?_⟩;show 0<=(1:Int)/\(1:Int)<=1000001;omega
theorem ad3(at':Int){e:Ex}(h:kT e):kT (yP at' e):=wE (by simp[lQ]) (qW (h.law _)) (qx h.jw)
theorem Xu(at' kind:Int)(a:ji){e:Ex}(h:kT e):kT (sG at' kind a e):=wE (by simp[lQ]) (qW (h.law _)) (qx h.jw)
theorem TK(at' kind:Int)(a:ji){l r:Ex}(h:kT l)(k:kT r):kT (nX at' kind a l r):=wE (by simp[lQ]) (wU (h.law _) (k.law _)) (rO h.jw k.jw)
theorem Sv(at' kind a:Int){e:Ex}(h:kT e)(d:Wd):kT (oQ at' kind a e d):=wE (by simp[lQ]) (qW (h.law _)) (qx h.jw)
theorem afo(at':Int){l r:Ex}(h:kT l)(k:kT r):kT (wG at' l r):=wE (by simp[lQ]) (wU (h.law _) (k.law _)) (rO h.jw k.jw)
theorem abe(kind:Int)(a:ji){x:Sx}(h:pF x):kT (wP kind a x):=wE (by simp[lQ]) (qW h.law) (qx h.jw)
theorem aeT(kind:Int)(a:ji){x:Sx}(h:pF x){b:Wd×Ex}(k:kT b.2):kT (qL kind a x b):=wE (by simp[lQ]) (wU h.law (k.law _)) (rO h.jw (tC k.jw))
theorem aiu{e:Ex}(h:kT e)(a:Int):kT (e.widen a):=⟨h.law,h.head,h.widen,h.jw⟩
section
def qI(s:ji)(ex:Ps->Ex×Ps)(d:Nat):Prop:=∀p,p.Ok s->Deep d p->mW s p (ex p).2/\kT (ex p).1
variable {s:ji}{ex:Ps->Ex×Ps}{d:Nat}{p:Ps}
theorem Rf(h:qI s ex d)(a:p.Ok s)(e:Deep (d+1) p):mW s p (Fg s ex p).2/\kT (Fg s ex p).1:=by
 obtain⟨b,c⟩:=h _ (a.ku [40]) (e.ku a (by simp));exact⟨J9 a (by simp) (by simp) b,c⟩
theorem afp(h:qI s ex d)(a:p.Ok s)(f:Deep (d+1) p)(at':Int){e:Ex}(g:kT e):mW s p (wF s ex at' e p).2/\kT (wF s ex at' e p).1:=by
 obtain⟨b,c⟩:=h _ (a.ku [40]) (f.ku a (by simp));exact⟨J9 a (by simp) (by simp) b,afo at' g c⟩
theorem Qe(h:qI s ex d)(b:p.Ok s)(i:Deep (d+1) p):mW s p (qm s ex p).2/\kT (qm s ex p).1.2:=by
 have j:=b.ku [40];have c:=EZ j;have e:=yN c.ok (t:=[58]) (by simp);have a:=c.trans e;obtain⟨f,g⟩:=h _ e.ok ((i.ku b (by simp)).good a);exact⟨J9 b (by simp) (by simp) (a.trans f),g⟩
theorem ag1(h:qI s ex d):∀(n:Nat)(x:Sx)(p:Ps),pF x->p.Ok s->Deep (d+1) p->mW s p (qY s ex n x p).2/\pF (qY s ex n x p).1.1
 |0,x,p,hx,ok,_=>⟨mW.refl ok,hx⟩
 |n+1,x,p,hx,ok,hd=>by
  unfold qY;split
  .rename_i k;have b:=oC ok (oW (by simp) k);split
   .rename_i l;have e:=oC b.ok (oW (by simp) l);have a:=b.trans e;obtain⟨f,g⟩:=Qe h e.ok (hd.good a);have c:=a.trans f;obtain⟨j,i⟩:=ag1 h n _ _ (hx.add g) f.ok (hd.good c);exact⟨c.trans j,i⟩
   .exact⟨b,hx⟩
  .exact⟨mW.refl ok,hx⟩
theorem afa{a:Int}(h:setOf p.k.text.data.toList=some a):¬o9 p:=λb=>by
 rw[b.2]at h;simp[setOf]at h
theorem SX{u:List UInt8}{a:Int}(h:setOf u=some a):a=3\/a=4:=by
 unfold setOf at h;split at h
 .exact jf (fZ h).symm
 .split at h
  .exact je (fZ h).symm
  .cases h
theorem SY(h:qI s ex d)(n:Nat)(c:p.Ok s)(g:Deep (d+1) p):mW s p (nB s ex n p).2/\pF (nB s ex n p).1.1:=by
 unfold nB;split
 .rename_i i a;have b:=oC c (afa a);obtain⟨f,e⟩:=ag1 h n ⟨p.k.at',1,p.k.text,i,[]⟩ _ ⟨by simp,SX a,by simp⟩ b.ok (g.good b);exact⟨b.trans f,e⟩
 .exact⟨EY c,⟨by simp,je rfl,by simp⟩⟩
theorem abf(c:p.Ok s)(a:¬o9 p){x:Sx}(b:pF x)(kind:Int):mW s p (Nv s x kind p).2/\kT (Nv s x kind p).1:=⟨oC c a,abe kind _ b⟩
theorem RP(h:qI s ex d)(i:p.Ok s)(f:Deep (d+1) p)(e:¬o9 p){x:Sx}(g:pF x)(kind:Int):mW s p (Ec s ex x kind p).2/\kT (Ec s ex x kind p).1:=by
 have a:=oC i e;obtain⟨c,b⟩:=Qe h a.ok (f.good a);exact⟨a.trans c,aeT kind _ g b⟩
theorem arK(h:qI s ex d)(b:p.Ok s)(e:Deep (d+1) p){x:Sx}(c:pF x):mW s p (FD s ex x p).2/\kT (FD s ex x p).1:=by
 unfold FD;split
 .rename_i a;exact abf b (oW (by simp) a) c _
 split
 .rename_i a;exact abf b (oW (by simp) a) c _
 split
 .rename_i a;rcases Bool.or_eq_true_iff.1 a with a|a
  .exact RP h b e (oW (by simp) a) c _
  .exact RP h b e (oW (by simp) a) c _
 split
 .rename_i a;exact RP h b e (oW (by simp) a) c _
 split
 .rename_i a;exact RP h b e (oW (by simp) a) c _
 .exact⟨EY b,Hq⟩
theorem arQ(h:qI s ex d)(n:Nat)(g:p.Ok s)(b:Deep (d+1) p):mW s p (Ar s ex n p).2/\kT (Ar s ex n p).1:=by
 obtain⟨a,c⟩:=SY h n g b;unfold Ar;split
 .obtain⟨f,e⟩:=arK h a.ok (b.good a) c;exact⟨a.trans f,e⟩
 .exact⟨a.trans (EY a.ok),Hq⟩
theorem abn(h:qI s ex d)(n:Nat)(b:p.Ok s)(g:Deep (d+1) p):mW s p (tX s ex n p).2/\kT (tX s ex n p).1:=by
 unfold tX;split
 .rename_i a;exact⟨oC b (Jg (by rw[a];decide)),Xn _ _⟩
 split
 .rename_i a;exact⟨oC b (Jg (by rw[a];decide)),XP _ _⟩
 split
 .rename_i a;exact⟨oC b (Jg (by rw[a];decide)),aac _ _⟩
 split
 .rename_i a;refine⟨oC b ?_,TJ _ _ _⟩;rcases Bool.or_eq_true_iff.1 a with a|a
  .exact oW (by simp) a
  .exact oW (by simp) a
 split
 .obtain⟨f,c⟩:=Rf h b g;exact⟨f,aiu c _⟩
 split
 .rename_i a;have e:=oC b (oW (by simp) a);obtain⟨f,c⟩:=Rf h e.ok (g.good e);exact⟨e.trans f,ad3 _ c⟩
 split
 .exact arQ h n b g
 .exact⟨EY b,Hq⟩
theorem UN(h:qI s ex d)(at':Int):∀(n:Nat)(e:Ex)(p:Ps),kT e->p.Ok s->Deep (d+1) p->mW s p (tY s ex at' n e p).2/\kT (tY s ex at' n e p).1
 |0,e,p,he,ok,_=>⟨mW.refl ok,he⟩
 |n+1,e,p,he,ok,hd=>by
  unfold tY;split
  .rename_i j;have g:=oC ok (oW (by simp) j);have a:=g.trans (EZ g.ok);simp only;split
   .obtain⟨c,i⟩:=afp h a.ok (hd.good a) at' he;obtain⟨f,b⟩:=UN h at' n _ _ i c.ok (hd.good (a.trans c));exact⟨(a.trans c).trans f,b⟩
   .obtain⟨f,b⟩:=UN h at' n _ _ (Sv at' _ _ he _) a.ok (hd.good a);exact⟨a.trans f,b⟩
  .exact⟨mW.refl ok,he⟩
theorem abq(h:qI s ex d)(n:Nat)(g:p.Ok s)(b:Deep (d+1) p):mW s p (Cm s ex n p).2/\kT (Cm s ex n p).1:=by
 obtain⟨a,c⟩:=abn h n g b;obtain⟨f,e⟩:=UN h p.k.at' n _ _ c a.ok (b.good a);exact⟨a.trans f,e⟩
theorem OE(h:qI s ex d)(n:Nat):∀(m:Nat)(p:Ps),p.Ok s->Deep (d+1) p->mW s p (wX s ex n m p).2/\kT (wX s ex n m p).1
 |0,p,ok,hd=>abq h n ok hd
 |m+1,p,ok,hd=>by
  unfold wX;split
  .rename_i e;have a:=oC ok (oW (by simp) e);obtain⟨c,b⟩:=OE h n m _ a.ok (hd.good a);exact⟨a.trans c,Xu _ _ _ b⟩
  split
  .rename_i e;have a:=oC ok (oW (by simp) e);obtain⟨c,b⟩:=OE h n m _ a.ok (hd.good a);exact⟨a.trans c,Xu _ _ _ b⟩
  .exact abq h n ok hd
theorem ae9{a:Int}(c:a<=5)(h:pX p.k.text.data.toList=a):¬o9 p:=λb=>by
 rw[b.2]at h;simp[pX]at h;omega
theorem afD{a:Ps->Ex×Ps}(h:qI s a d)(c:Int)(j:c<=5)(at':Int):∀(n:Nat)(e:Ex)(p:Ps),kT e->p.Ok s->Deep d p->mW s p (wH s a c at' n e p).2/\kT (wH s a c at' n e p).1
 |0,e,p,he,ok,_=>⟨mW.refl ok,he⟩
 |n+1,e,p,he,ok,hd=>by
  unfold wH;split
  .rename_i m;have f:=oC ok (ae9 j m);obtain⟨i,g⟩:=h _ f.ok (hd.good f);have b:=f.trans i;simp only;split
   .exact⟨b,TK _ _ _ he g⟩
   .obtain⟨l,k⟩:=afD h c j at' n _ _ (TK at' _ _ he g) i.ok (hd.good b);exact⟨b.trans l,k⟩
  .exact⟨mW.refl ok,he⟩
theorem Si(h:qI s ex d)(n:Nat):∀(l:Nat),qI s (Bz s ex n l) (d+1)
 |0=>λp c a=>OE h n n p c a
 |l+1=>λp c a=>by
  obtain⟨b,e⟩:=Si h n l p c a;obtain⟨g,f⟩:=afD (Si h n l) (5-l) (by omega) p.k.at' n _ _ e b.ok (a.good b);exact⟨b.trans g,f⟩
theorem IG(s:ji):∀(d:Nat),qI s (lG s d) d
 |0=>λ_ a _=>⟨EY a,Hq⟩
 |d+1=>λp a b=>Si (IG s d) (s.size+1) 6 p a b
end
end
section
open Go.RowKit Hx
attribute [local go_sem ↓] Go.wp_at_zero Go.wp_at_succ
attribute [local go_sem] kN
section
def mX(fn:FuncId)(more:List jm)(s:ji)(p:Ps)(r:Ex×Ps):Prop:=
 ∀(P:Nat)(w:jk),jR w P s p->Calls prog fn (Pt P 0::more).toArray w λe w'=>∃v,e=.returned v/\r.1.here r.1.at' w' w.heap.size w'.heap.size v/\jR w' P s r.2/\w.grownBy w' (some P)
structure Reader(s:ji)(ex:Ps->Ex×Ps)(d:Nat):Prop where
 good:qI s ex d
 reads:∀p,p.Ok s->Deep d p->mX 238 [] s p (ex p)
theorem kT.keep{e:Ex}(h:kT e){a:Int}{w w':jk}{lo hi P:Nat}{v:jm}(f:e.here a w lo hi v)(k:P<lo)(g:hi<=w.heap.size)(c:w.grownBy w' (some P)):e.here a w' lo hi v:=
 (h.law a).loc _ _ _ _ _ f λb i j=>c.block b (by omega) (by simp;omega)
variable {s:ji}{ex:Ps->Ex×Ps}{d:Nat}{p:Ps}
theorem adJ(D:s.size<=4000)(h:Reader s ex d)(b:p.Ok s)(C:Deep (d+1) p):mX 274 [] s p (Fg s ex p):=by
 intro P w i;have O:=i.lt;have k:=b.ku [40];have g:=C.ku b (t:=[40]) (by simp);obtain⟨A,L⟩:=h.good _ k g;have l:=jA (O4 i b D [40]);have m:=jA (λx (j:jR x P s (p.ku s [40]))=>h.reads _ k g P x j);have n:=jA (λx (j:jR x P s (ex (p.ku s [40])).2)=>NG j A.ok D [41]);show Calls prog 274 #[Pt P 0] w λe c=>∃v,e=.returned v/\(ex (p.ku s [40])).1.here (ex (p.ku s [40])).1.at' c w.heap.size c.heap.size v/\jR c P s ((ex (p.ku s [40])).2.close s [41])/\w.grownBy c (some P);generalize ex (p.ku s [40])=r at *;generalize p.ku s [40]=q at *;generalize r.2.close s [41]=W at *;have o:Hid (kT r.1):=L;clear i k g A L b C h;go_enter func274,ntmps274;go_wp2_with fail;refine l.out.mono ?_;rintro e Y ⟨rfl,I,E⟩;have H:=jA (jd I E);clear I E l;go_wp2_with fail;refine(m.out _ H.out.1).mono ?_;rintro e Z ⟨v,rfl,z,J,F⟩;have a:=jA (jd z (jd J F));clear z J F m;go_wp2_with fail;refine(n.out _ a.out.2.1).mono ?_;rintro e w3 ⟨rfl,K,G⟩;have Q:=jA (jd K G);clear K G n;go_wp2_with fail;go_ret;obtain⟨U,u⟩:=H.out;obtain⟨M,V,y⟩:=a.out;obtain⟨N,f⟩:=Q.out;have R:=u.size;have X:=y.size;have T:=f.size;exact⟨v,rfl,(o.out.law _).wide _ _ _ _ _ _ (o.out.keep M (by omega) (aj _) f) R T,N,(u.trans y).trans f⟩
end
end
end Go.Proofs.YthllhabjfchgiaaGreatDoor
