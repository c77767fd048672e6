import Derived.Test.YthllhabjfchgiaaGreatDoorHs27
set_option maxRecDepth 100000
set_option maxHeartbeats 8000000
set_option linter.unusedSimpArgs false
namespace Go.Proofs.YthllhabjfchgiaaGreatDoor
open _root_.Go.Proofs.Tryz
section
open Go.RowKit Hx
def sU(list:Int)(fs:List (Wd×Ex))(zs:List (Sz×Val)):Val:=λe v σ=>
 if fs.length=0 then v.all list else (rM v list).foldl (λacc i=>if l7 fs zs e v σ i then vZ acc i else acc) 0
theorem ag4{list:Int}{fs:List (Wd×Ex)}{zs:List (Sz×Val)}(h:∀p∈zs,uD p.2):uD (sU list fs zs):=λe v σ τ f=>by
 unfold sU;have:(λ(d i:Int)=>if l7 fs zs e v σ i then vZ d i else d)=(λd i=>if l7 fs zs e v τ i then vZ d i else d):=by
  funext d i
  rw[Ou fs zs h e v σ τ i f]
 rw[this]
theorem aco(one list:Int)(h:0<=one/\one<2008)(d:0<=list/\list<3):((jX [⟨21,[one,list]⟩]).length:Int)<=4:=by
 have:=xX one h.1 h.2;have:=aej list d.1 d.2;simp only[ny,mD,enc,aX,aF,c8,dJ,aA];omega
theorem acr(list a b:Int)(d:0<=a/\a<2008)(f:0<=b/\b<2008)(g:0<=list/\list<3):((enc ⟨4,[list,a,b]⟩).length:Int)<=6:=by
 have:=xX a d.1 d.2;have:=xX b f.1 f.2;have:=aej list g.1 g.2;simp only[enc,aX,aF,c8,dJ,aA];omega
theorem Qp:((enc ⟨0,[]⟩).length:Int)=1:=rfl
theorem avQ:(pY 0).length=1:=by decide
theorem agW{list one:Int}{ft tl:Fr}(d:0<=one)(f:one<2008)(g:0<=list/\list<3)(h:ft.Ok true)(i:tl.Ok true):(yI list one ft tl).Ok false:=
 Fr.uy (Fr.xP (aa6 d f g) (jf (by show(6:Int)<=21;omega)) false) (Fr.aeA (aey d f d f g) (Fr.uy h i))
theorem agV{list one b:Int}{ft tl:Fr}(h:one+1<=b)(d:lF ft.is b)(f:lF tl.is b):lF (yI list one ft tl).is b:=by
 refine lF.append (lF.one ⟨λ_=>h,(λe=>by cases e),trivial⟩) ?_;intro i hi;have hi:=hi;rcases List.mem_append.1 hi with hi|hi
 .rcases dh.1 hi with rfl|hi
  .exact⟨(λe=>by cases e),λ_=>h,λ_=>h,trivial⟩
  .exact(d.append f) i hi
 .rw[cO.1 hi]
  trivial
theorem agU{list one:Int}{ft tl:Fr}{a b:Int}(d:0<=one)(f:one<2008)(g:0<=list/\list<3)(m:((jX ft.is).length:Int)<=a)(n:((jX tl.is).length:Int)<=b):((jX (yI list one ft tl).is).length:Int)<=a+b+11:=by
 have i:=aco one list ⟨d,f⟩ g;have j:=acr list one one ⟨d,f⟩ ⟨d,f⟩ g;have k:=Qp;show((jX ([⟨21,[one,list]⟩]++(⟨4,[list,one,one]⟩::(ft.is++tl.is)++[⟨0,[]⟩]))).length:Int)<=_;have h:jX ([⟨21,[one,list]⟩]++(⟨4,[list,one,one]⟩::(ft.is++tl.is)++[⟨0,[]⟩]))=jX [⟨21,[one,list]⟩]++(enc ⟨4,[list,one,one]⟩++(jX ft.is++jX tl.is++enc ⟨0,[]⟩)):=by
  simp only[nN,bZ,ny,mD,aX,bY,dP]
 rw[h];simp only[aA];omega
theorem afG{ck:Ck}{kind one W list:Int}{D:Nat}(o:kind≠2){fs:List (Wd×Ex)}{zs:List (Sz×Val)}(c:Co)(i:Fit ck c)(h:c.free=one)(g:zQ ck kind fs zs)(q:∀p∈zs,p.1.wide<=W/\p.1.deep<=D)(j:0<=W)(n:one+1+W<=2008):
 ∃d:Fr,c.ku list fs=(⟨c.code++jX [⟨21,[one,list]⟩]++enc ⟨4,[list,one,one]⟩++jX d.is,c.jy,one+1⟩,one)/\d.Ok true/\d.jC<=lX zs/\d.deep<=D/\((jX d.is).length:Int)<=mZ zs/\lF d.is (one+1+W)/\∀f,Uz ck ⟨f,c.jy,one+1⟩ one d fs zs:=by
 have F:=i.free;obtain⟨d,s,t,y,z,A,B,E⟩:=acH (W:=W) (D:=D) o fs zs ⟨c.code++jX [⟨21,[one,list]⟩]++enc ⟨4,[list,one,one]⟩,c.jy,one+1⟩ (i.more (by omega)) (show 0<=one by omega) (show one<one+1 by omega) g q j n;refine⟨d,?_,t,y,z,A,B,λf=>?_⟩
 .unfold Co.ku;rw[Oh c (by omega) (by omega)];simp only;have e:((c.kC (c.free+1)).lay 21 [c.free,list]).lay 4 [list,c.free,c.free]=⟨c.code++jX [⟨21,[one,list]⟩]++enc ⟨4,[list,one,one]⟩,c.jy,one+1⟩:=by
   rw[h];simp only[Co.lay,Co.kC,ny,mD,enc,aX]
  rw[e,h,s]
 .intro v S jF k kl lC lp li a b m g1 g2 g3 g4 g5 g6 g7 g8;exact E v S jF k kl lC lp li a b m g1 g2 g3 g4 g5 g6 (g7.jy rfl) g8
theorem aob{a b:Int}(d:0<=a/\a<2008)(f:0<=b/\b<2008):rE ⟨22,[a,b]⟩:=
 ⟨⟨by show(0:Int)<=22;omega,by show(22:Int)<=36;omega⟩,a,[b],rfl,rC d.1 d.2,b,[],rfl,rC f.1 f.2,rfl⟩
theorem afc{a n:Int}(d:0<=a/\a<2008)(f:jK n):rE ⟨6,[a,n]⟩:=
 ⟨⟨by show(0:Int)<=6;omega,by show(6:Int)<=36;omega⟩,a,[n],rfl,rC d.1 d.2,n,[],rfl,⟨f,(λh=>by cases h),λh=>by cases h⟩,rfl⟩
theorem acF{ck:Ck}{kind W list:Int}{D:Nat}(V:kind≠2)(H:0<=list/\list<3){fs:List (Wd×Ex)}{zs:List (Sz×Val)}(n:zQ ck kind fs zs)(X:∀p∈zs,p.1.wide<=W/\p.1.deep<=D)(Y:0<=mZ zs)(U:0<=W)(c:Co)(y:Fit ck c)(hb:c.free+(2+W)<=2008):
 ∃d:Fr,c.nk list fs=(⟨c.code++jX d.is,c.jy,c.free+1⟩,c.free)/\d.Ok false/\d.jC<=(if fs.length=0 then 1 else 3+Hx.kQ list * (lX zs+2))/\d.deep<=(if fs.length=0 then 0 else D+1)/\((jX d.is).length:Int)<=mZ zs+20/\lF d.is (c.free+(2+W))/\
  ∀(v:Vw)(S:List St)(jF:List Int)(k:Nat)(lp:List Int)(m:Mc),nM v->uG S k (d.jB k lp)->lp.length+d.deep<=8->m.left.length=8->lF d.is m.jD.length->Ty ck c m.get->
   ∃q,Reaches v S jF k m (k+d.size) q/\q.get c.free=sU list fs zs (lM c m.get) v m.get/\oU c.free (-1) lp.length m q:=by
 have h8:=y.free;unfold Co.nk;rw[Oh c (by omega) (by omega)];by_cases o:fs.length=0
 .rw[jh o];refine⟨Fr.ins ⟨21,[c.free,list]⟩,?_,Fr.xP (aa6 (by omega) (by omega) H) (jf (by show(6:Int)<=21;omega)) false,by rw[jh o];exact aV _,bD _,?_,lF.one ⟨λ_=>by show c.free+1<=c.free+(2+W);omega,(λe=>by cases e),trivial⟩,?_⟩
  .simp only[Co.lay,Co.kC,Fr.ins,ny,mD,enc,aX]
  .have:=aco c.free list ⟨by omega,by omega⟩ H;show((jX [⟨21,[c.free,list]⟩]).length:Int)<=_;omega
  .intro v S jF k lp m hv s K hll hlow ht;have h:=yM (v:=v) (jF:=jF) (m:=m) s.head (by show(6:Int)<=21;omega) (by show(21:Int)≠36;omega);have F:Hx.work v (stepOf ⟨21,[c.free,list]⟩) m=m.put c.free (v.all list):=by
    unfold Hx.work;rw[jg (by show¬(21:Int)=6;omega),jh (by rfl)]
    rfl
   rw[F]at h;have:=(hlow ⟨21,[c.free,list]⟩ (by simp[Fr.ins])).1 rfl;refine⟨_,h,?_,yG (je (aV _)) (by omega)⟩;rw[vW _ _ _ (by omega) (by omega),sU,jh o]
 .rw[jg o];simp only;obtain⟨ft,q1,P,q3,q4,q5,q6,q7⟩:=afG (ck:=ck) (kind:=kind) (one:=c.free+1) (W:=W) (list:=list) (D:=D) V (⟨c.code++jX [⟨6,[c.free,0]⟩],c.jy,c.free+1⟩:Co) (y.more (by omega)) rfl n X U (by omega);have Q:(c.kC (c.free+1)).lay 6 [c.free,0]=⟨c.code++jX [⟨6,[c.free,0]⟩],c.jy,c.free+1⟩:=by simp only[Co.lay,Co.kC,ny,mD,enc,aX]
  rw[Q,q1];have E:(Fr.ins ⟨22,[c.free,c.free+1]⟩).Ok true:=Fr.xP (aob ⟨by omega,by omega⟩ ⟨by omega,by omega⟩) (jf (by show(6:Int)<=22;omega)) true;have A:=agW (list:=list) (one:=c.free+1) (by omega) (by omega) H P E;refine⟨(Fr.ins ⟨6,[c.free,0]⟩).seq (yI list (c.free+1) ft (Fr.ins ⟨22,[c.free,c.free+1]⟩)),?_,Fr.uy (Fr.xP (afc ⟨by omega,by omega⟩ (by unfold jK;omega)) (jf (by show(6:Int)<=6;omega)) false) A,?_,?_,?_,?_,?_⟩
  .have R:wrap64 (c.free+1)=c.free+1:=Py _ (by unfold jK;omega);rw[R];simp only[Co.lay,Co.kC,Fr.seq,Fr.ins,yI,Fr.loop,nN,ny,mD,aX,bY,bZ,enc,dP,dJ]
  .rw[jg o];show 1+(1+(1+Hx.kQ list * (ft.jC+1+1)))<=3+Hx.kQ list * (lX zs+2);have hm:Hx.kQ list * (ft.jC+1+1)<=Hx.kQ list * (lX zs+2):=fB (by omega) (by have:=KF list;omega);omega
  .rw[jg o];show max 0 (max 0 (max ft.deep 0+1))<=D+1;omega
  .have B:=agU (list:=list) (one:=c.free+1) (ft:=ft) (tl:=Fr.ins ⟨22,[c.free,c.free+1]⟩) (a:=mZ zs) (b:=5) (by omega) (by omega) H q5 (JZ 22 c.free (c.free+1) ⟨by omega,by omega⟩ ⟨by omega,by omega⟩);have h6:((jX [⟨6,[c.free,0]⟩]).length:Int)<=4:=by
    have:=xX c.free (by omega) (by omega);have:=avQ;simp only[ny,mD,enc,aX,aF,c8,dJ,aA];omega
   show((jX ([⟨6,[c.free,0]⟩]++(yI list (c.free+1) ft (Fr.ins ⟨22,[c.free,c.free+1]⟩)).is)).length:Int)<=_;rw[nN,aA];omega
  .refine lF.append (lF.one ⟨λ_=>by show c.free+1<=_;omega,(λe=>by cases e),trivial⟩) (agV (by omega) (q6.wide (by omega)) (lF.one ⟨λ_=>by show c.free+1<=_;omega,λ_=>by show c.free+1+1<=_;omega,trivial⟩))
  .intro v S jF k lp m hv s K hll hlow ht;have K:lp.length+max 0 (max 0 (max ft.deep 0+1))<=8:=K;have I:=s.left.head;have J:=s.right rfl;have t:c.free<m.jD.length:=by
    have:=(hlow.left ⟨6,[c.free,0]⟩ (by simp[Fr.ins])).1 rfl;omega
   have h:=yM (v:=v) (jF:=jF) (m:=m) I (by show(6:Int)<=6;omega) (by show(6:Int)≠36;omega);have F:Hx.work v (stepOf ⟨6,[c.free,0]⟩) m=m.put c.free 0:=by
    unfold Hx.work;rw[jh (by rfl)]
    rfl
   rw[F]at h;have g:oU c.free (-1) lp.length m (m.put c.free 0):=yG (je (aV _)) (by omega);obtain⟨q,p1,p2,p3⟩:=ag6 (ck:=ck) (c0:=c) (c1:=⟨c.code,c.jy,c.free+1+1⟩) (one:=c.free+1) (list:=list) (ft:=ft) (tl:=Fr.ins ⟨22,[c.free,c.free+1]⟩) (bs:=fs) (zs:=zs) (kind:=kind) (m0:=m.put c.free 0) (jF:=jF) (S:=S) (k:=k+1) (lp:=lp)
    (λ(f:Int) m=>m.get c.free=f) vZ hv y rfl (by omega) (by show c.free+1<c.free+1+1;omega) n P E (q7 _) (λf m q O B M=>(B c.free (aV _) (by omega)).trans M) (Ie ht g y)
    (λS k lp G f i s _ _ L N z i0 i1 M=>by
      have h:=yM (v:=v) (jF:=jF) (m:=G) s.head (by show(6:Int)<=22;omega) (by show(22:Int)≠36;omega);have F:Hx.work v (stepOf ⟨22,[c.free,c.free+1]⟩) G=G.put c.free (vZ (G.get c.free) (G.get (c.free+1))):=by
       unfold Hx.work;rw[jg (by show¬(22:Int)=6;omega),jg (by show¬(22:Int)=21;omega),jh (by rfl)]
       rfl
      rw[F]at h;refine⟨_,h,yG (je (aV _)) (by omega),?_⟩;rw[vW _ _ _ (by omega) (by rw[N.len,Ed];exact t),M,z])
    J (by show lp.length+max 0 (max ft.deep 0+1)<=8;omega) (by exact hll) (by rw[Ed];exact hlow.right) (acc0:=0) (vW _ _ _ (by omega) t)
   refine⟨q,?_,?_,g.trans p2⟩
   .show Reaches v S jF k m (k+(1+(yI list (c.free+1) ft (Fr.ins ⟨22,[c.free,c.free+1]⟩)).size)) q;rw[<-fE];exact h.trans p1
   .rw[p3,CP y g,sU,jg o]
    congr 1
    funext f i
    rw[WB n _ v (m.put c.free 0).get m.get i λj Z j1=>g.jD j Z (by omega) (by omega)]
theorem aa9{P:Ck->Prop}{kind W:Int}{D:Nat}(hk:kind≠2)(f d:ji){fs:List (Wd×Ex)}{zs:List (Sz×Val)}(E:∀ck,P ck->zQ ck kind fs zs)(B:∀p∈zs,uD p.2)(hz:∀p∈zs,p.1.wide<=W/\p.1.deep<=D)(H:0<=mZ zs)(hW:0<=W):
 Mx P (DK f d fs) ⟨2+W,if fs.length=0 then 0 else D+1,(if fs.length=0 then 1 else 3+Hx.kQ (jO d) * (lX zs+2))+1,mZ zs+25⟩ (λe v σ=>outcome v (if f.data.toList==[99,111,117,110,116]then 23 else 24) (sU (jO d) fs zs e v σ) 0):=by
 have hl:0<=jO d/\jO d<3:=by unfold jO;split<;>(try split)<;>omega
 refine⟨λe v σ τ h1=>?_,?_⟩
 .show outcome v _ (sU (jO d) fs zs e v σ) 0=outcome v _ (sU (jO d) fs zs e v τ) 0;rw[ag4 B e v σ τ h1]
 intro ck c s N hP G hi;have h8:=N.free;have G:c.free+(2+W)<=2008:=G;have F:rW (if f.data.toList==[99,111,117,110,116]then (23:Int)else 24):=by
  unfold rW;split<;>omega
 unfold DK;generalize (if f.data.toList==[99,111,117,110,116]then (23:Int)else 24)=o at F⊢;obtain⟨h,q1,R,q3,q4,q5,q6,q7⟩:=acF (ck:=ck) (kind:=kind) (W:=W) (D:=D) hk hl (E ck hP) hz H hW c N G;obtain⟨k,K,V,t,y,j,X,z⟩:=Qj ((⟨c.code++jX h.is,c.jy,c.free+1⟩:Co).kC c.free) s (by show 0<=c.free;omega) (by show c.free<=1000000;omega) hi;have t:=t;have y:K<=c.free+1:=y;have z:=z;obtain⟨g,Q,U,o3⟩:=F.shape;have n:rE ⟨o,[k,c.free]⟩:=⟨⟨by show 0<=o;omega,U⟩,by show JH (Hx.shape o) _;rw[g];exact⟨k,[c.free],rfl,rC j (by omega),c.free,[],rfl,rC (by omega) (by omega),rfl⟩⟩;refine⟨h.seq (Fr.ins ⟨o,[k,c.free]⟩),k,K,?_,⟨t,y,j,X,je (by show k<c.free+(2+W);omega),Fr.uy R (Fr.xP n (jf Q) false),?_,?_,?_,?_⟩,?_⟩
 .rw[q1];simp only;rw[V];simp only[Co.lay,Fr.seq,Fr.ins,nN,ny,mD,enc,aX,Co.kC,bY]
 .show h.jC+1<=_+1;omega
 .show max h.deep 0<=if fs.length=0 then 0 else D+1;omega
 .have:=JZ o k c.free ⟨j,by omega⟩ ⟨by omega,by omega⟩;show((jX (h.is++[⟨o,[k,c.free]⟩])).length:Int)<=mZ zs+25;rw[nN,aA];omega
 .refine q6.append (lF.one ?_);rw[show Hx.shape (⟨o,[k,c.free]⟩:I).o=[115,115]from g];exact⟨λ_=>by show k+1<=c.free+(2+W);omega,λ_=>by show c.free+1<=c.free+(2+W);omega,trivial⟩
 .intro v S jF kk lp m hv hS M hll hlow ht;have M:lp.length+max h.deep 0<=8:=M;obtain⟨J,Y,Z,L⟩:=q7 v S jF kk lp m hv hS.left (by omega) hll hlow.left ht;have A:=hS.right (R.size kk lp);have O:=yM (v:=v) (jF:=jF) (m:=J) (i:=⟨o,[k,c.free]⟩) A.head Q o3;rw[F.work]at O;refine⟨J.put k (outcome v o (J.get c.free) 0),Y.trans O,?_,(L.less (aV _) (je (jf (by omega))) (aj _)).trans (yG z j)⟩;have q:=hlow.right ⟨o,[k,c.free]⟩ (by simp[Fr.ins]);rw[show Hx.shape (⟨o,[k,c.free]⟩:I).o=[115,115]from g]at q;have:=q.1 rfl;rw[vW _ _ _ j (by rw[L.len];omega),Z]
end
section
open Go.RowKit Hx
attribute [local go_sem ↓] Go.wp_at_zero Go.wp_at_succ
attribute [local go_sem] kN
section
variable {w w' w1 w2:jk}{C lo hi b S:Nat}{c:Co}{u:jm}{e l r:Ex}{a:Int}{T:jo}{x:Sx}
theorem aqe{kind jw:Int}{h:List jm}(g:w.heap[b]? =some (.cells (Im a::Im jw::Im kind::h).toArray 415)):
 Calls prog 397 #[Pt b 0] w λe w'=>e=.returned (Im (if kind=3\/kind=4 then -1 else 0))/\w'=w:=by
 have k:=jJ 2 g rfl;clear g;by_cases d:kind=3
 .subst d;go_enter func397,ntmps397;go_wp2;go_ret;exact⟨rfl,rfl⟩
 .have i:(kind==3)=false:=by simp[d]
  by_cases f:kind=4
  .subst f;go_enter func397,ntmps397;go_wp2;go_ret;exact⟨rfl,rfl⟩
  .have j:(kind==4)=false:=by simp[f]
   rw[jg (by omega)];go_enter func397,ntmps397;go_wp2;go_ret;exact⟨rfl,rfl⟩
def Bv(what:List UInt8)(c:Co)(answer best one with':Int):Co:=
 if what==[109,105,110]then c.lay 25 [answer,best,one,with']else if what==[109,97,120]then c.lay 26 [answer,best,one,with']
 else if what==[115,117,109]then c.lay 10 [answer,answer,with']else if what==[97,110,121]then c.lay 20 [answer,answer,with']else c
theorem apw(d:List UInt8)(c:Co)(a b o i:Int):(Bv d c a b o i).jy=c.jy:=by
 unfold Bv;repeat' split
 all_goals rfl
theorem aeQ(d:List UInt8)(c:Co)(a b o i:Int):(Bv d c a b o i).code.length<=c.code.length+41:=by
 have f:=oN c 25 [a,b,o,i];have g:=oN c 26 [a,b,o,i];have h:=oN c 10 [a,a,i];have j:=oN c 20 [a,a,i];simp only[aF,bg]at f g h j;unfold Bv;repeat' split
 all_goals omega
structure PW(kind:Int)(x:Sx)(b:Wd×Ex)(c:Co)(c1 c2 c3 c4:Co)(answer best one is:Int):Prop where
 h1:c.hold=(c1,answer)
 h2:c1.hold=(c2,best)
 h3:(c2.lay 6 [answer,if kind=3\/kind=4 then -1 else 0]).ku (jO x.base) x.jE=(c3,one)
 h4:c3.inside b.1.text b.2.does one=(c4,is)
theorem RN{kind:Int}{d:ji}{b:Wd×Ex}{c1 i j g:Co}{answer best one is:Int}(h:PW kind x b c c1 i j g answer best one is)(f:Int):
 (yR kind d x b).give c f=(((Bv d.data.toList g answer best one is).lay 0 []).kC (wrap64 (answer+1)),answer):=by
 show((_:Co),c.hold.2)=_;rw[h.h1];simp only;rw[h.h2];simp only;rw[h.h3];simp only;rw[h.h4]
 rfl
theorem Xa(kind:Int)(x:Sx)(b:Wd×Ex)(c:Co):∃h i j k d f g m,PW kind x b c h i j k d f g m:=⟨_,_,_,_,_,_,_,_,rfl,rfl,rfl,rfl⟩
theorem PW.good{kind:Int}{t:Wd}{c1 d f g:Co}{answer best one is:Int}(h:PW kind x (t,e) c c1 d f g answer best one is)(p:wM x)(o:kF e)(A:e.jw<=1000000):
 c1.code=c.code/\c1.jy=c.jy/\d.code=c.code/\d.jy=c.jy/\f.jy=c.jy/\(f.code.length:Int)<=c.code.length+73+200 * (x.jw-1)/\g.jy=c.jy/\(g.code.length:Int)<=c.code.length+123+200 * (x.jw-1)+200 * e.jw:=by
 have j:c1=c.hold.1:=by rw[h.h1]
 have k:d=c1.hold.1:=by rw[h.h2]
 have m:f=((d.lay 6 [answer,if kind=3\/kind=4 then -1 else 0]).ku (jO x.base) x.jE).1:=by rw[h.h3]
 have n:g=(f.inside t.text e.does one).1:=by have:=h.h4;simp only at this;rw[this]
 have q:c1.code=c.code:=by rw[j];rfl
 have v:c1.jy=c.jy:=by rw[j];rfl
 have s:d.code=c.code:=by rw[k];exact q
 have y:d.jy=c.jy:=by rw[k];exact v
 have z:f.jy=c.jy:=by rw[m,aqJ p];exact y
 have B:=XA (c:=d.lay 6 [answer,if kind=3\/kind=4 then -1 else 0]) p (jO x.base);rw[<-m]at B;have i:=oN d 6 [answer,if kind=3\/kind=4 then -1 else 0];rw[s]at i;simp only[aF,bg]at i;have E:g.jy=c.jy:=by rw[n,Ws o];exact z
 have D:=Wq (c:=f) o t.text one A;rw[<-n]at D;exact⟨q,v,s,y,z,by omega,E,by omega⟩
theorem aeR(J:∀b∈x.jE,kF b.2)(ar:0<=x.jw/\x.jw<=1000001)(kind a0 k:Int)(g:ji)(t:Wd)(P:kF e)(an:0<=k/\k<=1000001)(Z:k<=1000000->wM x/\e.jw<=1000000/\2+x.jw+e.jw<=k)(dn:Dn)(hd:dn.give=(yR kind g x (t,e)).give):kF (vF 413 415 a0 k kind (Bo (BH x) (e.here e.at')) (λus=>.string g::(us.take 1++[.string t.text,Im t.at']++us.drop 1)) dn):=by
 have sD:=Hz λb W a=>(J b W).ok.law a;have ec:=P.ok.jw;refine⟨KW (by simp[lQ]) (Rk sD (P.ok.law _)) an,λc m=>?_,λc m hk=>?_,?_⟩
 .obtain⟨c1,N,c3,s,f,i,h,A,z⟩:=Xa kind x (t,e) c;show(dn.give c m).1.jy=c.jy;rw[hd];rw[RN z];show(Bv g.data.toList s f i h A).jy=c.jy;rw[apw];have e4:s=(c3.inside t.text e.does h).1:=by have:=z.h4;simp only at this;rw[this]
  have e3:c3=((N.lay 6 [f,if kind=3\/kind=4 then -1 else 0]).ku (jO x.base) x.jE).1:=by rw[z.h3]
  have e2:N=c1.hold.1:=by rw[z.h2]
  have e1:c1=c.hold.1:=by rw[z.h1]
  have am:∀(V:List (Wd×Ex))(c:Co)(h:Int),(∀b∈V,kF b.2)->(Co.jE h V c).jy=c.jy:=by
   intro V;induction V with
   |nil=>intro c h _;rfl
   |cons b V ih=>
    intro c h W;have e:Co.jE h (b::V) c=Co.jE h V (yB h c b):=rfl;rw[e,ih _ _ (λd hd=>W d (aI _ hd)),Vk h (W b (aW ..))]
  rw[e4,Ws P,e3];refine(am _ _ _ J).trans ?_;rw[e2,e1]
  rfl
 .obtain⟨c1,N,c3,s,f,i,h,A,z⟩:=Xa kind x (t,e) c;obtain⟨hs,Kr,hp⟩:=Z hk;have X:=z.good hs P Kr;show((dn.give c m).1.code.length:Int)<=c.code.length+200 * k+50;rw[hd];rw[RN z];have h1:=aeQ g.data.toList s f i h A;have h2:=oN (Bv g.data.toList s f i h A) 0 [];simp only[bg]at h2;show((((Bv g.data.toList s f i h A).lay 0 []).code.length:Nat):Int)<=_;have:=X.2.2.2.2.2.2.2;omega
 rintro a w lo hi T b C c m ⟨b',us,hv,h1,h2,⟨u,v,rfl,hu,aa⟩,W⟩ hC hc Y;cases hv;obtain⟨hs,Kr,hp⟩:=Z Y.jw;have Y:Room c k:=Y;have ao:=Y.code;have aq:=Y.jy;have ap:=Y.jw;obtain⟨c1,N,c3,s,f,i,h,A,z⟩:=Xa kind x (t,e) c;obtain⟨g1,g2,g3,g4,g5,g6,g7,g8⟩:=z.good hs P Kr;obtain⟨S,fv,rfl,_⟩:=id hu;obtain⟨T2,b2,rfl,_⟩:=P.ok.head _ _ _ _ _ aa;obtain⟨tt,ta⟩:=t;have al:b<C:=by omega
 have rU:=jA (λy (H:Gk w y C)=>(H.keep b al).trans W);have Io:Hid (∀y,Gk w y C->kG y C (N.lay 6 [f,if kind=3\/kind=4 then -1 else 0])->Calls prog 350 #[Pt C 0,Pt S 0] y λn w'=>n=.returned (Im h)/\kG w' C c3/\Gk y w' C):=λy H X=>by
  have h3:=oN N 6 [f,if kind=3\/kind=4 then -1 else 0];simp only[aF,bg]at h3;rw[g3]at h3;have:=acU hs (sD.gk hu H (by omega)) hC X ⟨by omega,by omega,by show((N.jy).length:Int)+_<=_;rw[g4];omega⟩;rw[z.h3]at this;exact this
 have F9:Hid (∀y,Gk w y C->kG y C c3->Calls prog 352 #[Pt C 0,.agg #[.string tt,Im ta,.iface T2 (Pt b2 0)],Im h] y λn w'=>n=.returned (Im A)/\kG w' C s/\Gk y w' C):=λy H X=>by
  have:=acR P ((P.ok.law _).gk aa H (by omega)) hC X ⟨by omega,by omega,by rw[g5];omega⟩ tt ta h;rw[z.h4]at this;exact this
 have ab:Hid (Calls prog 306 #[Pt C 0] w λe w'=>e=.returned (Im f)/\kG w' C c1/\Gk w w' C):=by
  have:=NV hc;rw[z.h1]at this;exact this
 have ac:Hid (∀y,kG y C c1->Calls prog 306 #[Pt C 0] y λe w'=>e=.returned (Im i)/\kG w' C N/\Gk y w' C):=λy H=>by
  have:=NV H;rw[z.h2]at this;exact this
 have ag:=jA (λy (H:Gk w y C)=>aqe (rU.out y H));have l2:N.code.length<=850000000:=by rw[g3];omega
 have l4:s.code.length<=850000000:=by omega
 refine⟨395,λw=>by kernel_rfl,λau w=>by kernel_rfl,?_⟩;have p:Hid (∀y,Gk w y C->kG y C ((Bv g.data.toList s f i h A).lay 0 [])->((∃u,y.cell? (Ad C 2)=some u)/\∀j,y.frozen? (Ad C j)=false)/\kG (y.setCell (Ad C 2) (Im (wrap64 (f+1)))) C (((yR kind g x (⟨tt,ta⟩,e)).give c m).1)/\Gk w (y.setCell (Ad C 2) (Im (wrap64 (f+1)))) C):=λy H X=>by
  have e0:(yR kind g x (⟨tt,ta⟩,e)).give c m=_:=RN z m;rw[e0];obtain⟨v5,OV,p5⟩:=X;exact⟨⟨⟨_,jG p5.jM⟩,λj=>nA p5.jM⟩,⟨v5,OV,p5.kC _⟩,H.trans (Gk.free _ _ _)⟩
 have U:((yR kind g x (⟨tt,ta⟩,e)).give c m).2=f:=by
  have e0:(yR kind g x (⟨tt,ta⟩,e)).give c m=_:=RN z m;rw[e0]
 show Calls prog 395 #[Pt b 0,Pt C 0,Im m] w λn w'=>n=.returned (Im (dn.give c m).2)/\kG w' C (dn.give c m).1/\Gk w w' C;rw[hd];rw[U];clear U z hu aa W hc Y J sD ec Z hs P Kr hp ao aq ap g1 g2 g3 g4 g5 g6 g7 g8 ar hd;generalize ((yR kind g x (⟨tt,ta⟩,e)).give c m).1=R at *;generalize (if kind=3\/kind=4 then (-1:Int)else 0)=zz at *;have q:=jA (λy (H:kG y C (Bv g.data.toList s f i h A))=>GU H 0 (by have:=aeQ g.data.toList s f i h A;omega));obtain⟨m1,ah⟩:∃m1:Bool,(g.toList==[109,105,110])=m1:=⟨_,rfl⟩;obtain⟨m2,ai⟩:∃m2:Bool,(g.toList==[109,97,120])=m2:=⟨_,rfl⟩;obtain⟨m3,aj⟩:∃m3:Bool,(g.toList==[115,117,109])=m3:=⟨_,rfl⟩;obtain⟨m4,ak⟩:∃m4:Bool,(g.toList==[97,110,121])=m4:=⟨_,rfl⟩;have ad:Hid (Bv g.data.toList s f i h A=if m1 then s.lay 25 [f,i,h,A]else if m2 then s.lay 26 [f,i,h,A]else if m3 then s.lay 10 [f,f,A]else if m4 then s.lay 20 [f,f,A]else s):=by
  unfold Bv;rw[<-aZ,ah,ai,aj,ak];exact jA rfl
 rw[ad.out]at p q;clear ad;go_enter func395,ntmps395;go_wp2_with fail;refine ab.out.mono ?_;rintro n w1 ⟨rfl,p1,q1⟩;have l9:=jA (jd p1 q1);clear p1 q1 ab;go_wp2_with fail;refine(ac.out _ l9.out.1).mono ?_;rintro n w2 ⟨rfl,p2,q2⟩;have yh:=jA (Bf p2 6 f zz (by omega));have lN:=jA (l9.out.2.trans q2);clear p2 q2 ac l9;go_wp2_with fail;refine(ag.out _ lN.out).mono ?_;rintro n av ⟨rfl,rfl⟩;go_wp2_with fail;refine yh.out.mono ?_;rintro n w3 ⟨rfl,p3,q3⟩;have ae:=rU.out w3 (lN.out.trans q3);have d4:=jJ 4 ae rfl;have qE:=jA (jd p3 (lN.out.trans q3));clear p3 q3 ae yh lN;go_wp2_with fail;refine(Io.out _ qE.out.2 qE.out.1).mono ?_;rintro n w4 ⟨rfl,p4,q4⟩;have O:=rU.out w4 (qE.out.2.trans q4);have e5:=jJ 5 O rfl;have e6:=jJ 6 O rfl;have e7:=jJ 7 O rfl;have tN:=jA (jd p4 (qE.out.2.trans q4));clear p4 q4 O qE Io;go_wp2_with fail;refine(F9.out _ tN.out.2 tN.out.1).mono ?_;rintro n w5 ⟨rfl,p5,q5⟩;have af:=rU.out w5 (tN.out.2.trans q5);have f3:=jJ 3 af rfl;have I:=jA (jd p5 (tN.out.2.trans q5));clear p5 q5 af tN F9 rU e5 e6 e7 d4;have JC:=jA (λo=>alZ I.out.1 o f i h A (by omega));have xB:=jA (λo=>QH I.out.1 o f f A (by omega));cases m1 with
 |true=>
  simp only[dM]at p q;go_wp2_with fail;refine(JC.out _).mono ?_;rintro n w6 ⟨rfl,K,L⟩;have B:=jA (jd K (I.out.2.trans L));clear K L JC xB I;go_wp2_with fail;refine(q.out _ B.out.1).mono ?_;rintro n Q ⟨rfl,D,E⟩;obtain⟨⟨⟨uu,d2⟩,fz⟩,F,G⟩:=p.out Q (B.out.2.trans E) D;have M:=jA (jd F G);clear D E F G q p B;go_wp2_with fail;go_ret;exact⟨rfl,M.out⟩
 |false=>
  simp only[aH,cZ]at p q;cases m2 with
  |true=>
   simp only[dM]at p q;go_wp2_with fail;refine(JC.out _).mono ?_;rintro n w6 ⟨rfl,K,L⟩;have B:=jA (jd K (I.out.2.trans L));clear K L JC xB I;go_wp2_with fail;refine(q.out _ B.out.1).mono ?_;rintro n Q ⟨rfl,D,E⟩;obtain⟨⟨⟨uu,d2⟩,fz⟩,F,G⟩:=p.out Q (B.out.2.trans E) D;have M:=jA (jd F G);clear D E F G q p B;go_wp2_with fail;go_ret;exact⟨rfl,M.out⟩
  |false=>
   simp only[aH,cZ]at p q;cases m3 with
   |true=>
    simp only[dM]at p q;go_wp2_with fail;refine(xB.out _).mono ?_;rintro n w6 ⟨rfl,K,L⟩;have B:=jA (jd K (I.out.2.trans L));clear K L JC xB I;go_wp2_with fail;refine(q.out _ B.out.1).mono ?_;rintro n Q ⟨rfl,D,E⟩;obtain⟨⟨⟨uu,d2⟩,fz⟩,F,G⟩:=p.out Q (B.out.2.trans E) D;have M:=jA (jd F G);clear D E F G q p B;go_wp2_with fail;go_ret;exact⟨rfl,M.out⟩
   |false=>
    simp only[aH,cZ]at p q;cases m4 with
    |true=>
     simp only[dM]at p q;go_wp2_with fail;refine(xB.out _).mono ?_;rintro n w6 ⟨rfl,K,L⟩;have B:=jA (jd K (I.out.2.trans L));clear K L JC xB I;go_wp2_with fail;refine(q.out _ B.out.1).mono ?_;rintro n Q ⟨rfl,D,E⟩;obtain⟨⟨⟨uu,d2⟩,fz⟩,F,G⟩:=p.out Q (B.out.2.trans E) D;have M:=jA (jd F G);clear D E F G q p B;go_wp2_with fail;go_ret;exact⟨rfl,M.out⟩
    |false=>
     simp only[aH,cZ]at p q;go_wp2_with fail;refine(q.out _ I.out.1).mono ?_;rintro n Q ⟨rfl,D,E⟩;obtain⟨⟨⟨uu,d2⟩,fz⟩,F,G⟩:=p.out Q (I.out.2.trans E) D;have M:=jA (jd F G);clear D E F G q p I;go_wp2_with fail;go_ret;exact⟨rfl,M.out⟩
theorem aeS{N:Nat}(p:N<=100000)(h:rF N kF x)(kind:Int)(d:ji)(t:Wd)(i:kF e):kF (qL kind d x (t,e)):=by
 have k:∀b∈x.jE,∀a,Lawful (b.2.here a):=λb j a=>(h.all b j).ok.law a;have A:Lawful (oZ x):=Pg k;have g:=i.ok.jw;refine(aeR h.all h.jw kind x.at' (jS [x.jw,x.round e.jw]) d t i (rO h.jw (tC g)) (λs=>?_) (yR kind d x (t,e)) rfl).of (wE (by simp[lQ]) (wU A (i.ok.law _)) (rO h.jw (tC g))).base
  (λ_ _ _ _ _ q=>KZ (λ_ _ _ _ _ ⟨m,u,v,n,o,B,y,z⟩ j=>⟨u,v,n,(Hz k).wide _ _ _ _ _ _ (X4 k y) (aj _) (by omega),(i.ok.law _).wide _ _ _ _ _ _ z o j⟩) q) rfl rfl
 have f:=tC (x:=x) g;have E:=Ap h.jw.1 h.jw.2 f.1 f.2 s;have D:=O7 (x:=x) g.1 (by have:=h.jw;omega);exact⟨wM.of p h (by omega),by have:=h.jw;omega,by omega⟩
theorem al1(N:Nat)(g:N<=100000):Dw N kF kF where
 jw:=λ_ h=>h.ok.jw
 number:=aff
 lD:=au1
 none:=ae7
 register:=agx
 use:=aij
 widen:=λ_ a h=>ait h a
 isNone:=λa _ h=>ad2 h a
 minus:=λa d _ _ h=>Xr h a 1 d
 not:=λa d _ _ h=>Xr h a 2 d
 two:=λa d _ _ h k=>ah9 h k a _ d
 property:=λa _ t h=>agc h a _ _ t
 RY:=λa _ _ h k=>afn h k a
 Nu:=λk f _ h=>abd g h k f
 He:=λk f _ b h i=>aeS g h k f b.1 i
theorem alI(s:ji)(f:s.size<=4000)(d:Nat)(p:Ps):kF (lG s d p).1:=
 Qr s (λ_=>kF) ae7 (λ_=>al1 (s.size+1) (by omega)) d p
end
end
section
open Go.RowKit Hx
def wS(w:List UInt8):Bool:=w==[109,105,110]
def isMax(w:List UInt8):Bool:=w==[109,97,120]
def Fv(w:List UInt8):Bool:=w==[115,117,109]
def isAny(w:List UInt8):Bool:=w==[97,110,121]
def oO(w:List UInt8)(acc:Int×Int)(i x:Int):Int×Int:=
 if wS w then (if decide (x<acc.2)||acc.1== -1 then (i,x)else acc)
 else if isMax w then (if decide (acc.2<x)||acc.1== -1 then (i,x)else acc)
 else if Fv w then (wrap64 (acc.1+x),acc.2)
 else if isAny w then (bits .or .i64 acc.1 x,acc.2)
 else acc
def sO(w:List UInt8)(answer best one is:Int):Fr:=
 if wS w then Fr.ins ⟨25,[answer,best,one,is]⟩else if isMax w then Fr.ins ⟨26,[answer,best,one,is]⟩
 else if Fv w then Fr.ins ⟨10,[answer,answer,is]⟩else if isAny w then Fr.ins ⟨20,[answer,answer,is]⟩else Fr.nil
def vC(w:List UInt8)(init list:Int)(fs:List (Wd×Ex))(zs:List (Sz×Val))(t:ji)(f:Val):Val:=λe v σ=>
 ((rM v list).foldl (λacc i=>if l7 fs zs e v σ i then oO w acc i (f (e++[(t,i)]) v σ)else acc) (init,0)).1
theorem apq{w:List UInt8}{init list:Int}{fs:List (Wd×Ex)}{zs:List (Sz×Val)}{t:ji}{f:Val}(h:∀p∈zs,uD p.2)(j:uD f):uD (vC w init list fs zs t f):=λe v σ τ g=>by
 unfold vC;have:(λ(d:Int×Int)(i:Int)=>if l7 fs zs e v σ i then oO w d i (f (e++[(t,i)]) v σ)else d)=(λd i=>if l7 fs zs e v τ i then oO w d i (f (e++[(t,i)]) v τ)else d):=by
  funext d i
  rw[Ou fs zs h e v σ τ i g,j (e++[(t,i)]) v σ τ g]
 rw[this]
theorem RQ(w:List UInt8)(g:wS w=false)(h:isMax w=false)(kp:Int->Bool)(x:Int->Int):∀(l:List Int)(a b f:Int),
 (l.foldl (λd i=>if kp i then oO w d i (x i)else d) ((a,b):Int×Int)).1=(l.foldl (λd i=>if kp i then oO w d i (x i)else d) ((a,f):Int×Int)).1
 |[],_,_,_=>rfl
 |i::l,a,b,f=>by
  rw[bP,bP];cases j:kp i with
  |false=>
   simp only[aH,cZ];exact RQ w g h kp x l a b f
  |true=>
   simp only[dM];have e:∀b,oO w (a,b) i (x i)=((oO w (a,0) i (x i)).1,b):=λb=>by
    unfold oO;simp only[g,h,aH,cZ];split
    .rfl
    .split<;>rfl
   rw[e b,e f];exact RQ w g h kp x l _ b f
theorem Xg(w:List UInt8)(kp:Int->Bool)(x:Int->Int):∀(l:List Int)(b f:Int),
 (l.foldl (λd i=>if kp i then oO w d i (x i)else d) ((-1,b):Int×Int)).1=(l.foldl (λd i=>if kp i then oO w d i (x i)else d) ((-1,f):Int×Int)).1
 |[],_,_=>rfl
 |i::l,b,f=>by
  by_cases g:wS w=true
  .rw[bP,bP];cases j:kp i with
   |false=>
    simp only[aH,cZ];exact Xg w kp x l b f
   |true=>
    simp only[dM];have e:∀b,oO w (-1,b) i (x i)=(i,x i):=λb=>by simp[oO,g]
    rw[e b,e f]
  .by_cases h:isMax w=true
   .rw[bP,bP];cases j:kp i with
    |false=>
     simp only[aH,cZ];exact Xg w kp x l b f
    |true=>
     simp only[dM];have e:∀b,oO w (-1,b) i (x i)=(i,x i):=λb=>by simp[oO,g,h]
     rw[e b,e f]
   .exact RQ w (by simpa using g) (by simpa using h) kp x (i::l) (-1) b f
theorem apB{w:List UInt8}{answer best one is:Int}(d:0<=answer/\answer<2008)(j:0<=best/\best<2008)(k:0<=one/\one<2008)(hi:0<=is/\is<2008)(x:Bool):
 (sO w answer best one is).Ok x/\(sO w answer best one is).jC<=1/\(sO w answer best one is).deep=0/\((jX (sO w answer best one is).is).length:Int)<=9/\∀b,answer<b->best<b->one<b->is<b->lF (sO w answer best one is).is b:=by
 have s:∀o:Int,o=25\/o=26->rE ⟨o,[answer,best,one,is]⟩:=λo h=>⟨⟨by show 0<=o;omega,by show o<=36;omega⟩,by
  rcases h with rfl|rfl<;>exact⟨answer,[best,one,is],rfl,rC d.1 d.2,best,[one,is],rfl,rC j.1 j.2,one,[is],rfl,rC k.1 k.2,is,[],rfl,rC hi.1 hi.2,rfl⟩⟩
 have q:∀o:Int,o=10\/o=20->rE ⟨o,[answer,answer,is]⟩:=λo h=>⟨⟨by show 0<=o;omega,by show o<=36;omega⟩,by
  rcases h with rfl|rfl<;>exact⟨answer,[answer,is],rfl,rC d.1 d.2,answer,[is],rfl,rC d.1 d.2,is,[],rfl,rC hi.1 hi.2,rfl⟩⟩
 have p:∀o:Int,((jX [⟨o,[answer,best,one,is]⟩]).length:Int)<=9:=λo=>by
  have:=xX answer d.1 d.2;have:=xX best j.1 j.2;have:=xX one k.1 k.2;have:=xX is hi.1 hi.2;simp only[ny,mD,enc,aX,aF,c8,dJ,aA];omega
 have m:∀o:Int,((jX [⟨o,[answer,answer,is]⟩]).length:Int)<=9:=λo=>by have:=acp o answer answer is d d hi;omega
 have v:∀(o b:Int),answer<b->best<b->one<b->is<b->lF [⟨o,[answer,best,one,is]⟩] b:=λo b f y z g=>lF.one (WX λn i=>by
  simp only[dh,dU,or_false]at i;rcases i with rfl|rfl|rfl|rfl<;>omega)
 have t:∀(o b:Int),answer<b->is<b->lF [⟨o,[answer,answer,is]⟩] b:=λo b f g=>lF.one (WX λn i=>by
  simp only[dh,dU,or_false]at i;rcases i with rfl|rfl|rfl<;>omega)
 unfold sO;split
 .exact⟨Fr.xP (s 25 (jf rfl)) (jf (by show(6:Int)<=25;omega)) x,aV _,rfl,p 25,v 25⟩
 .split
  .exact⟨Fr.xP (s 26 (je rfl)) (jf (by show(6:Int)<=26;omega)) x,aV _,rfl,p 26,v 26⟩
  .split
   .exact⟨Fr.xP (q 10 (jf rfl)) (jf (by show(6:Int)<=10;omega)) x,aV _,rfl,m 10,λb f _ _ g=>t 10 b f g⟩
   .split
    .exact⟨Fr.xP (q 20 (je rfl)) (jf (by show(6:Int)<=20;omega)) x,aV _,rfl,m 20,λb f _ _ g=>t 20 b f g⟩
    .exact⟨Fr.OT x,by show(0:Int)<=1;omega,rfl,by simp[Fr.nil,mD],λb _ _ _ _=>lF.nil _⟩
theorem apC{w:List UInt8}{answer best one is:Int}{v:Vw}{S:List St}{jF:List Int}{k:Nat}{lp:List Int}{m:Mc}(i:0<=answer)(s:0<=best)(q:answer≠best)(A:answer<m.jD.length)(t:best<m.jD.length)(p:uG S k ((sO w answer best one is).jB k lp)){free:Int}(z:free<=answer)(F:free<=best)(d:Nat):
 ∃B,Reaches v S jF k m (k+(sO w answer best one is).size) B/\oU free (-1) d m B/\(B.get answer,B.get best)=oO w (m.get answer,m.get best) (m.get one) (m.get is):=by
 unfold sO at p⊢;unfold oO;split at p
 .rename_i j;rw[jh j,jh j];have g:=yM (v:=v) (jF:=jF) (m:=m) p.head (by show(6:Int)<=25;omega) (by show(25:Int)≠36;omega);have E:Hx.work v (stepOf ⟨25,[answer,best,one,is]⟩) m=if (decide (m.get is<m.get best)||m.get answer== -1)=true then (m.put answer (m.get one)).put best (m.get is)else m:=by
   unfold Hx.work;rw[jg (by show¬(25:Int)=6;omega),jg (by show¬(25:Int)=21;omega),jg (by show¬(25:Int)=22;omega),jh (by rfl)]
   rfl
  rw[E]at g;split at g
  .rename_i h;refine⟨_,g,(yG (je z) i).trans (yG (je F) s),?_⟩;rw[jh h,vW _ best _ s (by rw[Ed];exact t),CQ _ answer best _ i s q,vW _ _ _ i A]
  .rename_i h;refine⟨_,g,oU.refl _ _ _ _,?_⟩;rw[jg h]
 .split at p
  .rename_i n j;rw[jg n,jh j];have g:=yM (v:=v) (jF:=jF) (m:=m) p.head (by show(6:Int)<=26;omega) (by show(26:Int)≠36;omega);have E:Hx.work v (stepOf ⟨26,[answer,best,one,is]⟩) m=if (decide (m.get best<m.get is)||m.get answer== -1)=true then (m.put answer (m.get one)).put best (m.get is)else m:=by
    unfold Hx.work;rw[jg (by show¬(26:Int)=6;omega),jg (by show¬(26:Int)=21;omega),jg (by show¬(26:Int)=22;omega),jg (by show¬(26:Int)=25;omega),jh (by rfl)]
    rfl
   rw[E]at g;rw[jg n,jh j];split at g
   .rename_i h;refine⟨_,g,(yG (je z) i).trans (yG (je F) s),?_⟩;rw[jh h,vW _ best _ s (by rw[Ed];exact t),CQ _ answer best _ i s q,vW _ _ _ i A]
   .rename_i h;refine⟨_,g,oU.refl _ _ _ _,?_⟩;rw[jg h]
  .split at p
   .rename_i n f j;rw[jg n,jg f,jh j,jg n,jg f,jh j];have g:=yM (v:=v) (jF:=jF) (m:=m) p.head (by show(6:Int)<=10;omega) (by show(10:Int)≠36;omega);have D:AY 10:=jf ⟨by omega,by omega⟩;rw[D.work]at g;refine⟨_,g,yG (je z) i,?_⟩;rw[vW _ _ _ i A,CQ _ best answer _ s i (λe=>q e.symm)]
    rfl
   .split at p
    .rename_i n f o j;rw[jg n,jg f,jg o,jh j,jg n,jg f,jg o,jh j];have g:=yM (v:=v) (jF:=jF) (m:=m) p.head (by show(6:Int)<=20;omega) (by show(20:Int)≠36;omega);have D:AY 20:=jf ⟨by omega,by omega⟩;rw[D.work]at g;refine⟨_,g,yG (je z) i,?_⟩;rw[vW _ _ _ i A,CQ _ best answer _ s i (λe=>q e.symm)]
     rfl
    .rename_i n f o y;rw[jg n,jg f,jg o,jg y,jg n,jg f,jg o,jg y];exact⟨m,Reaches.refl _ _ _ _ _,oU.refl _ _ _ _,rfl⟩
theorem apD(w:List UInt8)(c:Co)(answer best one is:Int):(if w==[109,105,110]then c.lay 25 [answer,best,one,is]else if w==[109,97,120]then c.lay 26 [answer,best,one,is]else if w==[115,117,109]then c.lay 10 [answer,answer,is]else if w==[97,110,121]then c.lay 20 [answer,answer,is]else c)=⟨c.code++jX (sO w answer best one is).is,c.jy,c.free⟩:=by
 unfold sO wS isMax Fv isAny;split
 .simp only[Co.lay,Fr.ins,ny,mD,enc,aX]
 .split
  .simp only[Co.lay,Fr.ins,ny,mD,enc,aX]
  .split
   .simp only[Co.lay,Fr.ins,ny,mD,enc,aX]
   .split
    .simp only[Co.lay,Fr.ins,ny,mD,enc,aX]
    .simp[Fr.nil,mD]
theorem aeO{P:Ck->Prop}{kind kd W:Int}{D:Nat}(hk:kind≠2)(f:ji){x:Sx}{zs:List (Sz×Val)}(R:∀ck,P ck->zQ ck kind x.jE zs)(N:∀p∈zs,uD p.2)(hz:∀p∈zs,p.1.wide<=W/\p.1.deep<=D)(t:Wd){e:Ex}{ze:Sz}{fe:Val}(A:uD fe)
 (he:∀ck,P ck->Mx (λwQ=>wQ=ck.add t.text kind false) e.does.give ze fe)(ae:ze.wide<=W/\ze.deep<=D)(hW:0<=W)(V:wS f.data.toList=true\/isMax f.data.toList=true->kd=3\/kd=4):
 Mx P (yR kd f x (t,e)).give ⟨3+W,D+1,3+Hx.kQ (jO x.base) * (lX zs+ze.jC+2),mZ zs+ze.jL+24⟩ (vC f.data.toList (if kd=3\/kd=4 then -1 else 0) (jO x.base) x.jE zs t.text fe):=by
 have hl:0<=jO x.base/\jO x.base<3:=by unfold jO;split<;>(try split)<;>omega
 refine⟨apq N A,?_⟩;intro ck c ai q hP hw hi;have h8:=q.free;have hw:c.free+(3+W)<=2008:=hw;obtain⟨d,o⟩:∃d:Int,(if kd=3\/kd=4 then (-1:Int)else 0)=d:=⟨_,rfl⟩;have I:jK d/\(pY d).length<=1:=by
  subst o;split
  .exact⟨by unfold jK;omega,by decide⟩
  .exact⟨by unfold jK;omega,by decide⟩
 rw[o];obtain⟨ak,al⟩:=ae;obtain⟨ft,q1,q2,q3,q4,q5,q6,q7⟩:=afG (ck:=ck) (kind:=kind) (one:=c.free+2) (W:=W) (list:=jO x.base) (D:=D) hk (⟨c.code++jX [⟨6,[c.free,d]⟩],c.jy,c.free+2⟩:Co) (q.more (by omega)) rfl (R ck hP) hz hW (by omega);obtain⟨h,is,f',e1,y,wk⟩:=(he ck hP).lay (ck.add t.text kind false) ((⟨c.code++jX [⟨6,[c.free,d]⟩]++jX [⟨21,[c.free+2,jO x.base]⟩]++enc ⟨4,[jO x.base,c.free+2,c.free+2]⟩++jX ft.is,c.jy,c.free+2+1⟩:Co).know t.text (c.free+2)) (-1) ((q.more (f':=c.free+2+1) (by omega)).know (by omega) (by show c.free+2<c.free+2+1;omega)) rfl (by show c.free+2+1+ze.wide<=2008;omega) (jf rfl);have x0:=y.r0;have x1:=y.r1;have x3:is<c.free+2+1\/is<c.free+2+1+ze.wide:=y.r3;have ad:is<c.free+(3+W):=by omega
 obtain⟨k1,k2,k3,k4,k5⟩:=apB (w:=f.data.toList) (answer:=c.free) (best:=c.free+1) (one:=c.free+2) (is:=is) ⟨by omega,by omega⟩ ⟨by omega,by omega⟩ ⟨by omega,by omega⟩ ⟨x0,by omega⟩ true;have Z:=Fr.uy y.ok.inside k1;have Y:=agW (list:=jO x.base) (one:=c.free+2) (by omega) (by omega) hl q2 Z;have xn:=y.jC;have xd:=y.deep;have xl:=y.jL;refine⟨(Fr.ins ⟨6,[c.free,d]⟩).seq (yI (jO x.base) (c.free+2) ft (h.seq (sO f.data.toList c.free (c.free+1) (c.free+2) is))),c.free,c.free+1,?_,⟨by omega,aV _,by omega,by omega,je (by show c.free<c.free+(3+W);omega),Fr.uy (Fr.xP (afc ⟨by omega,by omega⟩ I.1) (jf (by show(6:Int)<=6;omega)) false) Y,?_,?_,?_,?_⟩,?_⟩
 .simp only[yR];rw[Oh c (by omega) (by omega)];simp only;have hh:(c.kC (c.free+1)).hold=(c.kC (c.free+2),c.free+1):=by
   have:=Oh (c.kC (c.free+1)) (by show 0<=c.free+1;omega) (by show c.free+1<=1000000;omega);rw[this];show(c.kC (c.free+1+1),c.free+1)=_;rw[show c.free+1+1=c.free+2 by omega]
  rw[hh,o];simp only;have e0:(c.kC (c.free+2)).lay 6 [c.free,d]=⟨c.code++jX [⟨6,[c.free,d]⟩],c.jy,c.free+2⟩:=by simp only[Co.lay,Co.kC,ny,mD,enc,aX]
  rw[e0,q1];unfold Co.inside;simp only;rw[e1];simp only;rw[apD];have ew:wrap64 (c.free+1)=c.free+1:=Py _ (by unfold jK;omega);rw[ew];simp only[Co.lay,Co.kC,Co.cut,Co.know,Fr.seq,Fr.ins,yI,Fr.loop,nN,ny,mD,aX,bY,bZ,enc,dP,dJ,iK]
 .show 1+(1+(1+Hx.kQ (jO x.base) * (ft.jC+(h.jC+(sO f.data.toList c.free (c.free+1) (c.free+2) is).jC)+1)))<=3+Hx.kQ (jO x.base) * (lX zs+ze.jC+2);have hm:Hx.kQ (jO x.base) * (ft.jC+(h.jC+(sO f.data.toList c.free (c.free+1) (c.free+2) is).jC)+1)<=Hx.kQ (jO x.base) * (lX zs+ze.jC+2):=fB (by omega) (by have:=KF (jO x.base);omega);omega
 .show max 0 (max 0 (max ft.deep (max h.deep (sO f.data.toList c.free (c.free+1) (c.free+2) is).deep)+1))<=D+1;omega
 .have F:=agU (list:=jO x.base) (one:=c.free+2) (ft:=ft) (tl:=h.seq (sO f.data.toList c.free (c.free+1) (c.free+2) is)) (a:=mZ zs) (b:=ze.jL+9) (by omega) (by omega) hl q5 (by
   show((jX (h.is++(sO f.data.toList c.free (c.free+1) (c.free+2) is).is)).length:Int)<=_;rw[nN,aA];omega)
  have h6:((jX [⟨6,[c.free,d]⟩]).length:Int)<=4:=by
   have:=xX c.free (by omega) (by omega);have:=I.2;simp only[ny,mD,enc,aX,aF,c8,dJ,aA];omega
  show((jX ([⟨6,[c.free,d]⟩]++(yI (jO x.base) (c.free+2) ft (h.seq (sO f.data.toList c.free (c.free+1) (c.free+2) is))).is)).length:Int)<=mZ zs+ze.jL+24;rw[nN,aA];omega
 .refine lF.append (lF.one ⟨λ_=>by show c.free+1<=c.free+(3+W);omega,(λe=>by cases e),trivial⟩) (agV (by show c.free+2+1<=c.free+(3+W);omega) (q6.wide (by show c.free+2+1+W<=c.free+(3+W);omega)) ((y.low.wide ?_).append (k5 _ ?_ ?_ ?_ ad)))
  .show c.free+2+1+ze.wide<=c.free+(3+W);omega
  .show c.free<c.free+(3+W);omega
  .show c.free+1<c.free+(3+W);omega
  .show c.free+2<c.free+(3+W);omega
 .intro v S jF k lp m hv L O hll hlow ht;have O:lp.length+max 0 (max 0 (max ft.deep (max h.deep (sO f.data.toList c.free (c.free+1) (c.free+2) is).deep)+1))<=8:=O;have ab:=L.left.head;have ac:=L.right rfl;have J:=hlow.right;have ah:c.free+2<m.jD.length:=by
   have:=(J.left ⟨21,[c.free+2,jO x.base]⟩ (by simp[Fr.ins])).1 rfl;omega
  have g0:=yM (v:=v) (jF:=jF) (m:=m) ab (by show(6:Int)<=6;omega) (by show(6:Int)≠36;omega);have hw:Hx.work v (stepOf ⟨6,[c.free,d]⟩) m=m.put c.free d:=by
   unfold Hx.work;rw[jh (by rfl)]
   rfl
  rw[hw]at g0;have n:oU c.free (-1) lp.length m (m.put c.free d):=yG (je (aV _)) (by omega);have M:((m.put c.free d).get c.free,(m.put c.free d).get (c.free+1))=(d,m.get (c.free+1)):=by rw[vW _ _ _ (by omega) (by omega),CQ _ _ _ _ (by omega) (by omega) (by omega)]
  obtain⟨H,p1,p2,p3⟩:=ag6 (ck:=ck) (c0:=c) (c1:=⟨c.code,c.jy,c.free+2+1⟩) (one:=c.free+2) (list:=jO x.base) (ft:=ft) (tl:=h.seq (sO f.data.toList c.free (c.free+1) (c.free+2) is)) (bs:=x.jE) (zs:=zs) (kind:=kind) (m0:=m.put c.free d) (jF:=jF) (S:=S) (k:=k+1) (lp:=lp)
   (λ(g:Int×Int) m=>(m.get c.free,m.get (c.free+1))=g) (λg i=>oO f.data.toList g i (fe (lM c (m.put c.free d).get++[(t.text,i)]) v (m.put c.free d).get)) hv q rfl (by omega) (by show c.free+2<c.free+2+1;omega) (R ck hP) q2 Z (q7 _)
   (λg m H ag F X=>by
     have h1:=F c.free (aV _) (by omega);have h2:=F (c.free+1) (by omega) (by omega);show(H.get c.free,H.get (c.free+1))=g;rw[h1,h2];exact X) (Ie ht n q)
   (λS k lp z g i L O aa E s V5 i0 i1 X=>by
     have O:lp.length+max h.deep (sO f.data.toList c.free (c.free+1) (c.free+2) is).deep<=8:=O;have af:Ty ck c z.get:=Ie (Ie ht n q) s q;obtain⟨m2,y1,y2,G⟩:=wk v S jF k lp z hv L.left (by omega) aa E.left (Ty.know (c:=⟨c.code++jX [⟨6,[c.free,d]⟩]++jX [⟨21,[c.free+2,jO x.base]⟩]++enc ⟨4,[jO x.base,c.free+2,c.free+2]⟩++jX ft.is,c.jy,c.free+2+1⟩) (q.more (by omega)) (af.jy rfl) (by rw[V5];unfold jK;omega) (λe=>jl e hk));have G:oU (c.free+2+1) (-1) lp.length z m2:=G;rw[acw]at y2;have Q:lM (⟨c.code++jX [⟨6,[c.free,d]⟩]++jX [⟨21,[c.free+2,jO x.base]⟩]++enc ⟨4,[jO x.base,c.free+2,c.free+2]⟩++jX ft.is,c.jy,c.free+2+1⟩:Co) z.get=lM c (m.put c.free d).get:=CP (c:=c) q s;rw[Q,V5,A _ v z.get (m.put c.free d).get λj j0 j1=>s.jD j j0 (by omega) (by omega)]at y2;have K:m2.jD.length=m.jD.length:=by rw[G.len,s.len,Ed]
     obtain⟨m3,r1,r2,r3⟩:=apC (w:=f.data.toList) (answer:=c.free) (best:=c.free+1) (one:=c.free+2) (is:=is) (v:=v) (S:=S) (jF:=jF) (k:=k+h.size) (lp:=lp) (m:=m2) (by omega) (by omega) (by omega) (by rw[K];omega) (by rw[K];omega) (L.right (y.ok.size k lp)) (free:=c.free) (aV _) (by omega) lp.length;refine⟨m3,?_,(G.less (by omega) (jf rfl) (aj _)).trans r2,?_⟩
     .show Reaches v S jF k z (k+(h.size+(sO f.data.toList c.free (c.free+1) (c.free+2) is).size)) m3;rw[<-fE];exact y1.trans r1
     .show(m3.get c.free,m3.get (c.free+1))=oO f.data.toList g i _;rw[r3,y2,G.jD c.free (by omega) (by omega) (by omega),G.jD (c.free+1) (by omega) (by omega) (by omega),G.jD (c.free+2) (by omega) (by omega) (by omega),V5];have X:(z.get c.free,z.get (c.free+1))=g:=X;rw[X])
   ac (by show lp.length+max 0 (max ft.deep (max h.deep (sO f.data.toList c.free (c.free+1) (c.free+2) is).deep)+1)<=8;omega) (by exact hll) (by rw[Ed];exact J) (acc0:=(d,m.get (c.free+1))) M
  refine⟨H,?_,?_,(n.trans p2).less (aV _) (je (jf (by omega))) (aj _)⟩
  .show Reaches v S jF k m (k+(1+(yI (jO x.base) (c.free+2) ft (h.seq (sO f.data.toList c.free (c.free+1) (c.free+2) is))).size)) H;rw[<-fE];exact g0.trans p1
  .have p3:=p3;have hm:=congrArg Prod.fst p3;have hm:H.get c.free=_:=hm;rw[hm,CP q n];have U:(λ(g:Int×Int)(i:Int)=>if l7 x.jE zs (lM c m.get) v (m.put c.free d).get i then oO f.data.toList g i (fe (lM c m.get++[(t.text,i)]) v (m.put c.free d).get)else g)=(λg i=>if l7 x.jE zs (lM c m.get) v m.get i then oO f.data.toList g i (fe (lM c m.get++[(t.text,i)]) v m.get)else g):=by
    funext g i
    rw[Ou x.jE zs N _ v (m.put c.free d).get m.get i λj j0 j1=>n.jD j j0 (by omega) (by omega),A _ v (m.put c.free d).get m.get λj j0 j1=>n.jD j j0 (by omega) (by omega)]
   rw[U];unfold vC;by_cases B:kd=3\/kd=4
   .rw[jh B]at o;subst o;exact Xg _ _ _ _ _ _
   .have hn:wS f.data.toList=false/\isMax f.data.toList=false:=by
     constructor
     .cases hq:wS f.data.toList with
      |false=>rfl
      |true=>exact jl (V (jf hq)) B
     .cases hq:isMax f.data.toList with
      |false=>rfl
      |true=>exact jl (V (je hq)) B
    exact RQ _ hn.1 hn.2 _ _ _ _ _ _
end
end Go.Proofs.YthllhabjfchgiaaGreatDoor
