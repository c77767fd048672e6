import Derived.Test.YthllhabjfchgiaaGreatDoorHs26
set_option maxRecDepth 100000
set_option maxHeartbeats 8000000
set_option linter.unusedSimpArgs false
namespace Go.Proofs.YthllhabjfchgiaaGreatDoor
open _root_.Go.Proofs.Tryz
section
open Go.RowKit Hx
theorem Fit.know{ck:Ck}{c:Co}(h:Fit ck c){t:ji}{kind one:Int}{g:Bool}(i:0<=one)(j:one<c.free):Fit (ck.add t kind g) (c.know t one):=by
 refine⟨h.en,?_,λn f=>?_,h.free⟩
 .show(ck.jy++[(⟨t,kind,g⟩:Kn)]).map (λk=>k.name.data.toList)=(c.jy++[(t,one)]).map (λn=>n.1.data.toList);rw[dF,dF,h.jy]
  rfl
 .rcases List.mem_append.1 (show n∈c.jy++[(t,one)]from f)with f|f
  .exact h.jD n f
  .rw[cO.1 f];exact⟨i,j⟩
theorem Fit.lens{ck:Ck}{c:Co}(h:Fit ck c):ck.jy.length=c.jy.length:=by
 have:=congrArg List.length h.jy;simpa using this
theorem Ty.know{ck:Ck}{c:Co}{σ:Int->Int}(A:Fit ck c)(h:Ty ck c σ){t:ji}{kind one:Int}{y:Bool}(z:jK (σ one))(B:kind=2->σ one=0\/σ one=1):Ty (ck.add t kind y) (c.know t one) σ:=by
 refine⟨h.jF,λn f=>?_,λj k n g f s=>?_⟩
 .rcases List.mem_append.1 (show n∈c.jy++[(t,one)]from f)with f|f
  .exact h.num n f
  .rw[cO.1 f];exact z
 .have D:=A.lens;have g:(ck.jy++[⟨t,kind,y⟩])[j]? =some k:=g;have f:(c.jy++[(t,one)])[j]? =some n:=f;rcases dG j ck.jy.length with p|i
  .rw[aT p]at g;rw[aT (by omega)]at f;exact h.lD j k n g f s
  .rw[bW i]at g;rw[bW (by omega)]at f;rcases gJ (j-ck.jy.length)with q|q
   .rw[q]at g;rw[show j-c.jy.length=0 by omega]at f;simp only[dw,bJ]at g f;subst g f;exact B s
   .rw[bV (by simp;omega)]at g;cases g
def zQ(ck:Ck)(kind:Int):List (Wd×Ex)->List (Sz×Val)->Prop
 |[],zs=>zs=[]
 |b::bs,zs=>∃z f zs',zs=(z,f)::zs'/\Mx (λwQ=>wQ=ck.add b.1.text kind false) b.2.does.give z f/\zQ ck kind bs zs'
def l7:List (Wd×Ex)->List (Sz×Val)->List (ji×Int)->Vw->(Int->Int)->Int->Bool
 |b::bs,(_,f)::zs,ns,v,σ,i=>decide (f (ns++[(b.1.text,i)]) v σ≠0)&&l7 bs zs ns v σ i
 |_,_,_,_,_,_=>true
def lX(zs:List (Sz×Val)):Int:=(zs.map λp=>p.1.jC+1).sum
def mZ(zs:List (Sz×Val)):Int:=(zs.map λp=>p.1.jL+3).sum
theorem Ou:∀(n:List (Wd×Ex))(j:List (Sz×Val)),(∀p∈j,uD p.2)->∀(g:List (ji×Int))(v:Vw)(σ τ:Int->Int)(i:Int),(∀i,0<=i->i<8->σ i=τ i)->l7 n j g v σ i=l7 n j g v τ i
 |[],_,_,_,_,_,_,_,_=>by simp[l7]
 |_::_,[],_,_,_,_,_,_,_=>by simp[l7]
 |b::n,(z,f)::j,h,g,v,σ,τ,i,ha=>by
  have e:f (g++[(b.1.text,i)]) v σ=f (g++[(b.1.text,i)]) v τ:=h (z,f) (aW ..) (g++[(b.1.text,i)]) v σ τ ha;simp only[l7];rw[e,Ou n j (λp q=>h p (aI _ q)) g v σ τ i ha]
theorem zQ.pO{ck:Ck}{kind:Int}:∀{i:List (Wd×Ex)}{g:List (Sz×Val)},zQ ck kind i g->∀p∈g,uD p.2
 |[],_,h,p,f=>by
  rw[show _=[]from h]at f;simp at f
 |_::_,_,⟨_,_,_,rfl,h1,h2⟩,p,f=>by
  rcases dh.1 f with rfl|f
  .exact h1.pO
  .exact h2.pO p f
theorem WB{ck:Ck}{kind:Int}{bs:List (Wd×Ex)}{zs:List (Sz×Val)}(h:zQ ck kind bs zs)(ns:List (ji×Int))(v:Vw)(σ τ:Int->Int)(i:Int)(f:∀i,0<=i->i<8->σ i=τ i):l7 bs zs ns v σ i=l7 bs zs ns v τ i:=Ou bs zs h.pO ns v σ τ i f
theorem acw(c:Co)(t:ji)(one:Int)(σ:Int->Int):lM (c.know t one) σ=lM c σ++[(t,σ one)]:=by
 unfold lM Co.know;rw[dF]
 rfl
def Uz(ck:Ck)(c:Co)(one:Int)(fr:Fr)(bs:List (Wd×Ex))(zs:List (Sz×Val)):Prop:=
 ∀(v:Vw)(S:List St)(jF:List Int)(k kl lC:Nat)(lp:List Int)(list a b:Int)(m:Mc),nM v->uG S k (fr.jB k (lp++[(kl:Int)]))->S[kl]? =some (mQ list a b lp.length lC)->lp.length+1+fr.deep<=8->m.left.length=8->lF fr.is m.jD.length->Ty ck c m.get->jK (m.get one)->
  ∃m',oU c.free (-1) (lp.length+1) m m'/\(if l7 bs zs (lM c m.get) v m.get (m.get one)then Reaches v S jF k m (k+fr.size) m' else Reaches v S jF k m (kR (mQ list a b lp.length lC) kl m').2.toNat (kR (mQ list a b lp.length lC) kl m').1)
theorem aln(r:Int)(h:0<=r/\r<2008):((jX [⟨5,[r]⟩]).length:Int)<=3:=by
 have:=xX r h.1 h.2;simp only[ny,mD,enc,aX,aF,c8,dJ];omega
theorem Fr.Ok.inside{fr:Fr}(h:fr.Ok false):fr.Ok true:=⟨h.jC,h.size,λp s f t q y n g _ i j=>h.load p s f t q y n g (λe=>by cases e) i j⟩
theorem acH{ck:Ck}{kind one W:Int}{D:Nat}(Z:kind≠2):∀(j:List (Wd×Ex))(h:List (Sz×Val))(c:Co),Fit ck c->0<=one->one<c.free->zQ ck kind j h->(∀p∈h,p.1.wide<=W/\p.1.deep<=D)->0<=W->c.free+W<=2008->
 ∃g:Fr,Co.jE one j c=⟨c.code++jX g.is,c.jy,c.free⟩/\g.Ok true/\g.jC<=lX h/\g.deep<=D/\((jX g.is).length:Int)<=mZ h/\lF g.is (c.free+W)/\Uz ck c one g j h
 |[],h,c,hf,h0,h1,A,hw,hW,hb=>by
  have A:=A;subst A;refine⟨Fr.nil,?_,Fr.OT true,aV _,bD _,by simp[Fr.nil,mD,mZ],lF.nil _,?_⟩
  .simp[Co.jE,Fr.nil,mD]
  .intro v S jF k kl lC lp list a b m _ _ _ _ _ _ _ _;exact⟨m,oU.refl _ _ _ _,by simp only[l7,dM];exact Reaches.refl _ _ _ _ _⟩
 |b::j,_,c,hf,h0,h1,⟨z,f,h,rfl,hm,hr⟩,hw,hW,hb=>by
  have h8:=hf.free;obtain⟨L,K⟩:=hw (z,f) (aW ..);have L:z.wide<=W:=L;have K:z.deep<=D:=K;obtain⟨g,r,f',e,x,w⟩:=hm.lay (ck.add b.1.text kind false) (c.know b.1.text one) (-1) (hf.know h0 h1) rfl (by show c.free+z.wide<=2008;omega) (jf rfl);have x1:=x.r1;have x0:=x.r0;have x2:=x.f2;have x3:r<c.free\/r<c.free+z.wide:=x.r3;have t:rE ⟨5,[r]⟩:=⟨⟨by show(0:Int)<=5;omega,by show(5:Int)<=36;omega⟩,r,[],rfl,rC x0 (by omega),rfl⟩;have G:yB one c b=⟨c.code++jX (g.seq (Fr.skip r)).is,c.jy,c.free⟩:=by
   unfold yB Co.inside;simp only;rw[e];simp only[Co.lay,Co.kC,Co.cut,Co.know,Fr.seq,Fr.skip,nN,ny,mD,enc,aX,bY,iK]
  obtain⟨H,q1,q2,q3,q4,q5,q6,q7⟩:=acH Z j h ⟨c.code++jX (g.seq (Fr.skip r)).is,c.jy,c.free⟩ (hf.more (aV _)) h0 h1 hr (λp hp=>hw p (aI _ hp)) hW hb;have aa:=x.deep;have ab:=x.jC;have R:=x.jL;refine⟨(g.seq (Fr.skip r)).seq H,?_,Fr.uy (Fr.uy x.ok.inside (Fr.ahe t)) q2,?_,?_,?_,?_,?_⟩
  .have e0:Co.jE one (b::j) c=Co.jE one j (yB one c b):=rfl;rw[e0,G,q1];simp only[Fr.seq,nN,bY]
  .show g.jC+1+H.jC<=lX ((z,f)::h);have:lX ((z,f)::h)=z.jC+1+lX h:=by simp[lX]
   omega
  .show max (max g.deep 0) H.deep<=D;omega
  .have:mZ ((z,f)::h)=z.jL+3+mZ h:=by simp[mZ]
   have:=aln r ⟨x0,by omega⟩;show((jX (g.is++[⟨5,[r]⟩]++H.is)).length:Int)<=_;rw[nN,nN,aA,aA];omega
  .refine lF.append ((x.low.wide ?_).append (lF.one ⟨λ_=>?_,trivial⟩)) q6
   .show c.free+z.wide<=c.free+W;omega
   .show r+1<=c.free+W;omega
  .intro v S jF k kl lC lp list a bb m hv hS hL Y hll hl ht hone;have Y:lp.length+1+max (max g.deep 0) H.deep<=8:=Y;have J:=hS.left;have F:((g.seq (Fr.skip r)).jB k (lp++[(kl:Int)])).length=g.size+1:=(Fr.uy x.ok.inside (Fr.ahe t)).size _ _;have N:=hS.right F;have P:=hl.left;have Q:=hl.right;obtain⟨n,X,M,q⟩:=w v S jF k (lp++[(kl:Int)]) m hv J.left (by rw[aA,eG];omega) hll P.left (Ty.know hf ht hone λe=>jl e Z);have q:oU c.free (-1) (lp.length+1) m n:=by
    have:(lp++[(kl:Int)]).length=lp.length+1:=by simp
    rw[this]at q;exact q
   have M:n.get r=f (lM c m.get++[(b.1.text,m.get one)]) v m.get:=by rw[M,acw]
   have s:=(J.right (x.ok.size k (lp++[(kl:Int)]))).head;have s:S[k+g.size]? =some (Tf r kl):=by
    simpa using s
   by_cases A:f (lM c m.get++[(b.1.text,m.get one)]) v m.get=0
   .refine⟨n,q,?_⟩;have E:l7 (b::j) ((z,f)::h) (lM c m.get) v m.get (m.get one)=false:=by simp[l7,A]
    rw[E];simp only[aH,cZ];exact X.trans (atB hL s (by rw[M,A]))
   .have U:=atD (v:=v) (jF:=jF) (m:=n) s (by rw[M];exact A);obtain⟨m2,V,I⟩:=q7 v S jF (k+(g.size+1)) kl lC lp list a bb n hv N hL (by omega) (by rw[q.vk];exact hll) (by rw[q.len];exact Q) ((Ie ht q hf).jy rfl) (by rw[q.jD one h0 h1 (by omega)];exact hone);have V:=V;have O:l7 j h (lM c n.get) v n.get (n.get one)=l7 j h (lM c m.get) v m.get (m.get one):=by
     rw[CP hf q,q.jD one h0 h1 (by omega)];exact WB hr _ v n.get m.get _ λi i0 i1=>q.jD i i0 (by omega) (by omega)
    have E:l7 (b::j) ((z,f)::h) (lM c m.get) v m.get (m.get one)=l7 j h (lM c m.get) v m.get (m.get one):=by simp[l7,A]
    have y:Reaches v S jF k m (k+(g.size+1)) n:=by
     rw[<-fE];exact X.trans U
    refine⟨m2,q.trans V,?_⟩;rw[E];have I:if l7 j h (lM c n.get) v n.get (n.get one)=true then _ else _:=I;rw[O]at I;split at I
    .rename_i B;rw[jh B];show Reaches v S jF k m (k+(g.size+1+H.size)) m2;rw[<-fE];exact y.trans I
    .rename_i B;rw[jg B];exact y.trans I
def rM(v:Vw)(list:Int):List Int:=bitsOf (nY (bits .and .i64 (v.all list) (v.all list)))
def yI(list one:Int)(ft tl:Fr):Fr:=(Fr.ins ⟨21,[one,list]⟩).seq (Fr.loop list one one (ft.seq tl))
theorem aa6{one list:Int}(f:0<=one)(g:one<2008)(i:0<=list/\list<3):rE ⟨21,[one,list]⟩:=
 ⟨⟨by show(0:Int)<=21;omega,by show(21:Int)<=36;omega⟩,one,[list],rfl,rC f g,list,[],rfl,⟨by unfold jK;omega,(λh=>by cases h),λ_=>i⟩,rfl⟩
theorem aey{a b list:Int}(f:0<=a)(g:a<2008)(i:0<=b)(j:b<2008)(n:0<=list/\list<3):rE ⟨4,[list,a,b]⟩:=
 ⟨⟨by show(0:Int)<=4;omega,by show(4:Int)<=36;omega⟩,list,[a,b],rfl,⟨by unfold jK;omega,(λh=>by cases h),λ_=>n⟩,a,[b],rfl,rC f g,b,[],rfl,rC i j,rfl⟩
def aiE{α:Type}(Rel:α->Mc->Prop)(lo hi:Int):Prop:=∀(acc:α)(m m':Mc),m'.jD.length=m.jD.length->(∀i,lo<=i->i<hi->m'.get i=m.get i)->Rel acc m->Rel acc m'
theorem ag6{ck:Ck}{c0 c1:Co}{one list:Int}{ft tl:Fr}{bs:List (Wd×Ex)}{zs:List (Sz×Val)}{kind:Int}{α:Type}(h:α->Mc->Prop)(g:α->Int->α){v:Vw}(hv:nM v)(hf:Fit ck c0)(hn:c1.jy=c0.jy)(h1:c0.free<=one)(h2:one<c1.free)
 (ae:zQ ck kind bs zs)(N:ft.Ok true)(ah:tl.Ok true)(G:Uz ck c1 one ft bs zs)(Y:aiE h c0.free one){m0:Mc}{jF:List Int}(ht:Ty ck c0 m0.get)
 (H:∀(S:List St)(k:Nat)(lp:List Int)(m:Mc)(f:α)(i:Int),uG S k (tl.jB k lp)->lp.length+tl.deep<=8->m.left.length=8->lF tl.is m.jD.length->oU c0.free (-1) 0 m0 m->m.get one=i->0<=i->i<64->h f m->∃q,Reaches v S jF k m (k+tl.size) q/\oU c0.free (-1) lp.length m q/\h (g f i) q)
 {S:List St}{k:Nat}{lp:List Int}(hS:uG S k ((yI list one ft tl).jB k lp))(hd:lp.length+(yI list one ft tl).deep<=8)(F:m0.left.length=8)(s:lF (yI list one ft tl).is m0.jD.length){acc0:α}(K:h acc0 m0):
 ∃q,Reaches v S jF k m0 (k+(yI list one ft tl).size) q/\oU c0.free (-1) lp.length m0 q/\h ((rM v list).foldl (λf i=>if l7 bs zs (lM c0 m0.get) v m0.get i then g f i else f) acc0) q:=by
 have h8:=hf.free;have hd:lp.length+max 0 (max ft.deep tl.deep+1)<=8:=hd;have t:one<m0.jD.length:=by
  have:=(s.left ⟨21,[one,list]⟩ (by simp[Fr.ins])).1 rfl;omega
 have ab:=hS.left.head;have A:=hS.right rfl;have hL:=A.head;have J:=A.tail.left;have su:=(A.tail.right ((Fr.uy N ah).size _ _)).head;have ac:=J.left;have ad:=J.right (N.size _ _);have Z:=s.right;have QY:lF (ft.is++tl.is) m0.jD.length:=λi hi=>Z i (eP _ (aI _ hi));have g0:=yM (v:=v) (jF:=jF) (m:=m0) ab (by show(6:Int)<=21;omega) (by show(21:Int)≠36;omega);have hw:Hx.work v (stepOf ⟨21,[one,list]⟩) m0=m0.put one (v.all list):=by
  unfold Hx.work;rw[jg (by show¬(21:Int)=6;omega),jh (by rfl)]
  rfl
 rw[hw]at g0;have af:(m0.put one (v.all list)).get one=v.all list:=vW _ _ _ (by omega) t;have B:=ao3 (v:=v) (jF:=jF) (S:=S) (k:=k+1) (m:=m0.put one (v.all list)) hL (by omega)
  (λz m=>∃f,oU c0.free (-1) lp.length m0 m/\h f m/\z.foldl (λf i=>if l7 bs zs (lM c0 m0.get) v m0.get i then g f i else f) f=(rM v list).foldl (λf i=>if l7 bs zs (lM c0 m0.get) v m0.get i then g f i else f) acc0)
  (by exact F) ?hb ?hi
 .obtain⟨q,q1,f,q2,q3,q4⟩:=B;refine⟨q,?_,q2,by rw[eF]at q4;rw[<-q4];exact q3⟩;have ag:k+(yI list one ft tl).size=k+1+1+(ft.size+tl.size)+1:=by
   show k+(1+(1+(ft.size+tl.size)+1))=_;omega
  rw[ag];exact g0.trans q1
 case hb=>
  rintro i x z m i0 i1 ⟨f,s1,s2,U⟩;have hb:oU c0.free (-1) lp.length m0 ((m.put one i).lY (lp.length:Nat) x):=by
   refine s1.trans ⟨by simp[Mc.lY,Mc.put],by simp[Mc.lY,Mc.put],rfl,λj y Q _=>?_,λj hj=>Rq _ _ _ _ (by omega)⟩;exact CQ m j one i y (by omega) (by omega)
  have p:((m.put one i).lY (lp.length:Nat) x).get one=i:=vW _ _ _ (by omega) (by rw[s1.len];exact t);have M:((m.put one i).lY (lp.length:Nat) x).ni (lp.length:Nat)=x:=Rt _ _ _ (by show lp.length<m.left.length;rw[s1.vk];omega);have O:h f ((m.put one i).lY (lp.length:Nat) x):=Y f m _ (Ed _ _ _) (λj y Q=>CQ m j one i (by omega) (by omega) (by omega)) s2;generalize (m.put one i).lY (lp.length:Nat) x=I at hb p M O;have ai:=(Ie ht hb hf).jy hn;obtain⟨W,R,X⟩:=G v S jF (k+1+1) (k+1) _ lp list one one I hv ac hL (by omega) (by rw[hb.vk];exact F) (by rw[hb.len];exact QY.left) ai (by rw[p];unfold jK;omega);have D:l7 bs zs (lM c1 I.get) v I.get (I.get one)=l7 bs zs (lM c0 m0.get) v m0.get i:=by
   have he:lM c1 I.get=lM c0 I.get:=by unfold lM;rw[hn]
   rw[he,CP hf hb,p];exact WB ae _ v _ _ i λj y Q=>hb.jD j y (by omega) (by omega)
  have n:=hb.trans (R.less (by omega) (jf rfl) (by omega));have P:=Y f I W R.len (λj y Q=>R.jD j (by omega) (by omega) (by omega)) O;have L:=(R.left lp.length (by omega)).trans M;rw[D]at X;rw[bP]at U;split at X
  .rename_i E;rw[jh E]at U;have aa:=(R.jD one (by omega) h2 (by omega)).trans p;obtain⟨m2,y1,V,y3⟩:=H S (k+1+1+ft.size) (lp++[((k+1:Nat):Int)]) W f i ad (by rw[aA,eG];omega) (by rw[n.vk];exact F) (by rw[n.len];exact QY.right) (n.less (aV _) (jf rfl) (bD _)) aa i0 i1 P;have V:oU c0.free (-1) (lp.length+1) W m2:=by
    rw[aA,eG]at V;exact V
   refine⟨m2,?_,(V.left lp.length (by omega)).trans L,g f i,n.trans (V.less (aV _) (jf rfl) (by omega)),y3,U⟩;refine(X.trans y1).trans ?_;rw[fE (k+1+1)];exact acu hL su
  .rename_i E;rw[jg E]at U;exact⟨W,X,L,f,n,P,U⟩
 case hi=>
  intro x;refine⟨acc0,?_,?_,?_⟩
  .refine⟨by simp[Mc.lY,Mc.put],by simp[Mc.lY,Mc.put],rfl,λj y Q _=>CQ m0 j one _ y (by omega) (by omega),λj hj=>Rq _ _ _ _ (by omega)⟩
  .exact Y acc0 m0 _ (Ed _ _ _) (λj y Q=>CQ m0 j one _ (by omega) (by omega) (by omega)) K
  .rw[af]
   rfl
end
section
open Go.RowKit Hx
attribute [local go_sem ↓] Go.wp_at_zero Go.wp_at_succ
attribute [local go_sem] kN
section
variable {w w' w1 w2:jk}{C lo hi b S:Nat}{c:Co}{u:jm}{e l r:Ex}{a:Int}{T:jo}{x:Sx}
def ajj(x:Sx)(w:jk)(lo hi:Nat)(fv:jm):Prop:=
 (x.jE=[]/\fv=Nl)\/
 ∃g cap arr,fv=.slice (some (Ad g 0)) x.jE.length cap/\lo<=g/\g<hi/\w.heap[g]? =some (.cells arr 361)/\
  ∀(k:Nat)(b:Wd×Ex),x.jE[k]? =some b->∃u,arr[k * 3]? =some (.string b.1.text)/\arr[k * 3+1]? =some (Im b.1.at')/\arr[k * 3+2]? =some u/\b.2.here b.2.at' w lo hi u
def BH(x:Sx):Hx.tk:=λw lo hi v=>∃S fv,v=Pt S 0/\lo<=S/\S<hi/\w.heap[S]? =some (.cells #[Im x.at',Im x.jw,.string x.base,Im x.of,fv] 348)/\ajj x w lo hi fv
theorem Hz(h:∀b∈x.jE,∀a,Lawful (b.2.here a)):Lawful (BH x):=by
 constructor
 .rintro w w' lo hi v ⟨S,y,E,z,A,B,j⟩ D;refine⟨S,y,E,z,A,(D S z A).trans B,?_⟩;rcases j with j|⟨g,i,f,F,G,H,I,J⟩
  .exact jf j
  .refine je ⟨g,i,f,F,G,H,(D g G H).trans I,λk b n=>?_⟩;obtain⟨u,p,q,s,t⟩:=J k b n;exact⟨u,p,q,s,(h b (bT n) _).loc _ _ _ _ _ t D⟩
 .rintro w lo hi N K v ⟨S,y,E,z,A,B,j⟩ L M;refine⟨S,y,E,by omega,by omega,B,?_⟩;rcases j with j|⟨g,i,f,F,G,H,I,J⟩
  .exact jf j
  .refine je ⟨g,i,f,F,by omega,by omega,I,λk b n=>?_⟩;obtain⟨u,p,q,s,t⟩:=J k b n;exact⟨u,p,q,s,(h b (bT n) _).wide _ _ _ _ _ _ t L M⟩
theorem X4(h:∀b∈x.jE,∀a,Lawful (b.2.here a)){v:jm}(H:oZ x w lo hi v):BH x w lo hi v:=by
 obtain⟨S,A,I,D,E,F,n⟩:=H;refine⟨S,A,I,D,E,F,?_⟩;rcases n with n|⟨g,j,m,J,i,s,R,B,W,X,q,G,f⟩
 .exact jf n
 .refine je ⟨g,j,i,s,by omega,B,G,λk b p=>?_⟩;obtain⟨U,V,t,y,s,N,O,P,z,Q⟩:=U1 h q p;obtain⟨K,L,M⟩:=Qg _ J k _ t p y;exact⟨t,f _ _ K,f _ _ L,f _ _ M,(h b (bT p) _).wide _ _ _ _ _ _ z (by omega) (by omega)⟩
theorem aqK(h:wM x)(list:Int)(k:Nat):(Co.jE c.hold.2 (x.jE.take k) ((c.hold.1.lay 21 [c.hold.2,list]).lay 4 [list,c.hold.2,c.hold.2])).jy=c.jy/\((Co.jE c.hold.2 (x.jE.take k) ((c.hold.1.lay 21 [c.hold.2,list]).lay 4 [list,c.hold.2,c.hold.2])).code.length:Int)<=c.code.length+52+200 * ((x.jE.take k).map λb=>1+b.2.jw).sum:=by
 have g:=Qv c.hold.2 (x.jE.take k) ((c.hold.1.lay 21 [c.hold.2,list]).lay 4 [list,c.hold.2,c.hold.2]) (λb f=>h.all b (dS f)) (λb f=>h.each b (dS f));have i:=oN (c.hold.1.lay 21 [c.hold.2,list]) 4 [list,c.hold.2,c.hold.2];have j:=oN c.hold.1 21 [c.hold.2,list];have n:c.hold.1.code.length=c.code.length:=rfl;simp only[aF,bg]at i j;refine⟨g.1,?_⟩;have:=g.2;omega
theorem acU(h:wM x)(hh:BH x w lo hi u)(hC:hi<=C)(B:kG w C c)(L:Room c x.jw):
 Calls prog 350 #[Pt C 0,u] w λn w'=>n=.returned (Im (c.ku (jO x.base) x.jE).2)/\kG w' C (c.ku (jO x.base) x.jE).1/\Gk w w' C:=by
 obtain⟨S,fv,rfl,h1,h2,hS,p⟩:=hh;have HP:Hid (∀k,k<=x.jE.length->(Co.jE c.hold.2 (x.jE.take k) ((c.hold.1.lay 21 [c.hold.2,jO x.base]).lay 4 [jO x.base,c.hold.2,c.hold.2])).jy=c.jy/\((Co.jE c.hold.2 (x.jE.take k) ((c.hold.1.lay 21 [c.hold.2,jO x.base]).lay 4 [jO x.base,c.hold.2,c.hold.2])).code.length:Int)<=c.code.length+52+200 * ((x.jE.take k).map λb=>1+b.2.jw).sum):=λk _=>aqK h _ k;have JD:=jA (λy (q:Gk w y C)=>Vx ((q.keep S (by omega)).trans hS));have MP:Hid (∀y,Gk w y C->y.cell? (Ad S 4)=some fv):=λy q=>(q.cell (by omega)).trans (jG hS);have HH:=jA (NV B);have aq:c.hold.1.code.length<=800000000:=by have:=L.code;have:=h.sum;have:=Ju h.pos;have:c.hold.1.code.length=c.code.length:=rfl;omega
 have ao:(c.hold.1.lay 21 [c.hold.2,jO x.base]).code.length<=800000100:=by have:=oN c.hold.1 21 [c.hold.2,jO x.base];simp only[aF,bg]at this;omega
 obtain⟨fa,fc,ag⟩:∃fa fc,fv=.slice fa x.jE.length fc:=by
  rcases p with⟨hf,rfl⟩|⟨g,ae,ad,rfl,_⟩
  .exact⟨none,0,by rw[hf];rfl⟩
  .exact⟨_,_,rfl⟩
 subst ag;have ac:Hid (∀(k:Nat)(y:jk)(s:k<x.jE.length),Gk w y C->kG y C (Co.jE c.hold.2 (x.jE.take k) ((c.hold.1.lay 21 [c.hold.2,jO x.base]).lay 4 [jO x.base,c.hold.2,c.hold.2]))->
  ∃g D,fa=some (Ad g 0)/\y.cell? (Ad g (k * 3))=some (.string x.jE[k].1.text)/\y.cell? (Ad g (k * 3+1))=some (Im x.jE[k].1.at')/\y.cell? (Ad g (k * 3+2))=some D/\(∃T b,D=.iface T (Pt b 0))/\
   ∀o,Calls prog 352 #[Pt C 0,.agg #[.string x.jE[k].1.text,Im x.jE[k].1.at',D],Im c.hold.2] (y.alloc o) λn w'=>n=.returned (Im ((Co.jE c.hold.2 (x.jE.take k) ((c.hold.1.lay 21 [c.hold.2,jO x.base]).lay 4 [jO x.base,c.hold.2,c.hold.2])).inside x.jE[k].1.text x.jE[k].2.does c.hold.2).2)/\kG w' C ((Co.jE c.hold.2 (x.jE.take k) ((c.hold.1.lay 21 [c.hold.2,jO x.base]).lay 4 [jO x.base,c.hold.2,c.hold.2])).inside x.jE[k].1.text x.jE[k].2.does c.hold.2).1/\Gk w w' C):=by
  intro k y s q J;rcases p with⟨hf,_⟩|⟨g,ae,ad,e1,g1,g2,hg,I⟩
  .rw[hf]at s;simp at s
  cases e1;have j:x.jE[k]? =some x.jE[k]:=by simp
  have hQ:=h.all x.jE[k] (fG s);obtain⟨D,z0,z1,z2,e5⟩:=I k _ j;obtain⟨T1,b1,A,_⟩:=hQ.ok.head _ _ _ _ _ e5;refine⟨g,D,rfl,(q.cell (by omega)).trans ((jG hg).trans z0),(q.cell (by omega)).trans ((jG hg).trans z1),(q.cell (by omega)).trans ((jG hg).trans z2),⟨T1,b1,A⟩,λo=>?_⟩;have gy:=ah y o none;have ky:=q.trans (Gk.grown gy J.lt);obtain⟨V,W⟩:=HP.out k (by omega);have M:=Yp h.pos k _ j;have X:=h.sum;have Y:=h.max;have q6:=Ju (fs:=x.jE.take k) λc B=>h.pos c (dS B);have q7:=L.code;have q8:=L.jy;refine(acR hQ ((hQ.ok.law _).gk e5 ky (by omega)) (by omega) (J.grow gy) ⟨by omega,by omega,by rw[V];omega⟩ x.jE[k].1.text x.jE[k].1.at' c.hold.2).mono ?_;rintro n w' ⟨r1,r2,r3⟩;exact⟨r1,r2,ky.trans r3⟩
 have aa:Hid (∀(k:Nat)(s:k<x.jE.length),((Co.jE c.hold.2 (x.jE.take k) ((c.hold.1.lay 21 [c.hold.2,jO x.base]).lay 4 [jO x.base,c.hold.2,c.hold.2])).inside x.jE[k].1.text x.jE[k].2.does c.hold.2).1.code.length<=850000000):=λk s=>by
  have j:x.jE[k]? =some x.jE[k]:=by simp
  have hm:=fG s;have q0:=Wq (c:=Co.jE c.hold.2 (x.jE.take k) ((c.hold.1.lay 21 [c.hold.2,jO x.base]).lay 4 [jO x.base,c.hold.2,c.hold.2])) (h.all _ hm) x.jE[k].1.text c.hold.2 (h.each _ hm);obtain⟨_,W⟩:=HP.out k (by omega);have M:=Yp h.pos k _ j;have X:=h.sum;have Y:=h.max;have q6:=Ju (fs:=x.jE.take k) λc B=>h.pos c (dS B);have q7:=L.code;omega
 have ab:Hid (∀(k:Nat)(s:k<x.jE.length),Co.jE c.hold.2 (x.jE.take (k+1)) ((c.hold.1.lay 21 [c.hold.2,jO x.base]).lay 4 [jO x.base,c.hold.2,c.hold.2])=yB c.hold.2 (Co.jE c.hold.2 (x.jE.take k) ((c.hold.1.lay 21 [c.hold.2,jO x.base]).lay 4 [jO x.base,c.hold.2,c.hold.2])) x.jE[k]):=λk s=>alM _ _ _ _ _ (by simp);have HZ:Hid (∀y,kG y C (Co.jE c.hold.2 (x.jE.take x.jE.length) ((c.hold.1.lay 21 [c.hold.2,jO x.base]).lay 4 [jO x.base,c.hold.2,c.hold.2]))->kG y C (c.ku (jO x.base) x.jE).1):=λy q=>by
  rw[eU (aj _)]at q;exact q
 have an:=h.len;clear hS p B L HP h;show Calls prog 350 #[Pt C 0,Pt S 0] w λn w'=>n=.returned (Im c.hold.2)/\kG w' C (c.ku (jO x.base) x.jE).1/\Gk w w' C;generalize (c.ku (jO x.base) x.jE).1=R at *;generalize ai:c.hold=ho at *;clear ai;obtain⟨c0,f⟩:=ho;simp only at *;generalize al:jO x.base=Q at *;clear al;go_enter func350,ntmps350;go_wp2_with fail;refine HH.out.mono ?_;rintro n w1 ⟨rfl,p1,V⟩;have yh:=jA (Bf p1 21 f Q (by omega));have l9:=jA V;clear p1 V HH;go_wp2_with fail;refine(JD.out _ l9.out).mono ?_;rintro n aw ⟨rfl,rfl⟩;go_wp2_with fail;refine yh.out.mono ?_;rintro n w2 ⟨rfl,p2,W⟩;have P:=jA (l9.out.trans W);have F:=jA (QH p2 4 Q f f (by omega));clear p2 W yh l9;go_wp2_with fail;refine(JD.out _ P.out).mono ?_;rintro n ax ⟨rfl,rfl⟩;go_wp2_with fail;refine F.out.mono ?_;rintro n w3 ⟨rfl,p3,M⟩;have c4:=MP.out w3 (P.out.trans M);have qE:=jA (jd p3 (P.out.trans M));clear p3 M F P;generalize (c0.lay 21 [f,Q]).lay 4 [Q,f,f]=N at *;go_wp2_with fail;go_loopg [30] (x.jE.length+1) (λgg i wr=>Hid (∃k:Nat,k+gg=x.jE.length+1/\k<=x.jE.length/\i=Im k/\kG wr C (Co.jE f (x.jE.take k) N)/\Gk w wr C))
 case atStart=>exact⟨0,by omega,bD _,rfl,qE.out⟩
 case round=>
  obtain⟨k,au,av,rfl,H,O⟩:=hrel.out;clear hrel qE c4;by_cases z:k<x.jE.length
  .have d1:decide ((k:Int)<(x.jE.length:Int))=true:=by simp;omega
   have i0:(0:Int)<=(k:Int):=by omega
   have i1:(k:Int)<(x.jE.length:Int):=by omega
   obtain⟨g,D,af,k0,k1,k2,⟨T1,b1,A⟩,E⟩:=ac.out k wr z O H;subst af A;have ak:=aa.out k z;have G:=ab.out k z;unfold yB at G;obtain⟨va,na,t⟩:=H;have f2:=jJ 2 t.jM rfl;have Af:=t.lt;have nC:¬C=wr.heap.size:=by omega
   have G:=jA G;have E:=jA E;obtain⟨g',ar⟩:∃g',gk=g'+1:=⟨gk-1,by omega⟩;clear O t;generalize (Co.jE f (x.jE.take k) N).inside x.jE[k].1.text x.jE[k].2.does f=am at *;obtain⟨ic,is⟩:=am;simp only at ak G E;generalize (Co.jE f (x.jE.take k) N).free=fr at *;generalize x.jE[k].1.text=ft at *;generalize x.jE[k].1.at'=ap at *;go_wp2_with fail;refine(E.out _).mono ?_;rintro n w4 ⟨rfl,p4,X⟩;have HL:=jA (acT p4 5 is (by omega));have tN:=jA X;clear p4 X E;go_wp2_with fail;refine HL.out.mono ?_;rintro n w5 ⟨rfl,⟨v5,OV,U⟩,Y⟩;have d2:=jJ 2 U.jM rfl;have fz:=qV U.jM;have Z:Hid (kG (w5.setCell (Ad C 2) (Im fr)) C (Co.jE f (x.jE.take (k+1)) N)/\Gk w (w5.setCell (Ad C 2) (Im fr)) C):=by
    rw[G.out];exact⟨⟨v5,OV,U.kC fr⟩,(tN.out.trans Y).trans (Gk.free _ _ _)⟩
   clear U Y HL tN;go_wp2_with fail;go_roundg g'
   case measure=>omega
   case rel=>exact⟨k+1,by omega,by omega,by go_num,Z.out⟩
  .have d1:decide ((k:Int)<(x.jE.length:Int))=false:=by simp;omega
   have K:k=x.jE.length:=by omega
   have Z:Hid (kG wr C R/\Gk w wr C):=⟨HZ.out wr (by rw[K]at H;exact H),O⟩;clear H O K;go_wp2_with fail;go_ret;exact⟨rfl,Z.out⟩
end
section
variable {w w' w1 w2 w3 w4:jk}{C lo hi b d m k:Nat}{c:Ck}{u v:jm}{e l r:Ex}{a:Int}{T:jo}{o:Obj}{x:Sx}
theorem rF.ok(h:rF 100000 (mg d) x):pF x:=⟨h.jw,h.of,λb f=>(h.all b f).ok⟩
theorem rF.law(h:rF 100000 (mg d) x):Lawful (oZ x):=Pg λb f a=>(h.all b f).ok.law a
theorem ajQ(h:rF 100000 (mg d) x)(kind:Int)(f:ji):mg (d+1) (wP kind f x):=by
 refine⟨abe kind f h.ok,λc=>?_,?_⟩
 .show(oG x.of x.jE c).jy=c.jy;exact OC _ _ _ λb g=>(h.all b g).jy
 rintro a w lo hi T b C c ⟨G,L,F,D,E,⟨u,rfl,j⟩,g⟩ K s t;cases F;obtain⟨S,J,rfl,_⟩:=xu j;have H:=jJ 4 g rfl;have p:=jA (U7 h j (by omega) s t);have A:=jA g;refine⟨393,λw=>by kernel_rfl,λq w=>by kernel_rfl,?_⟩;clear j g s t h;go_enter func393,ntmps393;go_wp2_with fail;refine p.out.mono ?_;rintro I w1 ⟨rfl,y,z,n⟩;have B:Hid (og (wP kind f x) a w w1 lo hi (.iface 410 (Pt b 0)) b C c):=by
  have i:=(n.keep b (by omega) (je (aj _))).trans A.out;exact⟨⟨b,_,rfl,D,E,⟨_,rfl,y⟩,i⟩,jG i,z,n.wide (aj _) (by omega)⟩
 clear y z n p;go_wp2_with fail;go_end0;exact⟨rfl,B.out⟩
theorem apz(h:rF 100000 (mg d) x)(kind:Int)(f:ji)(t:Wd)(I:mg d e):mg (d+1) (qL kind f x (t,e)):=by
 obtain⟨E,D⟩:=t;have s:∀c,(oG x.of x.jE c).jy=c.jy:=λc=>OC _ _ _ λb G=>(h.all b G).jy;refine⟨aeT kind f h.ok (b:=(⟨E,D⟩,e)) I.ok,λc=>?_,?_⟩
 .show((oG x.of x.jE c).bracket E D e.does e.at' x.of (if f.data.toList==[97,110,121]then 2 else 1)).jy=c.jy;rw[abD _ _ _ _ _ _ _ I.jy,s]
 rintro a w lo hi T b C c ⟨b',us,hv,h1,h2,⟨m,u,v,rfl,J,q,X,y⟩,G⟩ hC hc W;cases hv;obtain⟨S,fv,rfl,s1,s2,O⟩:=xu X;obtain⟨Q,R,rfl,_⟩:=I.ok.head _ _ _ _ _ y;have c4:=jJ 4 G rfl;have HS:=jA (U7 h X (by omega) hc W);have HB:=jA G;have j:=jA (jd I (jd y (jd W (jd h.law s))));refine⟨396,λw=>by kernel_rfl,λaa w=>by kernel_rfl,?_⟩;clear X G hc W h y I O s;obtain⟨i,z⟩:∃i:Int,i=if f.data.toList==[97,110,121]then 2 else 1:=⟨_,rfl⟩;have PS:=jA z;have p:((f.toList==[97,110,121])=true/\i=2)\/((f.toList==[97,110,121])=false/\i=1):=by
  rw[aZ,z];cases (f.data.toList==[97,110,121])
  .exact je ⟨rfl,rfl⟩
  .exact jf ⟨rfl,rfl⟩
 clear z;go_enter func396,ntmps396;go_wp2_with fail;refine HS.out.mono ?_;rintro L w1 ⟨rfl,Z,M,N⟩;have g:=(N.keep b (by omega) (je q)).trans HB.out;have e3:=jJ 3 g rfl;have e4:=jJ 4 g rfl;have e5:=jJ 5 g rfl;have e6:=jJ 6 g rfl;have e7:=jJ 7 g rfl;obtain⟨S',DT,U,_,_,O⟩:=xu Z;cases U;have eS:=jJ 3 O rfl;have HK:=jA (jd Z (jd M N));have Ik:Hid (∀n,Calls prog 351 #[Pt C 0,.agg #[.string E,Im D,.iface Q (Pt R 0)],Im x.of,Im i] (w1.drewN n) λL w'=>L=.returned (.tuple #[])/\e.here e.at' w' m b (.iface Q (Pt R 0))/\kV w' C ((oG x.of x.jE c).bracket E D e.does e.at' x.of i)/\Lk w1 w' m b C):=λn=>by
  have Og:=Lk.grown (lu w1 n) M.lt;have V:=(j.out.1.ok.law _).lk ((j.out.1.ok.law _).lk j.out.2.1 N (by omega) (je (aj _))) Og (by omega) (je (bD _));refine(ab4 j.out.1 V (by omega) (M.grow (lu w1 n)) (by rw[j.out.2.2.2.2];exact j.out.2.2.1) E D x.of i).mono ?_;rintro L w' ⟨F,A,B,r4⟩;exact⟨F,A,B,(Og.all _ _).trans r4⟩
 have nZ:Hid (∀w2,e.here e.at' w2 m b (.iface Q (Pt R 0))->kV w2 C ((oG x.of x.jE c).bracket E D e.does e.at' x.of i)->Lk w1 w2 m b C->og (qL kind f x (⟨E,D⟩,e)) a w w2 lo hi (.iface 413 (Pt b 0)) b C c):=λw2 F A B=>by
  have kk:=(HK.out.2.2.wide (aj _) q).trans (B.wide J (aj _));have H:=(kk.keep b (by omega) (je (aj _))).trans HB.out;rw[PS.out]at A;exact⟨⟨b,_,rfl,h1,h2,⟨m,_,_,rfl,J,q,j.out.2.2.2.1.lk HK.out.1 B (by omega) (jf (aj _)),F⟩,H⟩,jG H,A,kk.wide (aj _) (by omega)⟩
 clear Z M N g O HS;rcases p with⟨t1,rfl⟩|⟨t1,rfl⟩;all_goals
  go_wp2_with fail;refine nO 13 (by kernel_rfl) (by kernel_rfl) ?_;simp only[aC,aO,aG,aQ];repeat (go_big_quiet_step (fail))
  refine bF ?_;intro _ Y;obtain⟨n3,K⟩:=Y;subst K;go_wp2_with fail;refine(Ik.out _).mono ?_;rintro L w2 ⟨rfl,F,A,B⟩;have P:=nZ.out w2 F A B;have P:=jA P;clear F A B;go_wp2_with fail;go_end0;exact⟨rfl,P.out⟩
theorem mg.up(h:mg d e):mg (d+1) e:=⟨h.ok,h.jy,λa w lo hi T b C c i f g j=>h.look a w lo hi T b C c i f g (by omega)⟩
theorem aoW(N:Nat)(j:N<=100000)(d:Nat):Dw N (mg d) (mg (d+1)) where
 jw:=λ_ h=>h.ok.jw
 number:=λa n=>ap2 _ a n
 lD:=λa b=>au2 _ a b
 none:=ae8 _
 register:=λa i=>ase _ a i
 use:=λa t=>avo _ a t
 widen:=λ_ a h=>(avA h a).up
 isNone:=λa _ h=>(anL h a).up
 minus:=λa f _ _ h=>afw h a 1 f
 not:=λa f _ _ h=>afw h a 2 f
 two:=λa f _ _ h k=>au9 h k a _ f
 property:=λa _ t h=>aro h a _ _ t
 RY:=λa _ _ h k=>aqi h k.up a
 Nu:=λk g _ h=>ajQ ⟨h.of,h.all,dH h.len j,h.jw,h.sum⟩ k g
 He:=λk g _ b h p=>apz ⟨h.of,h.all,dH h.len j,h.jw,h.sum⟩ k g b.1 p
theorem alJ(s:ji)(f:s.size<=4000)(d:Nat)(p:Ps):mg d (lG s d p).1:=
 Qr s mg (ae8 0) (λd=>aoW (s.size+1) (by omega) d) d p
end
section
variable {w w' w1 w2:jk}{C lo hi b S:Nat}{c:Co}{u:jm}{e l r:Ex}{a:Int}{T:jo}{x:Sx}
theorem acQ(h:wM x)(sD:Lawful (BH x))(J:BH x w lo hi u)(hC:hi<=C)(hc:kG w C c)(K:Room c x.jw)(W:(c.code.length:Int)+200 * x.jw<=799999900):
 Calls prog 347 #[Pt C 0,u] w λi w'=>i=.returned (Im (c.nk (jO x.base) x.jE).2)/\kG w' C (c.nk (jO x.base) x.jE).1/\Gk w w' C:=by
 obtain⟨S,P,rfl,h1,h2,I,j⟩:=J;have J:BH x w lo hi (Pt S 0):=⟨S,P,rfl,h1,h2,I,j⟩;have JD:=jA (λy (D:Gk w y C)=>Vx ((D.keep S (by omega)).trans I));have O:Hid (∀y,Gk w y C->y.cell? (Ad S 4)=some P):=λy D=>(D.cell (by omega)).trans (jG I);have G:=jA (NV hc);have af:=Ju h.pos;have ae:=h.sum;have ad:c.hold.1.code.length<=800000000:=by have:=K.code;have:c.hold.1.code.length=c.code.length:=rfl;omega
 obtain⟨fa,fc,R⟩:∃fa fc,P=.slice fa x.jE.length fc:=by
  rcases j with⟨A,rfl⟩|⟨g,ac,ab,rfl,_⟩
  .exact⟨none,0,by rw[A];rfl⟩
  .exact⟨_,_,rfl⟩
 subst R;have H:Hid (∀y,Gk w y C->kG y C (c.hold.1.lay 6 [c.hold.2,0])->Calls prog 350 #[Pt C 0,Pt S 0] y λi w'=>i=.returned (Im ((c.hold.1.lay 6 [c.hold.2,0]).ku (jO x.base) x.jE).2)/\kG w' C ((c.hold.1.lay 6 [c.hold.2,0]).ku (jO x.base) x.jE).1/\Gk y w' C):=λy D hg=>by
  have Q:=oN c.hold.1 6 [c.hold.2,0];have h5:c.hold.1.code.length=c.code.length:=rfl;simp only[aF,bg]at Q;exact acU h (sD.gk J D hC) hC hg ⟨K.jw,by omega,K.jy⟩
 have B:((c.hold.1.lay 6 [c.hold.2,0]).ku (jO x.base) x.jE).1.code.length<=800000000:=by
  have h1:=XA (c:=c.hold.1.lay 6 [c.hold.2,0]) h (jO x.base);have Q:=oN c.hold.1 6 [c.hold.2,0];have h5:c.hold.1.code.length=c.code.length:=rfl;simp only[aF,bg]at Q;omega
 have aa:=h.len;clear I j hc K h J W;unfold Co.nk;by_cases A:x.jE.length=0
 .rw[jh A];rw[A]at O;clear H B;simp only;generalize n:c.hold=U at *;clear n;obtain⟨Z,f⟩:=U;simp only at *;generalize jO x.base=X at *;go_enter func347,ntmps347;go_wp2_with fail;refine G.out.mono ?_;rintro i w1 ⟨rfl,E,p⟩;have c4:=O.out w1 p;have M:=jA (Bf E 21 f X (by omega));have q:=jA p;clear E p G;go_wp2_with fail;refine(JD.out _ q.out).mono ?_;rintro i ag ⟨rfl,rfl⟩;go_wp2_with fail;refine M.out.mono ?_;rintro i w2 ⟨rfl,F,s⟩;have N:=jA (jd F (q.out.trans s));clear F s;go_wp2_with fail;go_ret;exact⟨rfl,N.out⟩
 .rw[jg A];have hb:((x.jE.length:Int)==0)=false:=by rw[beq_eq_false_iff_ne];omega
  simp only;generalize n:c.hold=U at *;clear n;obtain⟨Z,f⟩:=U;simp only at *;generalize jO x.base=X at *;generalize V:(Z.lay 6 [f,0]).ku X x.jE=oo at *;clear V;obtain⟨oc,Y⟩:=oo;simp only at H B⊢;generalize x.jE.length=nf at *;go_enter func347,ntmps347;go_wp2_with fail;refine G.out.mono ?_;rintro i w1 ⟨rfl,E,p⟩;have c4:=O.out w1 p;have M:=jA (Bf E 6 f 0 (by omega));have q:=jA p;clear E p G;go_wp2_with fail;refine M.out.mono ?_;rintro i w2 ⟨rfl,F,s⟩;have z:=jA (H.out w2 (q.out.trans s) F);have lN:=jA (q.out.trans s);clear F s M q H;go_wp2_with fail;refine z.out.mono ?_;rintro i w3 ⟨rfl,p3,q3⟩;have t:=jA (Bf p3 22 f Y (by omega));have qE:=jA (lN.out.trans q3);clear p3 q3 z lN;go_wp2_with fail;refine t.out.mono ?_;rintro i w4 ⟨rfl,p4,q4⟩;have xB:=jA (GU p4 0 (by have:=oN oc 22 [f,Y];simp only[aF,bg]at this;omega));have tN:=jA (qE.out.trans q4);clear p4 q4 t qE;go_wp2_with fail;refine xB.out.mono ?_;rintro i w5 ⟨rfl,⟨v5,OV,L⟩,q5⟩;have d2:=jJ 2 L.jM rfl;have fz:=qV L.jM;have N:Hid (kG (w5.setCell (Ad C 2) (Im (wrap64 (f+1)))) C (((oc.lay 22 [f,Y]).lay 0 []).kC (wrap64 (f+1)))/\Gk w (w5.setCell (Ad C 2) (Im (wrap64 (f+1)))) C):=⟨⟨v5,OV,L.kC _⟩,(tN.out.trans q5).trans (Gk.free _ _ _)⟩;clear L q5 xB tN;go_wp2_with fail;go_ret;exact⟨rfl,N.out⟩
def DK(what base:ji)(fs:List (Wd×Ex))(c:Co)(into:Int):Co×Int:=
 ((((c.nk (jO base) fs).1.kC c.free).choose into).1.lay (if what.data.toList==[99,111,117,110,116]then 23 else 24) [(((c.nk (jO base) fs).1.kC c.free).choose into).2,(c.nk (jO base) fs).2],(((c.nk (jO base) fs).1.kC c.free).choose into).2)
theorem UH(i:∀b∈x.jE,kF b.2)(kind a0 k:Int)(g:ji)(L:0<=k/\k<=1000001)(q:k<=1000000->wM x/\1+x.jw<=k)(dn:Dn)(t:dn.give=DK g x.base x.jE):kF (vF 410 412 a0 k kind (oD (BH x)) (λus=>.string g::us) dn):=by
 have Q:=Hz λb n a=>(i b n).ok.law a;refine⟨KW (by simp[lQ]) (qW Q) L,λc f=>?_,λc f D=>?_,?_⟩
 .show(dn.give c f).1.jy=c.jy;rw[t];show((((c.nk (jO x.base) x.jE).1.kC c.free).choose f).1.lay _ _).jy=c.jy;rw[I8,JX,SS];unfold Co.nk;have K:∀(j:List (Wd×Ex))(c:Co)(h:Int),(∀b∈j,kF b.2)->(Co.jE h j c).jy=c.jy:=by
   intro j;induction j with
   |nil=>intro c h _;rfl
   |cons b j ih=>
    intro c h n;have e:Co.jE h (b::j) c=Co.jE h j (yB h c b):=rfl;rw[e,ih _ _ (λd t=>n d (aI _ t)),Vk h (n b (aW ..))]
  split
  .rfl
  .exact K _ _ _ i
 .show((dn.give c f).1.code.length:Int)<=c.code.length+200 * k+50;rw[t];show((((((c.nk (jO x.base) x.jE).1.kC c.free).choose f).1.lay (if g.data.toList==[99,111,117,110,116]then 23 else 24) [_,_]).code.length:Nat):Int)<=c.code.length+200 * k+50;obtain⟨z,Z⟩:=q D;have H:=oN ((((c.nk (jO x.base) x.jE).1.kC c.free).choose f).1) (if g.data.toList==[99,111,117,110,116]then 23 else 24) [(((c.nk (jO x.base) x.jE).1.kC c.free).choose f).2,(c.nk (jO x.base) x.jE).2];rw[DR,FK]at H;have h2:=Qu (c:=c) z (jO x.base);simp only[aF,bg]at H;omega
 rintro a w lo hi T b C c f ⟨b',us,hv,H,h2,⟨u,rfl,N⟩,n⟩ hC Y y;cases hv;obtain⟨z,Z⟩:=q y.jw;have y:Room c k:=y;obtain⟨S,fv,rfl,_⟩:=id N;have c3:=jJ 3 n rfl;have c4:=jJ 4 n rfl;refine⟨392,λw=>by kernel_rfl,λV w=>by kernel_rfl,?_⟩;have M:=y.code;have F:=jA (acQ z Q N (by omega) Y (y.less (by omega)) (by omega));have J:(c.nk (jO x.base) x.jE).1.code.length<=850000000:=by
  have:=Qu (c:=c) z (jO x.base);have:=z.max;omega
 have rU:=jA (n);obtain⟨v0,Lc,X⟩:=Y;have c2:=jJ 2 X.jM rfl;have I:b<C:=by omega
 clear N n X y z i M Q q Z;show Calls prog 392 #[Pt b 0,Pt C 0,Im f] w λG w'=>G=.returned (Im (dn.give c f).2)/\kG w' C (dn.give c f).1/\Gk w w' C;rw[t];clear t;show Calls prog 392 #[Pt b 0,Pt C 0,Im f] w λG w'=>G=.returned (Im (((c.nk (jO x.base) x.jE).1.kC c.free).choose f).2)/\kG w' C ((((c.nk (jO x.base) x.jE).1.kC c.free).choose f).1.lay (if g.data.toList==[99,111,117,110,116]then 23 else 24) [(((c.nk (jO x.base) x.jE).1.kC c.free).choose f).2,(c.nk (jO x.base) x.jE).2])/\Gk w w' C;generalize c.nk (jO x.base) x.jE=ff at *;obtain⟨W,j⟩:=ff;simp only at F J⊢;generalize aa:c.free=s at *;have A:((W.kC s).choose f).1.code.length<=900000000:=by rw[DR,FK];omega
 generalize D:(W.kC s).choose f=k at *;have MC:=jA D;clear D;obtain⟨k1,k2⟩:=k;simp only at A⊢;have p:((g.toList==[99,111,117,110,116])=true/\(if g.data.toList==[99,111,117,110,116]then (23:Int)else 24)=23)\/((g.toList==[99,111,117,110,116])=false/\(if g.data.toList==[99,111,117,110,116]then (23:Int)else 24)=24):=by
  rw[aZ];cases (g.data.toList==[99,111,117,110,116])
  .exact je ⟨rfl,rfl⟩
  .exact jf ⟨rfl,rfl⟩
 rcases p with⟨t1,R⟩|⟨t1,R⟩;all_goals
  rw[R];clear R;go_enter func392,ntmps392;go_wp2_with fail;refine F.out.mono ?_;rintro e1 w1 ⟨rfl,⟨v1,Am,E⟩,q1⟩;have d2:=jJ 2 E.jM rfl;have fz:=qV E.jM;have U:Hid (Calls prog 364 #[Pt C 0,Im f] (w1.setCell (Ad C 2) (Im s)) λe w'=>e=.returned (Im k2)/\kG w' C k1/\Gk (w1.setCell (Ad C 2) (Im s)) w' C):=by
   have:=NU ⟨v1,Am,E.kC s⟩ f;rw[MC.out]at this;exact this
  have O:Hid (Gk w (w1.setCell (Ad C 2) (Im s)) C):=q1.trans (Gk.free _ _ _);clear E q1 F;go_wp2_with fail;refine U.out.mono ?_;rintro e2 w2 ⟨rfl,p2,P⟩;have a3:=((O.out.trans P).cell I).trans c3;have B:=λo=>Bf p2 o k2 j A;have B:=jA (B);have lN:=jA (O.out.trans P);clear p2 P U O d2 fz;go_wp2_with fail;refine(B.out _).mono ?_;rintro e3 w3 ⟨rfl,p3,q3⟩;have HE:=jA (jd p3 (lN.out.trans q3));clear p3 q3 B;go_wp2_with fail;go_ret;exact⟨rfl,HE.out⟩
theorem abd{N:Nat}(j:N<=100000)(h:rF N kF x)(kind:Int)(f:ji):kF (wP kind f x):=by
 have i:∀b∈x.jE,∀a,Lawful (b.2.here a):=λb g a=>(h.all b g).ok.law a;have s:Lawful (oZ x):=Pg i;refine(UH h.all kind x.at' (jS [x.jw]) f (qx h.jw) (λp=>?_) (abb kind f x) rfl).of (wE (by simp[lQ]) (qW s) (qx h.jw)).base (λ_ _ _ _ _ n=>KZ (λ_ _ _ _ _ ⟨u,e,q⟩ g=>⟨u,e,(Hz i).wide _ _ _ _ _ _ (X4 i q) (aj _) g⟩) n) rfl rfl;have t:=yU h.jw.1 h.jw.2 p;exact⟨wM.of j h (by omega),by omega⟩
end
end
end Go.Proofs.YthllhabjfchgiaaGreatDoor
