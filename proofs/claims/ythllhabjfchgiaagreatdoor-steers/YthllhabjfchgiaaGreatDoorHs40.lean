import Derived.Test.YthllhabjfchgiaaGreatDoorHs39
set_option maxRecDepth 100000
set_option maxHeartbeats 8000000
set_option linter.unusedSimpArgs false
namespace Go.Proofs.YthllhabjfchgiaaGreatDoor
section
open Go.RowKit Hx
def pG(F:lV):lV:=λv p=>match F v p with
 | .inl r=>.inl r
 | .inr p'=>.inr {p' with env:=p'.env.take p.env.length}
def Mb(Q:Ck->Prop)(g:Co->Co)(z:Sz)(F:lV):Prop:=∀(ck:Ck)(c:Co),Fit ck c->Ctx c->Q ck->c.free+z.wide<=2008->
 ∃fr:Fr,g c=⟨c.code++jX fr.is,c.jy,c.free⟩/\Xt c z fr/\BK ck c ⟨c.code++jX fr.is,c.jy,c.free⟩ fr F
theorem abw{ck:Ck}{c g:Co}{fr:Fr}{F:lV}{more:List (ji×Int)}(h:BK ck c g fr F)(t:g.jy=c.jy++more){a:List Int}:BK ck c ⟨a,c.jy,c.free⟩ fr (pG F):=by
 intro v S x k y m p w o q f b j u;have d:=h v S x k y m p w o q f b j u;unfold pG;cases i:F v p with
 |inl r=>rw[i]at d;exact I7 d
 |inr p'=>
  rw[i]at d;obtain⟨z,l,e,n⟩:=d;refine⟨z,l,⟨?_,e.jF,e.jP⟩,n⟩;have s:p.env.length=c.jy.length:=by rw[<-j.env];simp[lM]
  rw[s,<-e.env];unfold lM;rw[t,dF,List.take_left' (by simp)]
theorem Qa{l:List jI}{zs:List (Sz×lV)}{t:Int}(h:qF l zs t):Mb (λa=>(oJ l a).en=0) (kW l) (kE zs) (pG (nU (zs.map (·.2))))/\Mb (λa=>(oJ l a).en=0) (kW (kS l)) (kE zs) (pG (nU (zs.map (·.2)))):=by
 have d:∀(g:List jI)(c:Co)(b:Fr)(more:List (ji×Int)),qX g c=⟨c.code++jX b.is,c.jy++more,c.free+more.length⟩->kW g c=⟨c.code++jX b.is,c.jy,c.free⟩:=λg c b more e=>by
  show((qX g c).cut c.jy.length).kC c.free=_;rw[e];simp[Co.cut,Co.kC]
 constructor
 .intro a c hf hx hk hw;obtain⟨b,more,f,i,j⟩:=agQ h a c hf hx hk hw;exact⟨b,d _ _ _ _ f,i,abw (more:=more) j (by rw[f])⟩
 .intro a c hf hx hk hw;obtain⟨b,more,f,i,j⟩:=X3 h a c hf hx hk hw;exact⟨b,d _ _ _ _ f,i,abw (more:=more) j (by rw[f])⟩
theorem WV{l:List jI}{zs:List (Sz×lV)}{t:Int}(h:qF l zs t){ck:Ck}(a:(qK l ck).en=0):qK l ck=ck/\(oJ l ck).en=0/\ck.en=0:=by
 have a:=a;obtain⟨c,b,d⟩:=G8 h ck a;refine⟨?_,a,c⟩;show(oJ l ck).cut ck.jy.length=ck;rw[d];simp[Ck.cut]
theorem qG.take{ck:Ck}{more:List Kn}{c:List (ji×Int)}{σ:Int->Int}(h:qG ⟨ck.jy++more,ck.en,ck.ea⟩ c σ):qG ck (c.take ck.jy.length) σ:=by
 refine⟨h.jF,?_,λj k n d b=>?_⟩
 .have b:=h.jy;have:=congrArg (List.take ck.jy.length) b;rw[<-List.map_take,<-List.map_take]at this;simpa using this
 .have a:=(List.getElem?_eq_some_iff.1 d).1;rw[iG a]at b;exact h.vals j k n (by show(ck.jy++more)[j]? =some k;rw[aT a];exact d) b
theorem UW{l:List jI}{zs:List (Sz×lV)}{t:Int}(h:qF l zs t){ck:Ck}{v:Vw}{p g:nP}(d:(oJ l ck).en=0)(e:oh ck p)(k:nM v)(a:pG (nU (zs.map (·.2))) v p=.inr g):oh ck g:=by
 unfold pG at a;cases b:nU (zs.map (·.2)) v p with
 |inl r=>rw[b]at a;cases a
 |inr p1=>
  rw[b]at a;cases a;have c:=agR h ck v p p1 d e k b;obtain⟨_,f,i⟩:=G8 h ck d;rw[i]at c;have j:p.env.length=ck.jy.length:=by have:=congrArg List.length e.jy;simp at this;omega
  rw[j];exact qG.take c
theorem UU{l:List jI}{zs:List (Sz×lV)}{t:Int}(h:qF l zs t)(a:(kS l).length=0){ck:Ck}{v:Vw}{p:nP}(b:(oJ l ck).en=0)(c:oh ck p)(d:nM v):pG (nU (zs.map (·.2))) v p=.inr p:=by
 unfold pG;rw[agP h (dW a) ck v p b c d];simp
theorem abx{l:List jI}{zs:List (Sz×lV)}{t:Int}(h:qF l zs t)(a:uM (kS l)=true){ck:Ck}{v:Vw}{p:nP}(b:(oJ l ck).en=0)(d:oh ck p)(e:nM v):∃r,pG (nU (zs.map (·.2))) v p=.inl r:=by
 obtain⟨r,c⟩:=X0 h a ck v p b d e;unfold pG;rw[c];exact⟨r,rfl⟩
def A8(f:Val)(Y N:lV):lV:=λv p=>if f p.env v p.jF=0 then N v p else Y v p
theorem adH{v:Vw}{S:List St}{jF:List Int}{k:Nat}{r:Int}{a:Nat}{m:Mc}(b:S[k]? =some (uh r a)):(m.get r=0->Reaches v S jF k m a m)/\(m.get r≠0->Reaches v S jF k m (k+1) m):=by
 constructor
 .intro h;refine Bg b ?_;unfold Hx.step;rw[jg (by show¬(2:Int)=1;omega),jh (by rfl),jh (by exact h)]
  rfl
 .intro h;refine Bg b ?_;unfold Hx.step;rw[jg (by show¬(2:Int)=1;omega),jh (by rfl),jg (by exact h)]
  rfl
theorem alj{v:Vw}{S:List St}{jF:List Int}{k:Nat}{a:Nat}{m:Mc}(b:S[k]? =some (Ae a)):Reaches v S jF k m a m:=by
 refine Bg b ?_;unfold Hx.step;rw[jg (by show¬(3:Int)=1;omega),jg (by show¬(3:Int)=2;omega),jh (by rfl)]
 rfl
theorem anl{a:Int}(b:0<=a/\a<2008):rE ⟨2,[a]⟩:=⟨⟨by show(0:Int)<=2;omega,by show(2:Int)<=36;omega⟩,a,[],rfl,rC b.1 b.2,rfl⟩
theorem alm(r:Int)(h:0<=r/\r<2008):((enc ⟨2,[r]⟩).length:Int)<=3:=by
 have:=xX r h.1 h.2;simp only[enc,aX,aF,c8,dJ];omega
def aiB(z zy zn:Sz):Sz:=⟨max (max z.wide (max zy.wide zn.wide)) 1,max z.deep (max zy.deep zn.deep),z.jC+zy.jC+zn.jC+2,z.jL+zy.jL+zn.jL+5⟩
theorem abY{P:Ck->Prop}{g:Co->Int->Co×Int}{gy gn:Co->Co}{z o s:Sz}{f:Val}{Y N:lV}(h:Mx P g z f)(hy:Mb P gy o Y)(hn:Mb P gn s N)(hz:0<=z.wide/\0<=o.jC/\0<=s.jC/\0<=s.jL/\0<=o.jL)(lk:Ck->Ck)(hl:∀y,(lk y).en=0->P y/\lk y=y)(I:Bool)(D:I=false->∀y v p,P y->oh y p->nM v->N v p=.inr p):
 Ms lk (λc=>(if I then gn ((gy (((g c (-1)).1.kC c.free).lay 2 [(g c (-1)).2])).lay 3 [])else gy (((g c (-1)).1.kC c.free).lay 2 [(g c (-1)).2])).lay 0 []) (aiB z o s) (A8 f Y N):=by
 intro y c E L hk hw;obtain⟨X,l2⟩:=hl y hk;have h8:=E.free;have hw:c.free+max (max z.wide (max o.wide s.wide)) 1<=2008:=hw;obtain⟨b,r,f',e,x,w⟩:=h.lay y c (-1) E X (by omega) (jf rfl);have x0:=x.r0;have x1:=x.r1;have x3:=x.r3;have xn:=x.jC;have xd:=x.deep;have xl:=x.jL;have F:=anl (a:=r) ⟨x0,by omega⟩;have ag:=alm r ⟨x0,by omega⟩;have e1:=Qp;have T:Ctx (⟨c.code++jX b.is++enc ⟨2,[r]⟩,c.jy,c.free⟩:Co):=⟨L.free,L.jD⟩;obtain⟨l,y1,H,y3⟩:=hy y ⟨c.code++jX b.is++enc ⟨2,[r]⟩,c.jy,c.free⟩ (E.more (aV _)) T X (by show c.free+o.wide<=2008;omega);have yn:=H.jC;have yd:=H.deep;have yl:=H.jL;have R:=H.low;simp only;rw[e,l2];simp only;have af:((⟨c.code++jX b.is,c.jy,f'⟩:Co).kC c.free).lay 2 [r]=⟨c.code++jX b.is++enc ⟨2,[r]⟩,c.jy,c.free⟩:=rfl;rw[af,y1];cases I with
 |false=>
  simp only[aH,cZ];have Z:(⟨c.code++jX b.is++enc ⟨2,[r]⟩++jX l.is,c.jy,c.free⟩:Co).lay 0 []=⟨c.code++jX (b.seq (Fr.ifs r l)).is,c.jy,c.free⟩:=by
   simp only[Co.lay,Fr.seq,Fr.ifs,nN,ny,mD,enc,aX,bY,bZ,dJ]
  rw[Z,zB];refine⟨b.seq (Fr.ifs r l),[],rfl,by simp,GH L rfl,GR E rfl,⟨Fr.uy x.ok (Fr.anm F H.ok),by show b.jC+(1+l.jC)<=z.jC+o.jC+s.jC+2;omega,by show max b.deep l.deep<=max z.deep (max o.deep s.deep);omega,?_,?_⟩,?_⟩
  .show((jX (b.is++(⟨2,[r]⟩::l.is++[⟨0,[]⟩]))).length:Int)<=z.jL+o.jL+s.jL+5;rw[nN,aA,bZ,ny,aA,nN,aA,ny,mD,aX];omega
  .refine(x.low.wide ?_).append ?_
   .show c.free+z.wide<=c.free+max (max z.wide (max o.wide s.wide)) 1;omega
   .intro i d;have d:=d;rcases List.mem_append.1 d with d|d
    .rcases dh.1 d with rfl|d
     .exact⟨λ_=>by show r+1<=c.free+max (max z.wide (max o.wide s.wide)) 1;omega,trivial⟩
     .exact Jb (R i d) (by show c.free+o.wide<=c.free+max (max z.wide (max o.wide s.wide)) 1;omega)
    .rw[cO.1 d]
     trivial
  .intro v S jF k lp m p hv hS V hll hlow hr ht;have V:lp.length+max b.deep l.deep<=8:=V;obtain⟨m1,g1,J,t⟩:=w v S jF k lp m hv hS.left (by omega) hll hlow.left (hr.ty E ht);have B:=hS.right (x.ok.size k lp);obtain⟨i1,i2⟩:=adH (v:=v) (jF:=jF) (m:=m1) B.head;have n:vN c m1 p:=⟨by rw[CP E t];exact hr.env,λj W j1=>by rw[t.jD j W (by omega) (by omega)];exact hr.jF j W j1,by rw[t.jP];exact hr.jP⟩;rw[hr.val h.pO]at J;have K:k+(b.seq (Fr.ifs r l)).size=k+b.size+1+l.size:=by
    show k+(b.size+(1+l.size))=_;omega
   rw[K,<-zB];refine xG.before ?_ g1 t.len t.vk t.left;unfold A8;by_cases u:f p.env v p.jF=0
   .rw[jh u,D rfl y v p X ht hv];exact⟨m1,i1 (by rw[J];exact u),⟨n.env,n.jF,n.jP⟩,rfl,rfl,λ_ _=>rfl⟩
   .rw[jg u];have VX:lF l.is m1.jD.length:=by
     rw[t.len];intro i d;exact hlow.right i (eP _ (aI _ d))
    have:=y3 v S jF (k+b.size+1) lp m1 p hv B.tail (by omega) (by rw[t.vk];exact hll) VX ⟨n.env,n.jF,n.jP⟩ ht;refine xG.before (m1:=m1) ?_ (i2 (by rw[J];exact u)) rfl rfl (λ_ _=>rfl);cases U:Y v p with
    |inl q=>rw[U]at this;exact I7 this
    |inr q=>
     rw[U]at this;obtain⟨G,O,C,Q⟩:=this;exact⟨G,O,⟨C.env,C.jF,C.jP⟩,Q⟩
 |true=>
  simp only[dM];have ab:(⟨c.code++jX b.is++enc ⟨2,[r]⟩++jX l.is,c.jy,c.free⟩:Co).lay 3 []=⟨c.code++jX b.is++enc ⟨2,[r]⟩++jX l.is++enc ⟨3,[]⟩,c.jy,c.free⟩:=rfl;rw[ab];obtain⟨A,n1,M,n3⟩:=hn y ⟨c.code++jX b.is++enc ⟨2,[r]⟩++jX l.is++enc ⟨3,[]⟩,c.jy,c.free⟩ (E.more (aV _)) ⟨L.free,L.jD⟩ X (by show c.free+s.wide<=2008;omega);have nn:=M.jC;have nd:=M.deep;have nl:=M.jL;have ac:=M.low;rw[n1];have Z:(⟨c.code++jX b.is++enc ⟨2,[r]⟩++jX l.is++enc ⟨3,[]⟩++jX A.is,c.jy,c.free⟩:Co).lay 0 []=⟨c.code++jX (b.seq (Fr.Fe r l A)).is,c.jy,c.free⟩:=by
   simp only[Co.lay,Fr.seq,Fr.Fe,nN,ny,mD,enc,aX,bY,bZ,dJ,dP]
  rw[Z,zB];have e3:((enc ⟨3,[]⟩).length:Int)=1:=rfl;have y0:=H.ok.jC;have n0:=M.ok.jC;refine⟨b.seq (Fr.Fe r l A),[],rfl,by simp,GH L rfl,GR E rfl,⟨Fr.uy x.ok (Fr.anj F H.ok M.ok),by show b.jC+(1+max A.jC (l.jC+1))<=z.jC+o.jC+s.jC+2;omega,by show max b.deep (max l.deep A.deep)<=max z.deep (max o.deep s.deep);omega,?_,?_⟩,?_⟩
  .show((jX (b.is++(⟨2,[r]⟩::l.is++(⟨3,[]⟩::A.is++[⟨0,[]⟩])))).length:Int)<=z.jL+o.jL+s.jL+5;have e4:jX (b.is++(⟨2,[r]⟩::l.is++(⟨3,[]⟩::A.is++[⟨0,[]⟩])))=jX b.is++(enc ⟨2,[r]⟩++(jX l.is++(enc ⟨3,[]⟩++(jX A.is++enc ⟨0,[]⟩)))):=by
    simp only[nN,bZ,ny,mD,aX]
   rw[e4];simp only[aA];omega
  .refine(x.low.wide ?_).append ?_
   .show c.free+z.wide<=c.free+max (max z.wide (max o.wide s.wide)) 1;omega
   .intro i d;have d:=d;rcases List.mem_append.1 d with d|d
    .rcases dh.1 d with rfl|d
     .exact⟨λ_=>by show r+1<=c.free+max (max z.wide (max o.wide s.wide)) 1;omega,trivial⟩
     .exact Jb (R i d) (by show c.free+o.wide<=c.free+max (max z.wide (max o.wide s.wide)) 1;omega)
    .rcases List.mem_append.1 d with d|d
     .rcases dh.1 d with rfl|d
      .trivial
      .exact Jb (ac i d) (by show c.free+s.wide<=c.free+max (max z.wide (max o.wide s.wide)) 1;omega)
     .rw[cO.1 d]
      trivial
  .intro v S jF k lp m p hv hS V hll hlow hr ht;have V:lp.length+max b.deep (max l.deep A.deep)<=8:=V;obtain⟨m1,g1,J,t⟩:=w v S jF k lp m hv hS.left (by omega) hll hlow.left (hr.ty E ht);have B:=hS.right (x.ok.size k lp);obtain⟨i1,i2⟩:=adH (v:=v) (jF:=jF) (m:=m1) B.head;have ae:=B.tail.left;have su:=B.tail.right (H.ok.size (k+b.size+1) lp);have ad:=su.tail;have D:=λG:Mc=>alj (v:=v) (jF:=jF) (S:=S) (m:=G) su.head;have n:vN c m1 p:=⟨by rw[CP E t];exact hr.env,λj W j1=>by rw[t.jD j W (by omega) (by omega)];exact hr.jF j W j1,by rw[t.jP];exact hr.jP⟩;rw[hr.val h.pO]at J;have K:k+(b.seq (Fr.Fe r l A)).size=k+b.size+1+l.size+1+A.size:=by
    show k+(b.size+(1+l.size+(1+A.size)))=_;omega
   rw[K,<-zB];refine xG.before ?_ g1 t.len t.vk t.left;unfold A8;by_cases u:f p.env v p.jF=0
   .rw[jh u];have aa:lF A.is m1.jD.length:=by
     rw[t.len];intro i d;exact hlow.right i (List.mem_append_right _ (eP _ (aI _ d)))
    have:=n3 v S jF (k+b.size+1+l.size+1) lp m1 p hv ad (by omega) (by rw[t.vk];exact hll) aa ⟨n.env,n.jF,n.jP⟩ ht;refine xG.before (m1:=m1) ?_ (i1 (by rw[J];exact u)) rfl rfl (λ_ _=>rfl);cases hN:N v p with
    |inl q=>rw[hN]at this;exact I7 this
    |inr q=>
     rw[hN]at this;obtain⟨G,O,C,Q⟩:=this;exact⟨G,O,⟨C.env,C.jF,C.jP⟩,Q⟩
   .rw[jg u];have VX:lF l.is m1.jD.length:=by
     rw[t.len];intro i d;exact hlow.right i (eP _ (aI _ d))
    have:=y3 v S jF (k+b.size+1) lp m1 p hv ae (by omega) (by rw[t.vk];exact hll) VX ⟨n.env,n.jF,n.jP⟩ ht;refine xG.before (m1:=m1) ?_ (i2 (by rw[J];exact u)) rfl rfl (λ_ _=>rfl);cases U:Y v p with
    |inl q=>rw[U]at this;exact I7 this
    |inr q=>
     rw[U]at this;obtain⟨G,O,C,Q,a4,a5⟩:=this;exact⟨G,O.trans (D G),⟨C.env,C.jF,C.jP⟩,Q,a4,a5⟩
theorem Mb.of{P Q:Ck->Prop}{g:Co->Co}{z:Sz}{F:lV}(h:Mb Q g z F)(e:∀a,P a->Q a):Mb P g z F:=λa c d f b=>h a c d f (e a b)
theorem Mb.ms{P:Ck->Prop}{g:Co->Co}{z z':Sz}{F G:lV}(h:Mb P g z G)(e:Ck->Ck)(A:∀a,(e a).en=0->P a/\e a=a)(q:z.wide<=z'.wide)(r:z.deep<=z'.deep)(s:z.jC<=z'.jC)(t:z.jL<=z'.jL)(x:∀a v p,P a->oh a p->nM v->F v p=G v p):Ms e g z' F:=by
 intro a c i n y K;obtain⟨f,D⟩:=A a y;obtain⟨o,H,I,J⟩:=h a c i n f (by omega);rw[H,D,zB];refine⟨o,[],rfl,by simp,GH n rfl,GR i rfl,I.grow q r s t,?_⟩;intro v S C k E m p l u w d b B j;rw[x a v p f j l,<-zB];exact J v S C k E m p l u w d b B j
theorem ab2{U W V:Int}{e:Ex}{y n:List jI}{i r:List (Sz×lV)}{f:Val}(he:QF U e f)(J:qF y i W)(H:qF n r V)(a:Int):QE (U+W+V+3) (qo a e y n) (A8 f (pG (nU (i.map (·.2)))) (pG (nU (r.map (·.2))))):=by
 obtain⟨z,R,G⟩:=he;have D:=Jd J;have C:=Jd H;have w1:=G.wide;have w2:=D.wide;have w3:=C.wide;have l1:=G.jL;have l2:=D.jL;have l3:=C.jL;have n1:=G.jC;have n2:=D.jC;have n3:=C.jC;have t1:=G.tok;have t2:=D.tok;have t3:=C.tok;have N:=G.jw;have c2:=rP (l:=y);obtain⟨ab,ac⟩:=Qa J;obtain⟨Z,aa⟩:=Qa H;generalize hP:(λb:Ck=>kX e b/\e.does.jZ b.jy=2/\(oJ y b).en=0/\(oJ n b).en=0)=P at *;have w:∀b,P b↔(kX e b/\e.does.jZ b.jy=2/\(oJ y b).en=0/\(oJ n b).en=0):=λb=>by rw[<-hP]
 have E:∀b,((qo a e y n).does.look b).en=0->P b/\(qo a e y n).does.look b=b:=λb d=>by
  have e0:(qo a e y n).does.look b=qK n (qK y ((e.does.look b).want (e.does.jZ b.jy) e.at' 2)):=rfl;rw[e0]at d;obtain⟨q1,q2,q3⟩:=WV H d;obtain⟨r1,r2,r3⟩:=WV J q3;obtain⟨s1,s2,s3⟩:=AO r3;have s4:=R.look b s3;rw[s2,s4]at r1 r2;rw[s2,s4,r1]at q1 q2;rw[e0,s2,s4,r1];exact⟨(w b).2 ⟨s3,s1,r2,q2⟩,q1⟩
 have hg:=R.give.of λb d=>((w b).1 d).1;have ad:=R.fold.of λb d=>((w b).1 d).1;have Y:Mb P (kW y) (kE i) (pG (nU (i.map (·.2)))):=ab.of λb d=>((w b).1 d).2.2.1;have L:Mb P (kW (kS y)) (kE i) (pG (nU (i.map (·.2)))):=ac.of λb d=>((w b).1 d).2.2.1;have X:=Z.of λb d=>((w b).1 d).2.2.2;have K:=aa.of λb d=>((w b).1 d).2.2.2;have hz:=jd w1.1 (jd n2 (jd n3 (jd l3.1 l2.1)));have t:=λb v p (d:P b)(j:oh b p)(k:nM v)(g:(kS n).length=0)=>UU H g ((w b).1 d).2.2.2 j k;have M:=λb v p (d:P b)(j:oh b p)(k:nM v)(g:(kS y).length=0)=>UU J g ((w b).1 d).2.2.1 j k;have F:(qo a e y n).does.fs=(Aa e y n).fs:=rfl;have u:=λ(q:e.does.fd.known=true) b v p (d:P b)(j:oh b p)(k:nM v)=>(WQ R q ((w b).1 d).1).2.1 p.env v p.jF j k;refine⟨aiB z (kE i) (kE r),⟨λb d=>KI (E b d).2 d,?_,λaf=>?_,λb v p p' d j k S=>?_,λA b d=>?_,λm b v p d j k=>?_⟩,?_⟩
 .have hm:=abY hg Y X hz _ E (decide (0<n.length)) (λhd b v p d j k=>t b v p d j k (by
   have:n=[]:=dW (by have:=of_decide_eq_false hd;omega);rw[this]
   rfl))
  have e1:(qo a e y n).does.lay=(λc=>(if decide (0<n.length)then kW n ((kW y (((e.does.give c (-1)).1.kC c.free).lay 2 [(e.does.give c (-1)).2])).lay 3 [])else kW y (((e.does.give c (-1)).1.kC c.free).lay 2 [(e.does.give c (-1)).2])).lay 0 []):=by
   funext c
   show(if 0<n.length then kW n ((kW y (((e.does.give c (-1)).1.kC c.free).lay 2 [(e.does.give c (-1)).2])).lay 3 [])else kW y (((e.does.give c (-1)).1.kC c.free).lay 2 [(e.does.give c (-1)).2])).lay 0 []=_;by_cases g:0<n.length
   .rw[jh g,jh (dR g)]
   .rw[jg g,jg (by simpa using g)]
  rw[e1];exact hm
 .rw[F];simp only[Aa];cases q:e.does.fd.known with
  |true=>
   simp only[dM];by_cases g:e.does.fd.val=0
   .simp only[g,dM];refine K.ms _ E (by show(kE r).wide<=max (max z.wide (max (kE i).wide (kE r).wide)) 1;omega) (by show(kE r).deep<=max z.deep (max (kE i).deep (kE r).deep);omega) (by show(kE r).jC<=z.jC+(kE i).jC+(kE r).jC+2;omega) (by show(kE r).jL<=z.jL+(kE i).jL+(kE r).jL+5;omega) λb v p d j k=>?_;unfold A8;rw[u q b v p d j k,jh g]
   .simp only[g,cZ];refine L.ms _ E (by show(kE i).wide<=max (max z.wide (max (kE i).wide (kE r).wide)) 1;omega) (by show(kE i).deep<=max z.deep (max (kE i).deep (kE r).deep);omega) (by show(kE i).jC<=z.jC+(kE i).jC+(kE r).jC+2;omega) (by show(kE i).jL<=z.jL+(kE i).jL+(kE r).jL+5;omega) λb v p d j k=>?_;unfold A8;rw[u q b v p d j k,jg g]
  |false=>
   simp only[aH,cZ];have hm:=abY ad L K hz _ E (decide (0<(kS n).length)) (λhd b v p d j k=>t b v p d j k (by have:=of_decide_eq_false hd;omega));have e1:(λc:Co=>(if 0<(kS n).length then kW (kS n) ((kW (kS y) (((e.does.fd.give c (-1)).1.kC c.free).lay 2 [(e.does.fd.give c (-1)).2])).lay 3 [])else kW (kS y) (((e.does.fd.give c (-1)).1.kC c.free).lay 2 [(e.does.fd.give c (-1)).2])).lay 0 [])=(λc=>(if decide (0<(kS n).length)then kW (kS n) ((kW (kS y) (((e.does.fd.give c (-1)).1.kC c.free).lay 2 [(e.does.fd.give c (-1)).2])).lay 3 [])else kW (kS y) (((e.does.fd.give c (-1)).1.kC c.free).lay 2 [(e.does.fd.give c (-1)).2])).lay 0 []):=by
    funext c
    by_cases g:0<(kS n).length
    .rw[jh g,jh (dR g)]
    .rw[jg g,jg (by simpa using g)]
   rw[e1];exact hm
 .obtain⟨o,B⟩:=E b d;rw[B];unfold A8 at S;split at S
  .exact UW H ((w b).1 o).2.2.2 j k S
  .exact UW J ((w b).1 o).2.2.1 j k S
 .obtain⟨o,B⟩:=E b d;refine⟨B,λv p j k=>?_⟩;rw[F]at A;simp only[Aa]at A;unfold A8;cases q:e.does.fd.known with
  |true=>
   rw[q]at A;simp only[dM]at A;rw[u q b v p o j k];by_cases g:e.does.fd.val=0
   .rw[jh g];simp only[g,dM,decide_eq_true_eq]at A;exact t b v p o j k A
   .rw[jg g];simp only[g,cZ,decide_eq_true_eq]at A;exact M b v p o j k A
  |false=>
   rw[q]at A;simp only[aH,cZ,dD,decide_eq_true_eq]at A;rw[t b v p o j k A.2,M b v p o j k A.1];split<;>rfl
 .obtain⟨o,B⟩:=E b d;rw[F]at m;simp only[Aa]at m;have hN:=λ(h:uM (kS n)=true)=>abx H h ((w b).1 o).2.2.2 j k;have hY:=λ(h:uM (kS y)=true)=>abx J h ((w b).1 o).2.2.1 j k;unfold A8;cases q:e.does.fd.known with
  |true=>
   rw[q]at m;simp only[dM]at m;rw[u q b v p o j k];by_cases g:e.does.fd.val=0
   .rw[jh g];simp only[g,dM]at m;exact hN m
   .rw[jg g];simp only[g,cZ]at m;exact hY m
  |false=>
   rw[q]at m;simp only[aH,cZ,dD]at m;split
   .exact hN m.2
   .exact hY m.1
 .have py:∀s∈y,1<=s.jw:=λs T=>(D.pos s T).1;have pn:∀s∈n,1<=s.jw:=λs T=>(C.pos s T).1;have sb:∀{l:List jI},(∀s∈l,1<=s.jw/\s.jw<=1000001)->0<=sumOf l/\sumOf l<=1000001:=λ{l} I=>by
   have:∀(l:List jI)(a:Int),(∀s∈l,1<=s.jw/\s.jw<=1000001)->0<=a/\a<=1000001->0<=l.foldl (λa e=>kZ [a,e.jw]) a/\l.foldl (λa e=>kZ [a,e.jw]) a<=1000001:=by
    intro l;induction l with
    |nil=>intro a _ h;exact h
    |cons s l ih=>
     intro a I h;have T:=I s (aW ..);exact ih _ (λx hx=>I x (aI _ hx)) (xZ _ (by simp;omega))
   exact this l 0 I (by omega)
  have Q:=sb D.pos;have O:=sb C.pos;refine⟨by omega,⟨by show 1<=max (max z.wide (max (kE i).wide (kE r).wide)) 1;omega,by show 2 * max (max z.wide (max (kE i).wide (kE r).wide)) 1<=U+W+V+3;omega⟩,⟨by show 0<=z.jL+(kE i).jL+(kE r).jL+5;omega,by show z.jL+(kE i).jL+(kE r).jL+5<=20 * (U+W+V+3);omega⟩,by show 0<=z.jC+(kE i).jC+(kE r).jC+2;omega,⟨yE (by simp;exact⟨N,Q,O⟩),(Jj N Q O).2⟩,λd=>?_⟩;have d:jS [e.jw,sumOf y,sumOf n]<=1000000:=d;have I:=XF N.1 N.2 Q.1 Q.2 O.1 O.2 d;have ey:=Ia py (by omega);have ae:=Ia pn (by omega);obtain⟨a1,a2⟩:=G.all (by omega);obtain⟨b1,b2⟩:=D.all (by omega);obtain⟨d1,d2⟩:=C.all (by omega);have c3:=D.jw;have c4:=C.jw;show z.jC+(kE i).jC+(kE r).jC+2<=40 * jS [e.jw,sumOf y,sumOf n]/\((8^max z.deep (max (kE i).deep (kE r).deep):Nat):Int)<=jS [e.jw,sumOf y,sumOf n]+1;rw[I];refine⟨by omega,?_⟩;rcases gX z.deep (max (kE i).deep (kE r).deep)with hh|hh
  .rw[gG hh];rcases gX (kE i).deep (kE r).deep with h'|h'
   .rw[gG h'];omega
   .rw[gV h'];omega
  .rw[gV hh];omega
theorem abZ{b d c:Int}{e:Ex}{y n:List jI}{o m:List (Sz×lV)}(i:QX b e)(k:qF y o d)(j:qF n m c)(a:Int):QS (b+d+c+3) (qo a e y n):=by
 obtain⟨z,f,g,h⟩:=i;obtain⟨l,q⟩:=ab2 ⟨z,g,h⟩ k j a;exact⟨l,_,q⟩
theorem abW{d h g:Int}{e:Ex}{f:Val}{y n:List jI}{c b:List lV}(k:QF d e f)(m:Gl y c h)(l:Gl n b g)(a:Int):QE (d+h+g+3) (qo a e y n) (A8 f (pG (nU c)) (pG (nU b))):=by
 obtain⟨p,i,rfl⟩:=m;obtain⟨o,j,rfl⟩:=l;exact ab2 k i j a
theorem au7{v:Vw}{S:List St}{jF:List Int}{k lC:Nat}{list a b:Int}{d:Nat}(c:List Int->Mc->Prop)(E:Out->Prop)
 (g:∀(i x:Int)(f:List Int)(m:Mc),0<=i->i<64->c (i::f) m->(∃h,Reaches v S jF (k+1) ((m.put a i).lY d x) (kR (mQ list a b d lC) k h).2.toNat (kR (mQ list a b d lC) k h).1/\h.ni d=x/\c f h)\/∃o,DJ v S jF (k+1) ((m.put a i).lY d x) o/\E o):
 ∀(n:Nat)(x:Int)(m:Mc),x.toNat<=n->0<=x->x<18446744073709551616->m.ni d=x->c (bitsOf x) m->(∃p,Reaches v S jF (kR (mQ list a b d lC) k m).2.toNat (kR (mQ list a b d lC) k m).1 lC p/\c [] p)\/∃o,DJ v S jF (kR (mQ list a b d lC) k m).2.toNat (kR (mQ list a b d lC) k m).1 o/\E o:=by
 intro n;induction n with
 |zero=>
  intro x m D y _ l j;have:x=0:=by omega
  subst this;have e:kR (mQ list a b d lC) k m=(m,(lC:Int)):=by unfold kR;rw[jh (by exact l)];rfl
  rw[e];exact jf ⟨m,Reaches.refl _ _ _ _ _,j⟩
 |succ n ih=>
  intro x m D y q l j;rcases Int.lt_or_eq_of_le y with r|G
  .have C:=ND r q;have z:=YD r q;rw[abt r q]at j;have e:kR (mQ list a b d lC) k m=((m.put a (tz x)).lY d (yx x),(k:Int)+1):=by
    have s:m.ni (mQ list a b d lC).depth=x:=l;unfold kR;rw[s,jg (by omega)]
    rfl
   rw[e];rw[show((k:Int)+1).toNat=k+1 by omega];rcases g (tz x) (yx x) _ m z.1 z.2 j with⟨h,w,A,B⟩|F
   .rcases ih (yx x) h (by omega) C.1 (by omega) A B with⟨p,t,u⟩|⟨o,t,u⟩
    .exact jf ⟨p,w.trans t,u⟩
    .exact je ⟨o,w.stops t,u⟩
   .exact je F
  .subst G;have e:kR (mQ list a b d lC) k m=(m,(lC:Int)):=by unfold kR;rw[jh (by exact l)];rfl
   rw[e];exact jf ⟨m,Reaches.refl _ _ _ _ _,j⟩
def xq(t:ji)(B:lV)(v:Vw):List Int->nP->Option nP⊕nP
 |[],p=>.inr p
 |i::is,p=>match B v {p with env:=p.env++[(t,i)]}with
  | .inl r=>.inl r
  | .inr p'=>xq t B v is {p' with env:=p'.env.take p.env.length}
def NI(list:Int)(fs:List (Wd×Ex))(zs:List (Sz×Val))(t:ji)(B:lV):lV:=λv p=>xq t B v (bitsOf (nY (bits .and .i64 (sU list fs zs p.env v p.jF) (v.all list)))) p
def EC(jF:List Int):Option nP->Out->Prop
 |none,o=>o=⟨1,jF,[]⟩
 |some p,o=>o.status=0/\(∀i:Nat,i<8->o.jF.getD i 0=p.jF i)/\o.jP=p.jP
theorem WR{b:Co}{d:Nat}{v:Vw}{S:List St}{jF:List Int}{k:Nat}{m:Mc}{lC:Nat}{r:Option nP}:xG b d v S jF k m lC (.inl r)↔∃o,DJ v S jF k m o/\EC jF r o:=by
 cases r with
 |none=>
  constructor
  .intro h;exact⟨_,h,rfl⟩
  .rintro⟨o,c,a⟩;have a:=a;subst a;exact c
 |some p=>exact Iff.rfl
theorem ali{ck:Ck}{c:Co}{t:ji}{kind list:Int}{B:lV}{fb:Fr}{y W:List Int}(hf:Fit ck c)(hk:kind≠2)(af:fb.Ok false)
 (hb:BK (ck.add t kind false) ⟨y,c.jy++[(t,c.free)],c.free+1⟩ ⟨W,c.jy++[(t,c.free)],c.free+1⟩ fb B)(ak:∀v p N,oh (ck.add t kind false) p->nM v->B v p=.inr N->oh (ck.add t kind false) N)
 {v:Vw}{S:List St}{jF:List Int}{k:Nat}{lp:List Int}{m:Mc}{p:nP}(hv:nM v)(hS:uG S k ((Fr.loop list c.free c.free fb).jB k lp))(hd:lp.length+(fb.deep+1)<=8)(ae:m.left.length=8)(z:lF (Fr.loop list c.free c.free fb).is m.jD.length)(P:vN c m p)(ht:oh ck p):
 xG c lp.length v S jF k m (k+(Fr.loop list c.free c.free fb).size) (xq t B v (bitsOf (nY (bits .and .i64 (m.get c.free) (v.all list)))) p):=by
 have h8:=hf.free;have hL:=hS.head;have aa:=hS.tail.left;have su:=(hS.tail.right (af.size _ _)).head;have QY:lF fb.is m.jD.length:=λi hi=>z i (eP _ (aI _ hi));have C:c.free<m.jD.length:=by
  have:=(z ⟨4,[list,c.free,c.free]⟩ (eP _ (aW ..))).2.1 rfl;omega
 have am:p.env.length=c.jy.length:=by rw[<-P.env];simp[lM]
 have al:=hf.lens;have X:∀(R:Option nP⊕nP)(i x:Int)(h:List Int)(f:Mc)(l:nP),0<=i->i<64->vN c f l->oh ck l->f.jD.length=m.jD.length->f.left.length=m.left.length->(∀j:Nat,j<lp.length->f.ni j=m.ni j)->xq t B v (i::h) l=R->
  (∃u,Reaches v S jF (k+1) ((f.put c.free i).lY (lp.length:Nat) x) (kR (mQ list c.free c.free lp.length ((k+1+fb.size+1:Nat):Int)) k u).2.toNat (kR (mQ list c.free c.free lp.length ((k+1+fb.size+1:Nat):Int)) k u).1/\u.ni (lp.length:Nat)=x/\∃A,vN c u A/\oh ck A/\u.jD.length=m.jD.length/\u.left.length=m.left.length/\(∀j:Nat,j<lp.length->u.ni j=m.ni j)/\xq t B v h A=R)\/∃o,DJ v S jF (k+1) ((f.put c.free i).lY (lp.length:Nat) x) o/\∃r,R=.inl r/\EC jF r o:=by
  intro R i x h f l i0 i1 s ai U V a3 hR;have ad:((f.put c.free i).lY (lp.length:Nat) x).get c.free=i:=vW _ _ _ (by omega) (by rw[U];exact C);have ac:((f.put c.free i).lY (lp.length:Nat) x).ni (lp.length:Nat)=x:=Rt _ _ _ (by show lp.length<f.left.length;rw[V];omega);have K:∀j,0<=j->j<c.free->((f.put c.free i).lY (lp.length:Nat) x).get j=f.get j:=λj Q j1=>CQ f j c.free i Q (by omega) (by omega);have ab:∀j:Nat,j<lp.length->((f.put c.free i).lY (lp.length:Nat) x).ni j=f.ni j:=λj O=>Rq _ _ _ _ (by omega);have G:((f.put c.free i).lY (lp.length:Nat) x).jD.length=f.jD.length:=Ed _ _ _;have H:((f.put c.free i).lY (lp.length:Nat) x).left.length=f.left.length:=agm _ _ _;have Y:((f.put c.free i).lY (lp.length:Nat) x).jP=f.jP:=rfl;generalize (f.put c.free i).lY (lp.length:Nat) x=T at *;have ag:vN ⟨y,c.jy++[(t,c.free)],c.free+1⟩ T {l with env:=l.env++[(t,i)]}:=by
   refine⟨?_,λj Q j1=>by rw[K j Q (by omega)];exact s.jF j Q j1,by rw[Y];exact s.jP⟩;rw[<-s.env];unfold lM;rw[dF];show c.jy.map (λn=>(n.1,T.get n.2))++[(t,T.get c.free)]=_;rw[ad]
   congr 1
   refine List.map_congr_left λn hn=>?_;have:=hf.jD n hn;rw[K n.2 this.1 this.2]
  have M:oh (ck.add t kind false) {l with env:=l.env++[(t,i)]}:=qG.know ai (by unfold jK;omega) λe=>jl e hk;have J:=hb v S jF (k+1) (lp++[(k:Int)]) T _ hv aa (by rw[aA,eG];omega) (by rw[H,V];exact ae) (by rw[G,U];exact QY) ag M;rw[aA,eG]at J;have w:(match B v {l with env:=l.env++[(t,i)]}with| .inl r=>.inl r| .inr N=>xq t B v h {N with env:=N.env.take l.env.length})=R:=hR;cases hB:B v {l with env:=l.env++[(t,i)]}with
  |inl r=>
   rw[hB]at J w;obtain⟨o,o1,o2⟩:=WR.1 J;exact je ⟨o,o1,r,w.symm,o2⟩
  |inr A=>
   rw[hB]at J w;obtain⟨u,g1,g2,g3,g4,g5⟩:=J;refine jf ⟨u,g1.trans (acu hL su),(g5 lp.length (by omega)).trans ac,{A with env:=A.env.take l.env.length},⟨?_,g2.jF,g2.jP⟩,?_,by rw[g3,G,U],by rw[g4,H,V],λj O=>(g5 j (by omega)).trans ((ab j O).trans (a3 j O)),w⟩
   .show lM c u.get=A.env.take l.env.length;have E:l.env.length=c.jy.length:=by rw[<-s.env];simp[lM]
    rw[E,<-g2.env];unfold lM;rw[dF,List.take_left' (by simp)]
   .have h2:=ak v _ A M hv hB;have E:l.env.length=ck.jy.length:=by rw[<-s.env];simp[lM];omega
    rw[E];exact qG.take h2
 have hu:=FT (bits .and .i64 (m.get c.free) (v.all list));generalize F:nY (bits .and .i64 (m.get c.free) (v.all list))=g at *;generalize Z:xq t B v (bitsOf g) p=R;have QM:rX v (mQ list c.free c.free lp.length ((k+1+fb.size+1:Nat):Int)) m=m.lY (lp.length:Nat) g:=by
  unfold rX;show m.lY (lp.length:Nat) (nY (bits .and .i64 (m.get c.free) (v.all list)))=_;rw[F]
 have D:=au7 (v:=v) (S:=S) (jF:=jF) (k:=k) (lC:=k+1+fb.size+1) (list:=list) (a:=c.free) (b:=c.free) (d:=lp.length) (λh f=>∃l,vN c f l/\oh ck l/\f.jD.length=m.jD.length/\f.left.length=m.left.length/\(∀j:Nat,j<lp.length->f.ni j=m.ni j)/\xq t B v h l=R) (λo=>∃r,R=.inl r/\EC jF r o)
  (λi x h f i0 i1 hI=>by
    obtain⟨l,b1,b2,b3,b4,b5,I⟩:=hI;exact X R i x h f l i0 i1 b1 b2 b3 b4 b5 I)
  g.toNat g (m.lY (lp.length:Nat) g) (aj _) hu.1 hu.2 (Rt _ _ _ (by omega)) ⟨p,⟨P.env,P.jF,P.jP⟩,ht,rfl,agm _ _ _,λj O=>Rq _ _ _ _ (by omega),Z⟩
 have L:0<=(kR (mQ list c.free c.free lp.length ((k+1+fb.size+1:Nat):Int)) k (m.lY (lp.length:Nat) g)).2:=by
  unfold kR;split
  .show(0:Int)<=((k+1+fb.size+1:Nat):Int);omega
  .show(0:Int)<=(k:Int)+1;omega
 have q:Reaches v S jF k m (kR (mQ list c.free c.free lp.length ((k+1+fb.size+1:Nat):Int)) k (m.lY (lp.length:Nat) g)).2.toNat (kR (mQ list c.free c.free lp.length ((k+1+fb.size+1:Nat):Int)) k (m.lY (lp.length:Nat) g)).1:=by
  refine Bg hL ?_;unfold Hx.step;rw[jg (by show¬(4:Int)=1;omega),jg (by show¬(4:Int)=2;omega),jg (by show¬(4:Int)=3;omega),jh (by rfl),QM];rw[iF L]
 have ah:k+(Fr.loop list c.free c.free fb).size=k+1+fb.size+1:=by
  show k+(1+fb.size+1)=_;omega
 rw[ah];rcases D with⟨m',q1,l,b1,b2,b3,b4,b5,I⟩|⟨o,q1,r,e1,e2⟩
 .have I:=I;rw[<-I];exact⟨m',q.trans q1,b1,b3,b4,b5⟩
 .rw[e1];exact WR.2 ⟨o,q.stops q1,e2⟩
theorem ak9{c:Co}(f:Ctx c)(b:List Int)(t:ji):Ctx ⟨b,c.jy++[(t,c.free)],c.free+1⟩:=by
 refine⟨?_,λj n a=>?_⟩
 .show c.free+1=8+((c.jy++[(t,c.free)]).length:Int);have:=f.free;simp;omega
 .have a:=a;rcases dG j c.jy.length with e|d
  .rw[aT e]at a;exact f.jD j n a
  .rw[bW d]at a;rcases gJ (j-c.jy.length)with g|g
   .rw[g]at a;simp only[dw,bJ]at a;subst a;have:=f.free;omega
   .rw[bV (by simp;omega)]at a;cases a
theorem agI{ck:Ck}{kind:Int}(h:kind≠2){t:ji}{B:lV}{v:Vw}(n:nM v)(c:∀p a,oh (ck.add t kind false) p->B v p=.inr a->oh (ck.add t kind false) a):∀(d:List Int)(p a:nP),(∀i∈d,0<=i/\i<64)->oh ck p->xq t B v d p=.inr a->oh ck a
 |[],p,a,_,ht,b=>by
  cases b;exact ht
 |i::d,p,a,hi,ht,b=>by
  have b:(match B v {p with env:=p.env++[(t,i)]}with| .inl r=>(Sum.inl r:Option nP⊕nP)| .inr a=>xq t B v d {a with env:=a.env.take p.env.length})=.inr a:=b;have o:=hi i (aW ..);have g:oh (ck.add t kind false) {p with env:=p.env++[(t,i)]}:=qG.know ht (by unfold jK;omega) λe=>jl e h;cases f:B v {p with env:=p.env++[(t,i)]}with
  |inl r=>rw[f]at b;cases b
  |inr p1=>
   rw[f]at b;refine agI h n c d _ a (λj l=>hi j (aI _ l)) ?_ b;have k:=c _ p1 g f;have m:p.env.length=ck.jy.length:=by have:=congrArg List.length ht.jy;simp at this;omega
   rw[m];exact qG.take k
theorem agH{ck:Ck}{kind:Int}(d:kind≠2){t:ji}{B:lV}{v:Vw}(a:∀p,oh (ck.add t kind false) p->B v p=.inr p):∀(b:List Int)(p:nP),(∀i∈b,0<=i/\i<64)->oh ck p->xq t B v b p=.inr p
 |[],_,_,_=>rfl
 |i::b,p,hi,ht=>by
  have g:=hi i (aW ..);have c:oh (ck.add t kind false) {p with env:=p.env++[(t,i)]}:=qG.know ht (by unfold jK;omega) λe=>jl e d;show(match B v {p with env:=p.env++[(t,i)]}with| .inl r=>(Sum.inl r:Option nP⊕nP)| .inr p'=>xq t B v b {p' with env:=p'.env.take p.env.length})=.inr p;rw[a _ c];simp only[iK];exact agH d a b p (λj f=>hi j (aI _ f)) ht
theorem aeN(v:Vw)(x list:Int):∀i∈bitsOf (nY (bits .and .i64 x (v.all list))),0<=i/\i<64:=by
 have a:=FT (bits .and .i64 x (v.all list));exact UR _ _ a.1 a.2
theorem aez{P:Ck->Prop}{kind W list:Int}{D:Nat}(T:kind≠2)(G:0<=list/\list<3){fs vV:List (Wd×Ex)}{zs zs0:List (Sz×Val)}{t:ji}{O:Co->Co}{d:Sz}{B:lV}(w:∀ck,P ck->zQ ck kind fs zs)(hz:∀p∈zs,p.1.wide<=W/\p.1.deep<=D)(L:0<=mZ zs)(hW:0<=W)(hb:Mb (λwQ=>∃ck,P ck/\wQ=ck.add t kind false) O d B)(aa:0<=d.wide)
 (o:∀ck E v σ,P ck->qG ck E σ->nM v->sU list fs zs E v σ=sU list vV zs0 E v σ)(K:∀ck v p z,P ck->oh (ck.add t kind false) p->nM v->B v p=.inr z->oh (ck.add t kind false) z)(M:Ck->Ck)(H:∀ck,(M ck).en=0->P ck/\M ck=ck):
 Ms M (λc=>(((O (((c.nk list fs).1.lay 4 [list,(c.nk list fs).2,(c.nk list fs).2]).know t (c.nk list fs).2)).lay 0 []).cut c.jy.length).kC c.free) ⟨max (2+W) (1+d.wide),max (if fs.length=0 then 0 else D+1) (d.deep+1),(if fs.length=0 then 1 else 3+Hx.kQ list * (lX zs+2))+(1+Hx.kQ list * (d.jC+1)),mZ zs+d.jL+27⟩ (NI list vV zs0 t B):=by
 intro ck c n X F V;obtain⟨u,l2⟩:=H ck F;have h8:=n.free;have V:c.free+max (2+W) (1+d.wide)<=2008:=V;obtain⟨f,q1,Z,q3,q4,q5,q6,q7⟩:=acF (ck:=ck) (kind:=kind) (W:=W) (D:=D) T G (w ck u) hz L hW c n (by omega);obtain⟨fb,b1,r,b3⟩:=hb (ck.add t kind false) ⟨c.code++jX f.is++enc ⟨4,[list,c.free,c.free]⟩,c.jy++[(t,c.free)],c.free+1⟩ (Fit.know (c:=⟨c.code++jX f.is++enc ⟨4,[list,c.free,c.free]⟩,c.jy,c.free+1⟩) (n.more (by omega)) (by omega) (by show c.free<c.free+1;omega)) (ak9 X _ t) ⟨ck,u,rfl⟩ (by show c.free+1+d.wide<=2008;omega);have bn:=r.jC;have bd:=r.deep;have bl:=r.jL;have s:=r.low;simp only;rw[q1,l2];simp only;have C:((⟨c.code++jX f.is,c.jy,c.free+1⟩:Co).lay 4 [list,c.free,c.free]).know t c.free=⟨c.code++jX f.is++enc ⟨4,[list,c.free,c.free]⟩,c.jy++[(t,c.free)],c.free+1⟩:=rfl;rw[C,b1];have NZ:(((⟨c.code++jX f.is++enc ⟨4,[list,c.free,c.free]⟩++jX fb.is,c.jy++[(t,c.free)],c.free+1⟩:Co).lay 0 []).cut c.jy.length).kC c.free=⟨c.code++jX (f.seq (Fr.loop list c.free c.free fb)).is,c.jy,c.free⟩:=by
  simp only[Co.lay,Co.cut,Co.kC,Fr.seq,Fr.loop,nN,ny,mD,enc,aX,bY,bZ,dJ,iK]
 rw[NZ,zB];have x:=aey (a:=c.free) (b:=c.free) (list:=list) (by omega) (by omega) (by omega) (by omega) G;have U:=acr list c.free c.free ⟨by omega,by omega⟩ ⟨by omega,by omega⟩ G;have e1:=Qp;refine⟨f.seq (Fr.loop list c.free c.free fb),[],rfl,by simp,GH X rfl,GR n rfl,⟨Fr.uy Z (Fr.aeA x r.ok.inside),?_,?_,?_,?_⟩,?_⟩
 .show f.jC+(1+Hx.kQ list * (fb.jC+1))<=(if fs.length=0 then 1 else 3+Hx.kQ list * (lX zs+2))+(1+Hx.kQ list * (d.jC+1));have:Hx.kQ list * (fb.jC+1)<=Hx.kQ list * (d.jC+1):=fB (by omega) (by have:=KF list;omega);omega
 .show max f.deep (fb.deep+1)<=max (if fs.length=0 then 0 else D+1) (d.deep+1);omega
 .show((jX (f.is++(⟨4,[list,c.free,c.free]⟩::fb.is++[⟨0,[]⟩]))).length:Int)<=mZ zs+d.jL+27;rw[nN,aA,bZ,ny,aA,nN,aA,ny,mD,aX];omega
 .refine(q6.wide ?_).append ?_
  .show c.free+(2+W)<=c.free+max (2+W) (1+d.wide);omega
  .intro i h;have h:=h;rcases List.mem_append.1 h with h|h
   .rcases dh.1 h with rfl|h
    .exact⟨(λe=>by cases e),λ_=>by show c.free+1<=c.free+max (2+W) (1+d.wide);omega,λ_=>by show c.free+1<=c.free+max (2+W) (1+d.wide);omega,trivial⟩
    .exact Jb (s i h) (by show c.free+1+d.wide<=c.free+max (2+W) (1+d.wide);omega)
   .rw[cO.1 h]
    trivial
 .intro v S jF k lp m p hv hS R hll hlow hr ht;have R:lp.length+max f.deep (fb.deep+1)<=8:=R;obtain⟨N,g1,g2,l⟩:=q7 v S jF k lp m hv hS.left (by omega) hll hlow.left (hr.ty n ht);have I:vN c N p:=⟨by rw[CP n l];exact hr.env,λj Y j1=>by rw[l.jD j Y (by omega) (by omega)];exact hr.jF j Y j1,by rw[l.jP];exact hr.jP⟩;have g:=ali (ck:=ck) (c:=c) (t:=t) (kind:=kind) (list:=list) (B:=B) (fb:=fb) n T r.ok b3 (λv p z h1 h2 h3=>K ck v p z u h1 h2 h3) (jF:=jF) hv (hS.right (Z.size k lp)) (by omega) (by rw[l.vk];exact hll) (by rw[l.len];exact hlow.right) I ht;have y:N.get c.free=sU list vV zs0 p.env v p.jF:=by
   rw[g2,hr.env,ag4 (w ck u).pO p.env v m.get p.jF hr.jF];exact o ck p.env v p.jF u ht hv
  rw[y]at g;have J:k+(f.seq (Fr.loop list c.free c.free fb)).size=k+f.size+(Fr.loop list c.free c.free fb).size:=by
   show k+(f.size+(Fr.loop list c.free c.free fb).size)=_;omega
  rw[J,<-zB];refine xG.before ?_ g1 l.len l.vk l.left;show xG _ _ v S jF _ N _ (xq t B v (bitsOf (nY (bits .and .i64 (sU list vV zs0 p.env v p.jF) (v.all list)))) p);cases Q:xq t B v (bitsOf (nY (bits .and .i64 (sU list vV zs0 p.env v p.jF) (v.all list)))) p with
  |inl q=>rw[Q]at g;exact I7 g
  |inr q=>
   rw[Q]at g;obtain⟨m2,a1,A,a3⟩:=g;exact⟨m2,a1,⟨A.env,A.jF,A.jP⟩,a3⟩
theorem aeC{X tl:Int}{x:Sx}{zs:List (Sz×Val)}{l:List jI}{g:List (Sz×lV)}(r:AU x X zs)(I:qF l g tl)(a:Int)(b:Wd):QE (X+tl+4) (qQ a b x l) (NI (jO x.base) x.jE zs b.text (pG (nU (g.map (·.2))))):=by
 obtain⟨tf,cs,w,h2,h3⟩:=r.ex;obtain⟨W,D,q⟩:=QB w;have n:x.of≠2:=by have:=r.of;omega
 have k:0<=jO x.base/\jO x.base<3:=by unfold jO;split<;>(try split)<;>omega
 have u:=Jd I;obtain⟨Z,aa⟩:=Qa I;generalize ab:(λf:Ck=>(∀C∈x.jE,kX C.2 (f.add C.1.text x.of false))/\(oJ l (f.add b.text x.of false)).en=0)=P at *;have B:∀f,P f↔((∀C∈x.jE,kX C.2 (f.add C.1.text x.of false))/\(oJ l (f.add b.text x.of false)).en=0):=λf=>by rw[<-ab]
 have m:∀f,((qQ a b x l).does.look f).en=0->P f/\(qQ a b x l).does.look f=f:=λf i=>by
  have e0:(qQ a b x l).does.look f=(qK l ((oG x.of x.jE (f.nD b.text b.at')).add b.text x.of false)).cut (oG x.of x.jE (f.nD b.text b.at')).jy.length:=rfl;rw[e0]at i;obtain⟨Q,R,S⟩:=WV I (show(qK l ((oG x.of x.jE (f.nD b.text b.at')).add b.text x.of false)).en=0 from i);obtain⟨V,s2⟩:=RG (QD w) (show(oG x.of x.jE (f.nD b.text b.at')).en=0 from S);have ag:(f.nD b.text b.at').en=0:=by
   have T:=S;rw[V]at T;exact T
  obtain⟨_,M,u3⟩:=Xj ag;rw[V,M]at Q R;rw[M]at V s2;rw[e0,M,V,Q];refine⟨(B f).2 ⟨λC hb=>(s2 C hb).1,R⟩,?_⟩;show(⟨(f.jy++[(⟨b.text,x.of,false⟩:Kn)]).take f.jy.length,f.en,f.ea⟩:Ck)=f;rw[iK]
 have B1:Mb (λN=>∃f,P f/\N=f.add b.text x.of false) (kW l) (kE g) (pG (nU (g.map (·.2)))):=Z.of λN ⟨f,i,e⟩=>by rw[e];exact((B f).1 i).2
 have B2:Mb (λN=>∃f,P f/\N=f.add b.text x.of false) (kW (kS l)) (kE g) (pG (nU (g.map (·.2)))):=aa.of λN ⟨f,i,e⟩=>by rw[e];exact((B f).1 i).2
 have H:=λf v p L (i:P f)(G:oh (f.add b.text x.of false) p)(A:nM v)(hF:pG (nU (g.map (·.2))) v p=.inr L)=>UW I ((B f).1 i).2 G A hF;obtain⟨l1,l2,l3,l4⟩:=Qy w;have qn:=q.jC;have ql:=q.jL;have qw:=q.wide;have qt:=q.TG;have qc:=q.Qo;have w2:=u.wide;have n2:=u.jC;have an:=u.jL;have t2:=u.tok;have ak:=KF (jO x.base);have J:∀a b:Int,a<=b->Hx.kQ (jO x.base) * a<=Hx.kQ (jO x.base) * b:=λa b ac=>fB ac (by omega);have o:∀a:Int,0<=a->0<=Hx.kQ (jO x.base) * a:=λa ha=>Int.mul_nonneg (by omega) ha;have m1:=aez (P:=P) (kind:=x.of) (W:=W) (list:=jO x.base) (D:=D) n k (fs:=x.jE) (vV:=x.jE) (zs:=zs) (zs0:=zs) (t:=b.text) (λf i=>QG w ((B f).1 i).1) q.each ql.1 qw.1 B1 w2.1 (λ_ _ _ _ _ _ _=>rfl) H (qQ a b x l).does.look m;have m2:=aez (P:=P) (kind:=x.of) (W:=W) (list:=jO x.base) (D:=D) n k (fs:=qU x.jE) (vV:=x.jE) (zs:=oL x.jE zs) (zs0:=zs) (t:=b.text) (λf i=>QC w ((B f).1 i).1) (λp z=>q.each p (II p z)) l3 qw.1 B2 w2.1 (λf en v σ i G A=>ag5 n G A w ((B f).1 i).1) H (qQ a b x l).does.look m;refine⟨⟨max (2+W) (1+(kE g).wide),max (if x.jE.length=0 then 0 else D+1) ((kE g).deep+1),(if x.jE.length=0 then 1 else 3+Hx.kQ (jO x.base) * (lX zs+2))+(1+Hx.kQ (jO x.base) * ((kE g).jC+1)),mZ zs+(kE g).jL+27⟩,⟨λf i=>KI (m f i).2 i,m1,λ_=>?_,λf v p L i G A hF=>?_,λhi f i=>?_,(λh=>by cases h)⟩,?_⟩
 .intro f c hf hcx i hw;have hw:=hw;obtain⟨fr,K,Q,R,S,T,r5,r6⟩:=m2 f c hf hcx i (by exact hw);refine⟨fr,K,Q,R,S,T,r5.grow (aV _) ?_ ?_ ?_,r6⟩
  .show max (if (qU x.jE).length=0 then 0 else D+1) ((kE g).deep+1)<=max (if x.jE.length=0 then 0 else D+1) ((kE g).deep+1);by_cases j:x.jE.length=0
   .rw[jh j,jh (Qx j)];exact aj _
   .rw[jg j];split<;>omega
  .show(if (qU x.jE).length=0 then 1 else 3+Hx.kQ (jO x.base) * (lX (oL x.jE zs)+2))+(1+Hx.kQ (jO x.base) * ((kE g).jC+1))<=(if x.jE.length=0 then 1 else 3+Hx.kQ (jO x.base) * (lX zs+2))+(1+Hx.kQ (jO x.base) * ((kE g).jC+1));by_cases j:x.jE.length=0
   .rw[jh j,jh (Qx j)];exact aV _
   .rw[jg j];have u1:=J (lX (oL x.jE zs)+2) (lX zs+2) (by omega);have M:=o (lX zs+2) (by omega);split<;>omega
  .show mZ (oL x.jE zs)+(kE g).jL+27<=mZ zs+(kE g).jL+27;omega
 .obtain⟨E,F⟩:=m f i;rw[F];exact agI n A (λp L w h2=>H f v p L E w A h2) _ p L (aeN _ _ _) G hF
 .obtain⟨E,F⟩:=m f i;refine⟨F,λv p G A=>?_⟩;have hi:=of_decide_eq_true hi;exact agH n (λp z=>UU I hi ((B f).1 E).2 z A) _ p (aeN _ _ _) G
 .have pl:∀s∈l,1<=s.jw:=λs hs=>(u.pos s hs).1;have cl:0<=sumOf l/\sumOf l<=1000001:=by
   have:∀(l:List jI)(a:Int),(∀s∈l,1<=s.jw/\s.jw<=1000001)->0<=a/\a<=1000001->0<=l.foldl (λa e=>kZ [a,e.jw]) a/\l.foldl (λa e=>kZ [a,e.jw]) a<=1000001:=by
    intro l;induction l with
    |nil=>intro a _ h;exact h
    |cons s l ih=>
     intro a z h;have hs:=z s (aW ..);exact ih _ (λx r=>z x (aI _ r)) (xZ _ (by simp;omega))
   exact this l 0 u.pos (by omega)
  have U:=tC (x:=x) cl;have Y:=r.jw;refine⟨by omega,⟨by show 1<=max (2+W) (1+(kE g).wide);omega,by show 2 * max (2+W) (1+(kE g).wide)<=X+tl+4;omega⟩,⟨by show 0<=mZ zs+(kE g).jL+27;omega,by show mZ zs+(kE g).jL+27<=20 * (X+tl+4);omega⟩,?_,⟨yE (by simp;exact⟨Y,U⟩),(rO Y U).2⟩,λi=>?_⟩
  .show 0<=(if x.jE.length=0 then 1 else 3+Hx.kQ (jO x.base) * (lX zs+2))+(1+Hx.kQ (jO x.base) * ((kE g).jC+1));have u1:=o (lX zs+2) (by omega);have M:=o ((kE g).jC+1) (by omega);split<;>omega
  .have i:jS [x.jw,x.round (sumOf l)]<=1000000:=i;have z:=Ap Y.1 Y.2 U.1 U.2 i;have y:=h3 (by omega);have h5:=SK (x:=x) (c:=sumOf l) (by omega);have ad:cs<=1000000:=by
    rcases r.of with e|e<;>rw[e]at y<;>simp at y<;>omega
   have af:sumOf l<=1000000:=by
    rcases r.of with e|e<;>rw[e]at h5<;>simp at h5<;>omega
   have el:=Ia pl af;obtain⟨a1,O⟩:=q.all ad;obtain⟨d1,d2⟩:=u.all (by omega);have c3:=u.jw;have ah:(0:Int)<=x.jE.length:=by omega
   have e8:∀d:Nat,((8^(d+1):Nat):Int)=8 * ((8^d:Nat):Int):=λd=>by rw[iV,iJ];omega
   show(if x.jE.length=0 then 1 else 3+Hx.kQ (jO x.base) * (lX zs+2))+(1+Hx.kQ (jO x.base) * ((kE g).jC+1))<=40 * jS [x.jw,x.round (sumOf l)]/\((8^max (if x.jE.length=0 then 0 else D+1) ((kE g).deep+1):Nat):Int)<=jS [x.jw,x.round (sumOf l)]+1;rw[z,h5,r.base];rw[el]at *;constructor
   .by_cases j:x.jE.length=0
    .rw[jh j];rcases r.of with e|e<;>rw[e]at y⊢<;>simp at y⊢<;>omega
    .rw[jg j];rcases r.of with e|e<;>rw[e]at y⊢<;>simp at y⊢<;>omega
   .have ai:((8^((kE g).deep+1):Nat):Int)<=8 * (lS l+1):=by rw[e8];omega
    have am:((8^(if x.jE.length=0 then 0 else D+1):Nat):Int)<=max 1 (8 * cs):=by
     by_cases j:x.jE.length=0
     .rw[jh j];omega
     .rw[jg j,e8];have ae:x.jE≠[]:=λe=>j (by rw[e];rfl);rcases O with O|O
      .exact jl O ae
      .omega
    have al:((8^max (if x.jE.length=0 then 0 else D+1) ((kE g).deep+1):Nat):Int)<=max (max 1 (8 * cs)) (8 * (lS l+1)):=by
     rcases gX (if x.jE.length=0 then 0 else D+1) ((kE g).deep+1)with hh|hh
     .rw[gG hh];omega
     .rw[gV hh];omega
    generalize ((8^max (if x.jE.length=0 then 0 else D+1) ((kE g).deep+1):Nat):Int)=PP at *;rcases r.of with e|e<;>rw[e]at y⊢<;>simp at y⊢<;>omega
theorem ao8{d tl:Int}{x:Sx}{l:List jI}{f:List (Sz×lV)}(c:AV x d)(e:qF l f tl)(a:Int)(b:Wd):QS (d+tl+4) (qQ a b x l):=by
 obtain⟨g,c⟩:=c.told;obtain⟨z,q⟩:=aeC c e a b;exact⟨z,_,q⟩
theorem aex{d tl:Int}{x:Sx}{zs:List (Sz×Val)}{l:List jI}{c:List lV}(g:AU x d zs)(f:Gl l c tl)(a:Int)(b:Wd):QE (d+tl+4) (qQ a b x l) (NI (jO x.base) x.jE zs b.text (pG (nU c))):=by
 obtain⟨h,e,rfl⟩:=f;exact aeC g e a b
end
end Go.Proofs.YthllhabjfchgiaaGreatDoor
