import Derived.Test.YthllhabjfchgiaaGreatDoorHk39
set_option maxRecDepth 100000
set_option maxHeartbeats 8000000
set_option linter.unusedSimpArgs false
namespace Go.Proofs.YthllhabjfchgiaaGreatDoor
section
open Go.RowKit Hx
def qh(F:lQ):lQ:=λv p=>match F v p with
 | .inl r=>.inl r
 | .inr p'=>.inr {p' with env:=p'.env.take p.env.length}
def Mb(Q:Ck->Prop)(g:Co->Co)(z:Sz)(F:lQ):Prop:=∀(ck:Ck)(c:Co),Fit ck c->Ctx c->Q ck->c.free+z.wide<=2008->
 ∃fr:Fr,g c=⟨c.code++jU fr.is,c.jy,c.free⟩/\Xt c z fr/\Bg ck c ⟨c.code++jU fr.is,c.jy,c.free⟩ fr F
theorem Z7{ck:Ck}{c c':Co}{fr:Fr}{F:lQ}{more:List (ji×Int)}(h:Bg ck c c' fr F)(hn:c'.jy=c.jy++more){code:List Int}:Bg ck c ⟨code,c.jy,c.free⟩ fr (qh F):=by
 intro v S jF k lp m p hv hS hd hll hlow hr ht;have h1:=h v S jF k lp m p hv hS hd hll hlow hr ht;unfold qh;cases hF:F v p with
 |inl r=>rw[hF]at h1;exact Hq h1
 |inr p'=>
  rw[hF]at h1;obtain⟨m',a1,a2,a3⟩:=h1;refine⟨m',a1,⟨?_,a2.jF,a2.jO⟩,a3⟩;have hl:p.env.length=c.jy.length:=by rw[<-hr.env];simp[lS]
  rw[hl,<-a2.env];unfold lS;rw[hn,dF,List.take_left' (by simp)]
theorem Ol{l:List jG}{zs:List (Sz×lQ)}{t:Int}(h:qB l zs t):Mb (λck=>(oh l ck).en=0) (kZ l) (ku zs) (qh (oL (zs.map (·.2))))/\Mb (λck=>(oh l ck).en=0) (kZ (kU l)) (ku zs) (qh (oL (zs.map (·.2)))):=by
 have key:∀(ll:List jG)(c:Co)(fr:Fr)(more:List (ji×Int)),qX ll c=⟨c.code++jU fr.is,c.jy++more,c.free+more.length⟩->kZ ll c=⟨c.code++jU fr.is,c.jy,c.free⟩:=λll c fr more e=>by
  show((qX ll c).cut c.jy.length).jX c.free=_;rw[e];simp[Co.cut,Co.jX]
 constructor
 .intro ck c hf hx hk hw;obtain⟨fr,more,q1,q2,q3⟩:=afE h ck c hf hx hk hw;exact⟨fr,key _ _ _ _ q1,q2,Z7 (more:=more) q3 (by rw[q1])⟩
 .intro ck c hf hx hk hw;obtain⟨fr,more,q1,q2,q3⟩:=WI h ck c hf hx hk hw;exact⟨fr,key _ _ _ _ q1,q2,Z7 (more:=more) q3 (by rw[q1])⟩
theorem U4{l:List jG}{zs:List (Sz×lQ)}{t:Int}(h:qB l zs t){ck:Ck}(hk:(qy l ck).en=0):qy l ck=ck/\(oh l ck).en=0/\ck.en=0:=by
 have hk:=hk;obtain⟨a1,more,a2⟩:=FV h ck hk;refine⟨?_,hk,a1⟩;show(oh l ck).cut ck.jy.length=ck;rw[a2];simp[Ck.cut]
theorem qC.take{ck:Ck}{more:List Kn}{en:List (ji×Int)}{σ:Int->Int}(h:qC ⟨ck.jy++more,ck.en,ck.ea⟩ en σ):qC ck (en.take ck.jy.length) σ:=by
 refine⟨h.jF,?_,λj k n hk hn=>?_⟩
 .have hn:=h.jy;have:=congrArg (List.take ck.jy.length) hn;rw[<-List.map_take,<-List.map_take]at this;simpa using this
 .have hlt:=(List.getElem?_eq_some_iff.1 hk).1;rw[iG hlt]at hn;exact h.vals j k n (by show(ck.jy++more)[j]? =some k;rw[aT hlt];exact hk) hn
theorem SS{l:List jG}{zs:List (Sz×lQ)}{t:Int}(h:qB l zs t){ck:Ck}{v:Vw}{p p':oH}(hk:(oh l ck).en=0)(ht:nV ck p)(hv:nM v)(hF:qh (oL (zs.map (·.2))) v p=.inr p'):nV ck p':=by
 unfold qh at hF;cases hq:oL (zs.map (·.2)) v p with
 |inl r=>rw[hq]at hF;cases hF
 |inr p1=>
  rw[hq]at hF;cases hF;have h1:=afF h ck v p p1 hk ht hv hq;obtain⟨_,more,a2⟩:=FV h ck hk;rw[a2]at h1;have hl:p.env.length=ck.jy.length:=by have:=congrArg List.length ht.jy;simp at this;omega
  rw[hl];exact qC.take h1
theorem SQ{l:List jG}{zs:List (Sz×lQ)}{t:Int}(h:qB l zs t)(he:(kU l).length=0){ck:Ck}{v:Vw}{p:oH}(hk:(oh l ck).en=0)(ht:nV ck p)(hv:nM v):qh (oL (zs.map (·.2))) v p=.inr p:=by
 unfold qh;rw[afD h (dW he) ck v p hk ht hv];simp
theorem Z8{l:List jG}{zs:List (Sz×lQ)}{t:Int}(h:qB l zs t)(he:uI (kU l)=true){ck:Ck}{v:Vw}{p:oH}(hk:(oh l ck).en=0)(ht:nV ck p)(hv:nM v):∃r,qh (oL (zs.map (·.2))) v p=.inl r:=by
 obtain⟨r,hr⟩:=WH h he ck v p hk ht hv;unfold qh;rw[hr];exact⟨r,rfl⟩
def zJ(f:Val)(Y N:lQ):lQ:=λv p=>if f p.env v p.jF=0 then N v p else Y v p
theorem ab9{v:Vw}{S:List St}{jF:List Int}{k:Nat}{r:Int}{to':Nat}{m:Mc}(hS:S[k]? =some (tZ r to')):(m.get r=0->Reaches v S jF k m to' m)/\(m.get r≠0->Reaches v S jF k m (k+1) m):=by
 constructor
 .intro h;refine Aw hS ?_;unfold Hx.step;rw[jg (by show¬(2:Int)=1;omega),jh (by rfl),jh (by exact h)]
  rfl
 .intro h;refine Aw hS ?_;unfold Hx.step;rw[jg (by show¬(2:Int)=1;omega),jh (by rfl),jg (by exact h)]
  rfl
theorem aj8{v:Vw}{S:List St}{jF:List Int}{k:Nat}{to':Nat}{m:Mc}(hS:S[k]? =some (zL to')):Reaches v S jF k m to' m:=by
 refine Aw hS ?_;unfold Hx.step;rw[jg (by show¬(3:Int)=1;omega),jg (by show¬(3:Int)=2;omega),jh (by rfl)]
 rfl
theorem alX{a:Int}(h0:0<=a/\a<2008):rC ⟨2,[a]⟩:=⟨⟨by show(0:Int)<=2;omega,by show(2:Int)<=36;omega⟩,a,[],rfl,rb h0.1 h0.2,rfl⟩
theorem akb(r:Int)(h:0<=r/\r<2008):((enc ⟨2,[r]⟩).length:Int)<=3:=by
 have:=xI r h.1 h.2;simp only[enc,aX,aF,c8,dJ];omega
def ahh(z zy zn:Sz):Sz:=⟨max (max z.wide (max zy.wide zn.wide)) 1,max z.deep (max zy.deep zn.deep),z.jC+zy.jC+zn.jC+2,z.jL+zy.jL+zn.jL+5⟩
theorem aaw{P:Ck->Prop}{g:Co->Int->Co×Int}{gy gn:Co->Co}{z zy zn:Sz}{f:Val}{Y N:lQ}(h:Mx P g z f)(hy:Mb P gy zy Y)(hn:Mb P gn zn N)(hz:0<=z.wide/\0<=zy.jC/\0<=zn.jC/\0<=zn.jL/\0<=zy.jL)(lk:Ck->Ck)(hl:∀ck,(lk ck).en=0->P ck/\lk ck=ck)(els:Bool)(hels:els=false->∀ck v p,P ck->nV ck p->nM v->N v p=.inr p):
 Ms lk (λc=>(if els then gn ((gy (((g c (-1)).1.jX c.free).lay 2 [(g c (-1)).2])).lay 3 [])else gy (((g c (-1)).1.jX c.free).lay 2 [(g c (-1)).2])).lay 0 []) (ahh z zy zn) (zJ f Y N):=by
 intro ck c hf hx hk hw;obtain⟨hP,l2⟩:=hl ck hk;have h8:=hf.free;have hw:c.free+max (max z.wide (max zy.wide zn.wide)) 1<=2008:=hw;obtain⟨fr,r,f',e,x,w⟩:=h.lay ck c (-1) hf hP (by omega) (jf rfl);have x0:=x.r0;have x1:=x.r1;have x3:=x.r3;have xn:=x.jC;have xd:=x.deep;have xl:=x.jL;have hins:=alX (a:=r) ⟨x0,by omega⟩;have hl3:=akb r ⟨x0,by omega⟩;have e1:=OH;have ctx1:Ctx (⟨c.code++jU fr.is++enc ⟨2,[r]⟩,c.jy,c.free⟩:Co):=⟨hx.free,hx.jD⟩;obtain⟨fy,y1,y2,y3⟩:=hy ck ⟨c.code++jU fr.is++enc ⟨2,[r]⟩,c.jy,c.free⟩ (hf.more (aV _)) ctx1 hP (by show c.free+zy.wide<=2008;omega);have yn:=y2.jC;have yd:=y2.deep;have yl:=y2.jL;have ahg:=y2.low;simp only;rw[e,l2];simp only;have hco:((⟨c.code++jU fr.is,c.jy,f'⟩:Co).jX c.free).lay 2 [r]=⟨c.code++jU fr.is++enc ⟨2,[r]⟩,c.jy,c.free⟩:=rfl;rw[hco,y1];cases els with
 |false=>
  simp only[aH,cZ];have LZ:(⟨c.code++jU fr.is++enc ⟨2,[r]⟩++jU fy.is,c.jy,c.free⟩:Co).lay 0 []=⟨c.code++jU (fr.seq (Fr.ifs r fy)).is,c.jy,c.free⟩:=by
   simp only[Co.lay,Fr.seq,Fr.ifs,nN,ny,mF,enc,aX,bY,bZ,dJ]
  rw[LZ,yV];refine⟨fr.seq (Fr.ifs r fy),[],rfl,by simp,Fz hx rfl,FK hf rfl,⟨Fr.uq x.ok (Fr.alY hins y2.ok),by show fr.jC+(1+fy.jC)<=z.jC+zy.jC+zn.jC+2;omega,by show max fr.deep fy.deep<=max z.deep (max zy.deep zn.deep);omega,?_,?_⟩,?_⟩
  .show((jU (fr.is++(⟨2,[r]⟩::fy.is++[⟨0,[]⟩]))).length:Int)<=z.jL+zy.jL+zn.jL+5;rw[nN,aA,bZ,ny,aA,nN,aA,ny,mF,aX];omega
  .refine(x.low.wide ?_).append ?_
   .show c.free+z.wide<=c.free+max (max z.wide (max zy.wide zn.wide)) 1;omega
   .intro i hi;have hi:=hi;rcases List.mem_append.1 hi with hi|hi
    .rcases dh.1 hi with rfl|hi
     .exact⟨λ_=>by show r+1<=c.free+max (max z.wide (max zy.wide zn.wide)) 1;omega,trivial⟩
     .exact Hz (ahg i hi) (by show c.free+zy.wide<=c.free+max (max z.wide (max zy.wide zn.wide)) 1;omega)
    .rw[cO.1 hi]
     trivial
  .intro v S jF k lp m p hv hS hd hll hlow hr ht;have hd:lp.length+max fr.deep fy.deep<=8:=hd;obtain⟨m1,g1,g2,g3⟩:=w v S jF k lp m hv hS.left (by omega) hll hlow.left (hr.ty hf ht);have hS2:=hS.right (x.ok.size k lp);obtain⟨i1,i2⟩:=ab9 (v:=v) (jF:=jF) (m:=m1) hS2.head;have hr1:vI c m1 p:=⟨by rw[BP hf g3];exact hr.env,λj j0 j1=>by rw[g3.jD j j0 (by omega) (by omega)];exact hr.jF j j0 j1,by rw[g3.jO];exact hr.jO⟩;rw[hr.val h.pJ]at g2;have hsz:k+(fr.seq (Fr.ifs r fy)).size=k+fr.size+1+fy.size:=by
    show k+(fr.size+(1+fy.size))=_;omega
   rw[hsz,<-yV];refine wY.before ?_ g1 g3.len g3.uV g3.left;unfold zJ;by_cases hz0:f p.env v p.jF=0
   .rw[jh hz0,hels rfl ck v p hP ht hv];exact⟨m1,i1 (by rw[g2];exact hz0),⟨hr1.env,hr1.jF,hr1.jO⟩,rfl,rfl,λ_ _=>rfl⟩
   .rw[jg hz0];have Uk:lG fy.is m1.jD.length:=by
     rw[g3.len];intro i hi;exact hlow.right i (eP _ (aI _ hi))
    have:=y3 v S jF (k+fr.size+1) lp m1 p hv hS2.tail (by omega) (by rw[g3.uV];exact hll) Uk ⟨hr1.env,hr1.jF,hr1.jO⟩ ht;refine wY.before (m1:=m1) ?_ (i2 (by rw[g2];exact hz0)) rfl rfl (λ_ _=>rfl);cases hY:Y v p with
    |inl q=>rw[hY]at this;exact Hq this
    |inr q=>
     rw[hY]at this;obtain⟨m2,a1,a2,a3⟩:=this;exact⟨m2,a1,⟨a2.env,a2.jF,a2.jO⟩,a3⟩
 |true=>
  simp only[dM];have ak1:(⟨c.code++jU fr.is++enc ⟨2,[r]⟩++jU fy.is,c.jy,c.free⟩:Co).lay 3 []=⟨c.code++jU fr.is++enc ⟨2,[r]⟩++jU fy.is++enc ⟨3,[]⟩,c.jy,c.free⟩:=rfl;rw[ak1];obtain⟨fn,n1,n2,n3⟩:=hn ck ⟨c.code++jU fr.is++enc ⟨2,[r]⟩++jU fy.is++enc ⟨3,[]⟩,c.jy,c.free⟩ (hf.more (aV _)) ⟨hx.free,hx.jD⟩ hP (by show c.free+zn.wide<=2008;omega);have nn:=n2.jC;have nd:=n2.deep;have nl:=n2.jL;have aor:=n2.low;rw[n1];have LZ:(⟨c.code++jU fr.is++enc ⟨2,[r]⟩++jU fy.is++enc ⟨3,[]⟩++jU fn.is,c.jy,c.free⟩:Co).lay 0 []=⟨c.code++jU (fr.seq (Fr.Es r fy fn)).is,c.jy,c.free⟩:=by
   simp only[Co.lay,Fr.seq,Fr.Es,nN,ny,mF,enc,aX,bY,bZ,dJ,dP]
  rw[LZ,yV];have e3:((enc ⟨3,[]⟩).length:Int)=1:=rfl;have y0:=y2.ok.jC;have n0:=n2.ok.jC;refine⟨fr.seq (Fr.Es r fy fn),[],rfl,by simp,Fz hx rfl,FK hf rfl,⟨Fr.uq x.ok (Fr.alV hins y2.ok n2.ok),by show fr.jC+(1+max fn.jC (fy.jC+1))<=z.jC+zy.jC+zn.jC+2;omega,by show max fr.deep (max fy.deep fn.deep)<=max z.deep (max zy.deep zn.deep);omega,?_,?_⟩,?_⟩
  .show((jU (fr.is++(⟨2,[r]⟩::fy.is++(⟨3,[]⟩::fn.is++[⟨0,[]⟩])))).length:Int)<=z.jL+zy.jL+zn.jL+5;have e4:jU (fr.is++(⟨2,[r]⟩::fy.is++(⟨3,[]⟩::fn.is++[⟨0,[]⟩])))=jU fr.is++(enc ⟨2,[r]⟩++(jU fy.is++(enc ⟨3,[]⟩++(jU fn.is++enc ⟨0,[]⟩)))):=by
    simp only[nN,bZ,ny,mF,aX]
   rw[e4];simp only[aA];omega
  .refine(x.low.wide ?_).append ?_
   .show c.free+z.wide<=c.free+max (max z.wide (max zy.wide zn.wide)) 1;omega
   .intro i hi;have hi:=hi;rcases List.mem_append.1 hi with hi|hi
    .rcases dh.1 hi with rfl|hi
     .exact⟨λ_=>by show r+1<=c.free+max (max z.wide (max zy.wide zn.wide)) 1;omega,trivial⟩
     .exact Hz (ahg i hi) (by show c.free+zy.wide<=c.free+max (max z.wide (max zy.wide zn.wide)) 1;omega)
    .rcases List.mem_append.1 hi with hi|hi
     .rcases dh.1 hi with rfl|hi
      .trivial
      .exact Hz (aor i hi) (by show c.free+zn.wide<=c.free+max (max z.wide (max zy.wide zn.wide)) 1;omega)
     .rw[cO.1 hi]
      trivial
  .intro v S jF k lp m p hv hS hd hll hlow hr ht;have hd:lp.length+max fr.deep (max fy.deep fn.deep)<=8:=hd;obtain⟨m1,g1,g2,g3⟩:=w v S jF k lp m hv hS.left (by omega) hll hlow.left (hr.ty hf ht);have hS2:=hS.right (x.ok.size k lp);obtain⟨i1,i2⟩:=ab9 (v:=v) (jF:=jF) (m:=m1) hS2.head;have hSy:=hS2.tail.left;have rV:=hS2.tail.right (y2.ok.size (k+fr.size+1) lp);have hSn:=rV.tail;have hels:=λm2:Mc=>aj8 (v:=v) (jF:=jF) (S:=S) (m:=m2) rV.head;have hr1:vI c m1 p:=⟨by rw[BP hf g3];exact hr.env,λj j0 j1=>by rw[g3.jD j j0 (by omega) (by omega)];exact hr.jF j j0 j1,by rw[g3.jO];exact hr.jO⟩;rw[hr.val h.pJ]at g2;have hsz:k+(fr.seq (Fr.Es r fy fn)).size=k+fr.size+1+fy.size+1+fn.size:=by
    show k+(fr.size+(1+fy.size+(1+fn.size)))=_;omega
   rw[hsz,<-yV];refine wY.before ?_ g1 g3.len g3.uV g3.left;unfold zJ;by_cases hz0:f p.env v p.jF=0
   .rw[jh hz0];have alq:lG fn.is m1.jD.length:=by
     rw[g3.len];intro i hi;exact hlow.right i (List.mem_append_right _ (eP _ (aI _ hi)))
    have:=n3 v S jF (k+fr.size+1+fy.size+1) lp m1 p hv hSn (by omega) (by rw[g3.uV];exact hll) alq ⟨hr1.env,hr1.jF,hr1.jO⟩ ht;refine wY.before (m1:=m1) ?_ (i1 (by rw[g2];exact hz0)) rfl rfl (λ_ _=>rfl);cases hN:N v p with
    |inl q=>rw[hN]at this;exact Hq this
    |inr q=>
     rw[hN]at this;obtain⟨m2,a1,a2,a3⟩:=this;exact⟨m2,a1,⟨a2.env,a2.jF,a2.jO⟩,a3⟩
   .rw[jg hz0];have Uk:lG fy.is m1.jD.length:=by
     rw[g3.len];intro i hi;exact hlow.right i (eP _ (aI _ hi))
    have:=y3 v S jF (k+fr.size+1) lp m1 p hv hSy (by omega) (by rw[g3.uV];exact hll) Uk ⟨hr1.env,hr1.jF,hr1.jO⟩ ht;refine wY.before (m1:=m1) ?_ (i2 (by rw[g2];exact hz0)) rfl rfl (λ_ _=>rfl);cases hY:Y v p with
    |inl q=>rw[hY]at this;exact Hq this
    |inr q=>
     rw[hY]at this;obtain⟨m2,a1,a2,a3,a4,a5⟩:=this;exact⟨m2,a1.trans (hels m2),⟨a2.env,a2.jF,a2.jO⟩,a3,a4,a5⟩
theorem Mb.of{P Q:Ck->Prop}{g:Co->Co}{z:Sz}{F:lQ}(h:Mb Q g z F)(hp:∀ck,P ck->Q ck):Mb P g z F:=λck c hf hx hP=>h ck c hf hx (hp ck hP)
theorem Mb.ms{P:Ck->Prop}{g:Co->Co}{z z':Sz}{F G:lQ}(h:Mb P g z G)(lk:Ck->Ck)(hl:∀ck,(lk ck).en=0->P ck/\lk ck=ck)(h1:z.wide<=z'.wide)(h2:z.deep<=z'.deep)(h3:z.jC<=z'.jC)(h4:z.jL<=z'.jL)(he:∀ck v p,P ck->nV ck p->nM v->F v p=G v p):Ms lk g z' F:=by
 intro ck c hf hx hk hw;obtain⟨hP,l2⟩:=hl ck hk;obtain⟨fr,q1,q2,q3⟩:=h ck c hf hx hP (by omega);rw[q1,l2,yV];refine⟨fr,[],rfl,by simp,Fz hx rfl,FK hf rfl,q2.grow h1 h2 h3 h4,?_⟩;intro v S jF k lp m p hv hS hd hll hlow hr ht;rw[he ck v p hP ht hv,<-yV];exact q3 v S jF k lp m p hv hS hd hll hlow hr ht
theorem aay{te ty tn:Int}{e:Ex}{y n:List jG}{zy zn:List (Sz×lQ)}{f:Val}(he:QF te e f)(hy:qB y zy ty)(hn:qB n zn tn)(a:Int):QE (te+ty+tn+3) (nY a e y n) (zJ f (qh (oL (zy.map (·.2)))) (qh (oL (zn.map (·.2))))):=by
 obtain⟨z,h1,h2⟩:=he;have fy:=H6 hy;have fn:=H6 hn;have w1:=h2.wide;have w2:=fy.wide;have w3:=fn.wide;have l1:=h2.jL;have l2:=fy.jL;have l3:=fn.jL;have n1:=h2.jC;have n2:=fy.jC;have n3:=fn.jC;have t1:=h2.tok;have t2:=fy.tok;have t3:=fn.tok;have c1:=h2.jw;have c2:=rH (l:=y);obtain⟨by1,by2⟩:=Ol hy;obtain⟨bn1,bn2⟩:=Ol hn;generalize hP:(λck:Ck=>lg e ck/\e.does.jW ck.jy=2/\(oh y ck).en=0/\(oh n ck).en=0)=P at *;have tq:∀ck,P ck↔(lg e ck/\e.does.jW ck.jy=2/\(oh y ck).en=0/\(oh n ck).en=0):=λck=>by rw[<-hP]
 have hl:∀ck,((nY a e y n).does.look ck).en=0->P ck/\(nY a e y n).does.look ck=ck:=λck hk=>by
  have e0:(nY a e y n).does.look ck=qy n (qy y ((e.does.look ck).want (e.does.jW ck.jy) e.at' 2)):=rfl;rw[e0]at hk;obtain⟨q1,q2,q3⟩:=U4 hn hk;obtain⟨r1,r2,r3⟩:=U4 hy q3;obtain⟨s1,s2,s3⟩:=Aa r3;have s4:=h1.look ck s3;rw[s2,s4]at r1 r2;rw[s2,s4,r1]at q1 q2;rw[e0,s2,s4,r1];exact⟨(tq ck).2 ⟨s3,s1,r2,q2⟩,q1⟩
 have hg:=h1.give.of λck hk=>((tq ck).1 hk).1;have hfo:=h1.fold.of λck hk=>((tq ck).1 hk).1;have By1:Mb P (kZ y) (ku zy) (qh (oL (zy.map (·.2)))):=by1.of λck hk=>((tq ck).1 hk).2.2.1;have YX:Mb P (kZ (kU y)) (ku zy) (qh (oL (zy.map (·.2)))):=by2.of λck hk=>((tq ck).1 hk).2.2.1;have Bn1:=bn1.of λck hk=>((tq ck).1 hk).2.2.2;have YW:=bn2.of λck hk=>((tq ck).1 hk).2.2.2;have hz:=jd w1.1 (jd n2 (jd n3 (jd l3.1 l2.1)));have hidle:=λck v p (hk:P ck)(ht:nV ck p)(hv:nM v)(h0:(kU n).length=0)=>SQ hn h0 ((tq ck).1 hk).2.2.2 ht hv;have abR:=λck v p (hk:P ck)(ht:nV ck p)(hv:nM v)(h0:(kU y).length=0)=>SQ hy h0 ((tq ck).1 hk).2.2.1 ht hv;have hfs:(nY a e y n).does.fs=(zI e y n).fs:=rfl;have hval:=λ(hkn:e.does.fd.known=true) ck v p (hk:P ck)(ht:nV ck p)(hv:nM v)=>(UZ h1 hkn ((tq ck).1 hk).1).2.1 p.env v p.jF ht hv;refine⟨ahh z (ku zy) (ku zn),⟨λck hk=>JB (hl ck hk).2 hk,?_,λhni=>?_,λck v p p' hk ht hv hF=>?_,λhi ck hk=>?_,λhen ck v p hk ht hv=>?_⟩,?_⟩
 .have hm:=aaw hg By1 Bn1 hz _ hl (decide (0<n.length)) (λhd ck v p hk ht hv=>hidle ck v p hk ht hv (by
   have:n=[]:=dW (by have:=of_decide_eq_false hd;omega);rw[this]
   rfl))
  have e1:(nY a e y n).does.lay=(λc=>(if decide (0<n.length)then kZ n ((kZ y (((e.does.give c (-1)).1.jX c.free).lay 2 [(e.does.give c (-1)).2])).lay 3 [])else kZ y (((e.does.give c (-1)).1.jX c.free).lay 2 [(e.does.give c (-1)).2])).lay 0 []):=by
   funext c
   show(if 0<n.length then kZ n ((kZ y (((e.does.give c (-1)).1.jX c.free).lay 2 [(e.does.give c (-1)).2])).lay 3 [])else kZ y (((e.does.give c (-1)).1.jX c.free).lay 2 [(e.does.give c (-1)).2])).lay 0 []=_;by_cases h0:0<n.length
   .rw[jh h0,jh (dR h0)]
   .rw[jg h0,jg (by simpa using h0)]
  rw[e1];exact hm
 .rw[hfs];simp only[zI];cases hkn:e.does.fd.known with
  |true=>
   simp only[dM];by_cases h0:e.does.fd.val=0
   .simp only[h0,dM];refine YW.ms _ hl (by show(ku zn).wide<=max (max z.wide (max (ku zy).wide (ku zn).wide)) 1;omega) (by show(ku zn).deep<=max z.deep (max (ku zy).deep (ku zn).deep);omega) (by show(ku zn).jC<=z.jC+(ku zy).jC+(ku zn).jC+2;omega) (by show(ku zn).jL<=z.jL+(ku zy).jL+(ku zn).jL+5;omega) λck v p hk ht hv=>?_;unfold zJ;rw[hval hkn ck v p hk ht hv,jh h0]
   .simp only[h0,cZ];refine YX.ms _ hl (by show(ku zy).wide<=max (max z.wide (max (ku zy).wide (ku zn).wide)) 1;omega) (by show(ku zy).deep<=max z.deep (max (ku zy).deep (ku zn).deep);omega) (by show(ku zy).jC<=z.jC+(ku zy).jC+(ku zn).jC+2;omega) (by show(ku zy).jL<=z.jL+(ku zy).jL+(ku zn).jL+5;omega) λck v p hk ht hv=>?_;unfold zJ;rw[hval hkn ck v p hk ht hv,jg h0]
  |false=>
   simp only[aH,cZ];have hm:=aaw hfo YX YW hz _ hl (decide (0<(kU n).length)) (λhd ck v p hk ht hv=>hidle ck v p hk ht hv (by have:=of_decide_eq_false hd;omega));have e1:(λc:Co=>(if 0<(kU n).length then kZ (kU n) ((kZ (kU y) (((e.does.fd.give c (-1)).1.jX c.free).lay 2 [(e.does.fd.give c (-1)).2])).lay 3 [])else kZ (kU y) (((e.does.fd.give c (-1)).1.jX c.free).lay 2 [(e.does.fd.give c (-1)).2])).lay 0 [])=(λc=>(if decide (0<(kU n).length)then kZ (kU n) ((kZ (kU y) (((e.does.fd.give c (-1)).1.jX c.free).lay 2 [(e.does.fd.give c (-1)).2])).lay 3 [])else kZ (kU y) (((e.does.fd.give c (-1)).1.jX c.free).lay 2 [(e.does.fd.give c (-1)).2])).lay 0 []):=by
    funext c
    by_cases h0:0<(kU n).length
    .rw[jh h0,jh (dR h0)]
    .rw[jg h0,jg (by simpa using h0)]
   rw[e1];exact hm
 .obtain⟨hk1,hk2⟩:=hl ck hk;rw[hk2];unfold zJ at hF;split at hF
  .exact SS hn ((tq ck).1 hk1).2.2.2 ht hv hF
  .exact SS hy ((tq ck).1 hk1).2.2.1 ht hv hF
 .obtain⟨hk1,hk2⟩:=hl ck hk;refine⟨hk2,λv p ht hv=>?_⟩;rw[hfs]at hi;simp only[zI]at hi;unfold zJ;cases hkn:e.does.fd.known with
  |true=>
   rw[hkn]at hi;simp only[dM]at hi;rw[hval hkn ck v p hk1 ht hv];by_cases h0:e.does.fd.val=0
   .rw[jh h0];simp only[h0,dM,decide_eq_true_eq]at hi;exact hidle ck v p hk1 ht hv hi
   .rw[jg h0];simp only[h0,cZ,decide_eq_true_eq]at hi;exact abR ck v p hk1 ht hv hi
  |false=>
   rw[hkn]at hi;simp only[aH,cZ,dD,decide_eq_true_eq]at hi;rw[hidle ck v p hk1 ht hv hi.2,abR ck v p hk1 ht hv hi.1];split<;>rfl
 .obtain⟨hk1,hk2⟩:=hl ck hk;rw[hfs]at hen;simp only[zI]at hen;have hN:=λ(h:uI (kU n)=true)=>Z8 hn h ((tq ck).1 hk1).2.2.2 ht hv;have hY:=λ(h:uI (kU y)=true)=>Z8 hy h ((tq ck).1 hk1).2.2.1 ht hv;unfold zJ;cases hkn:e.does.fd.known with
  |true=>
   rw[hkn]at hen;simp only[dM]at hen;rw[hval hkn ck v p hk1 ht hv];by_cases h0:e.does.fd.val=0
   .rw[jh h0];simp only[h0,dM]at hen;exact hN hen
   .rw[jg h0];simp only[h0,cZ]at hen;exact hY hen
  |false=>
   rw[hkn]at hen;simp only[aH,cZ,dD]at hen;split
   .exact hN hen.2
   .exact hY hen.1
 .have py:∀s∈y,1<=s.jw:=λs hs=>(fy.pos s hs).1;have pn:∀s∈n,1<=s.jw:=λs hs=>(fn.pos s hs).1;have sb:∀{l:List jG},(∀s∈l,1<=s.jw/\s.jw<=1000001)->0<=sumOf l/\sumOf l<=1000001:=λ{l} hp=>by
   have:∀(l:List jG)(a:Int),(∀s∈l,1<=s.jw/\s.jw<=1000001)->0<=a/\a<=1000001->0<=l.foldl (λa e=>lu [a,e.jw]) a/\l.foldl (λa e=>lu [a,e.jw]) a<=1000001:=by
    intro l;induction l with
    |nil=>intro a _ h;exact h
    |cons s l ih=>
     intro a hp h;have hs:=hp s (aW ..);exact ih _ (λx hx=>hp x (aI _ hx)) (yu _ (by simp;omega))
   exact this l 0 hp (by omega)
  have cy:=sb fy.pos;have cn:=sb fn.pos;refine⟨by omega,⟨by show 1<=max (max z.wide (max (ku zy).wide (ku zn).wide)) 1;omega,by show 2 * max (max z.wide (max (ku zy).wide (ku zn).wide)) 1<=te+ty+tn+3;omega⟩,⟨by show 0<=z.jL+(ku zy).jL+(ku zn).jL+5;omega,by show z.jL+(ku zy).jL+(ku zn).jL+5<=20 * (te+ty+tn+3);omega⟩,by show 0<=z.jC+(ku zy).jC+(ku zn).jC+2;omega,⟨yh (by simp;exact⟨c1,cy,cn⟩),(Ib c1 cy cn).2⟩,λhk=>?_⟩;have hk:jR [e.jw,sumOf y,sumOf n]<=1000000:=hk;have hp:=VN c1.1 c1.2 cy.1 cy.2 cn.1 cn.2 hk;have ey:=Gj py (by omega);have en':=Gj pn (by omega);obtain⟨a1,a2⟩:=h2.all (by omega);obtain⟨b1,b2⟩:=fy.all (by omega);obtain⟨d1,d2⟩:=fn.all (by omega);have c3:=fy.jw;have c4:=fn.jw;show z.jC+(ku zy).jC+(ku zn).jC+2<=40 * jR [e.jw,sumOf y,sumOf n]/\((8^max z.deep (max (ku zy).deep (ku zn).deep):Nat):Int)<=jR [e.jw,sumOf y,sumOf n]+1;rw[hp];refine⟨by omega,?_⟩;rcases gX z.deep (max (ku zy).deep (ku zn).deep)with hh|hh
  .rw[gG hh];rcases gX (ku zy).deep (ku zn).deep with h'|h'
   .rw[gG h'];omega
   .rw[gV h'];omega
  .rw[gV hh];omega
theorem aax{te ty tn:Int}{e:Ex}{y n:List jG}{zy zn:List (Sz×lQ)}(he:QX te e)(hy:qB y zy ty)(hn:qB n zn tn)(a:Int):QS (te+ty+tn+3) (nY a e y n):=by
 obtain⟨z,f,h1,h2⟩:=he;obtain⟨z',q⟩:=aay ⟨z,h1,h2⟩ hy hn a;exact⟨z',_,q⟩
theorem GU{te ty tn:Int}{e:Ex}{f:Val}{y n:List jG}{Ys Ns:List lQ}(he:QF te e f)(hy:EZ y Ys ty)(hn:EZ n Ns tn)(a:Int):QE (te+ty+tn+3) (nY a e y n) (zJ f (qh (oL Ys)) (qh (oL Ns))):=by
 obtain⟨zy,h1,rfl⟩:=hy;obtain⟨zn,h2,rfl⟩:=hn;exact aay he h1 h2 a
theorem atA{v:Vw}{S:List St}{jF:List Int}{k lD:Nat}{list a b:Int}{d:Nat}(Inv:List Int->Mc->Prop)(E:Out->Prop)
 (hbody:∀(i x:Int)(rest:List Int)(m:Mc),0<=i->i<64->Inv (i::rest) m->(∃m2,Reaches v S jF (k+1) ((m.put a i).lX d x) (kS (mP list a b d lD) k m2).2.toNat (kS (mP list a b d lD) k m2).1/\m2.ni d=x/\Inv rest m2)\/∃o,C9 v S jF (k+1) ((m.put a i).lX d x) o/\E o):
 ∀(n:Nat)(x:Int)(m:Mc),x.toNat<=n->0<=x->x<18446744073709551616->m.ni d=x->Inv (bitsOf x) m->(∃m',Reaches v S jF (kS (mP list a b d lD) k m).2.toNat (kS (mP list a b d lD) k m).1 lD m'/\Inv [] m')\/∃o,C9 v S jF (kS (mP list a b d lD) k m).2.toNat (kS (mP list a b d lD) k m).1 o/\E o:=by
 intro n;induction n with
 |zero=>
  intro x m hn h0 _ hx hI;have:x=0:=by omega
  subst this;have e:kS (mP list a b d lD) k m=(m,(lD:Int)):=by unfold kS;rw[jh (by exact hx)];rfl
  rw[e];exact jf ⟨m,Reaches.refl _ _ _ _ _,hI⟩
 |succ n ih=>
  intro x m hn h0 h1 hx hI;rcases Int.lt_or_eq_of_le h0 with hp|hz
  .have h2:=Lu hp h1;have ht:=Xg hp h1;rw[Z5 hp h1]at hI;have e:kS (mP list a b d lD) k m=((m.put a (tz x)).lX d (yU x),(k:Int)+1):=by
    have hx':m.ni (mP list a b d lD).depth=x:=hx;unfold kS;rw[hx',jg (by omega)]
    rfl
   rw[e];rw[show((k:Int)+1).toNat=k+1 by omega];rcases hbody (tz x) (yU x) _ m ht.1 ht.2 hI with⟨m2,g1,g2,g3⟩|hs
   .rcases ih (yU x) m2 (by omega) h2.1 (by omega) g2 g3 with⟨m',q1,q2⟩|⟨o,q1,q2⟩
    .exact jf ⟨m',g1.trans q1,q2⟩
    .exact je ⟨o,g1.stops q1,q2⟩
   .exact je hs
  .subst hz;have e:kS (mP list a b d lD) k m=(m,(lD:Int)):=by unfold kS;rw[jh (by exact hx)];rfl
   rw[e];exact jf ⟨m,Reaches.refl _ _ _ _ _,hI⟩
def zk(t:ji)(B:lQ)(v:Vw):List Int->oH->Option oH⊕oH
 |[],p=>.inr p
 |i::is,p=>match B v {p with env:=p.env++[(t,i)]}with
  | .inl r=>.inl r
  | .inr p'=>zk t B v is {p' with env:=p'.env.take p.env.length}
def aaN(list:Int)(fs:List (Wd×Ex))(zs:List (Sz×Val))(t:ji)(B:lQ):lQ:=λv p=>zk t B v (bitsOf (pY (bits .and .i64 (uN list fs zs p.env v p.jF) (v.all list)))) p
def DT(jF:List Int):Option oH->Out->Prop
 |none,o=>o=⟨1,jF,[]⟩
 |some p,o=>o.status=0/\(∀i:Nat,i<8->o.jF.getD i 0=p.jF i)/\o.jO=p.jO
theorem U0{c':Co}{d:Nat}{v:Vw}{S:List St}{jF:List Int}{k:Nat}{m:Mc}{lD:Nat}{r:Option oH}:wY c' d v S jF k m lD (.inl r)↔∃o,C9 v S jF k m o/\DT jF r o:=by
 cases r with
 |none=>
  constructor
  .intro h;exact⟨_,h,rfl⟩
  .rintro⟨o,h1,h2⟩;have h2:=h2;subst h2;exact h1
 |some p=>exact Iff.rfl
theorem aj7{ck:Ck}{c:Co}{t:ji}{kind list:Int}{B:lQ}{fb:Fr}{code ajQ:List Int}(hf:Fit ck c)(hk:kind≠2)(hok:fb.Ok false)
 (hb:Bg (ck.add t kind false) ⟨code,c.jy++[(t,c.free)],c.free+1⟩ ⟨ajQ,c.jy++[(t,c.free)],c.free+1⟩ fb B)(hty:∀v p p',nV (ck.add t kind false) p->nM v->B v p=.inr p'->nV (ck.add t kind false) p')
 {v:Vw}{S:List St}{jF:List Int}{k:Nat}{lp:List Int}{m:Mc}{p:oH}(hv:nM v)(hS:uz S k ((Fr.loop list c.free c.free fb).jB k lp))(hd:lp.length+(fb.deep+1)<=8)(hll:m.left.length=8)(hlow:lG (Fr.loop list c.free c.free fb).is m.jD.length)(hr:vI c m p)(ht:nV ck p):
 wY c lp.length v S jF k m (k+(Fr.loop list c.free c.free fb).size) (zk t B v (bitsOf (pY (bits .and .i64 (m.get c.free) (v.all list)))) p):=by
 have h8:=hf.free;have hL:=hS.head;have hSb:=hS.tail.left;have rV:=(hS.tail.right (hok.size _ _)).head;have Pz:lG fb.is m.jD.length:=λi hi=>hlow i (eP _ (aI _ hi));have hfree:c.free<m.jD.length:=by
  have:=(hlow ⟨4,[list,c.free,c.free]⟩ (eP _ (aW ..))).2.1 rfl;omega
 have auO:p.env.length=c.jy.length:=by rw[<-hr.env];simp[lS]
 have auD:=hf.lens;have alI:∀(R:Option oH⊕oH)(i x:Int)(rest:List Int)(m1:Mc)(p1:oH),0<=i->i<64->vI c m1 p1->nV ck p1->m1.jD.length=m.jD.length->m1.left.length=m.left.length->(∀j:Nat,j<lp.length->m1.ni j=m.ni j)->zk t B v (i::rest) p1=R->
  (∃m2,Reaches v S jF (k+1) ((m1.put c.free i).lX (lp.length:Nat) x) (kS (mP list c.free c.free lp.length ((k+1+fb.size+1:Nat):Int)) k m2).2.toNat (kS (mP list c.free c.free lp.length ((k+1+fb.size+1:Nat):Int)) k m2).1/\m2.ni (lp.length:Nat)=x/\∃p2,vI c m2 p2/\nV ck p2/\m2.jD.length=m.jD.length/\m2.left.length=m.left.length/\(∀j:Nat,j<lp.length->m2.ni j=m.ni j)/\zk t B v rest p2=R)\/∃o,C9 v S jF (k+1) ((m1.put c.free i).lX (lp.length:Nat) x) o/\∃r,R=.inl r/\DT jF r o:=by
  intro R i x rest m1 p1 i0 i1 hr1 ht1 a1 a2 a3 hR;have hgo:((m1.put c.free i).lX (lp.length:Nat) x).get c.free=i:=vN _ _ _ (by omega) (by rw[a1];exact hfree);have hgl:((m1.put c.free i).lX (lp.length:Nat) x).ni (lp.length:Nat)=x:=P5 _ _ _ (by show lp.length<m1.left.length;rw[a2];omega);have hgs:∀j,0<=j->j<c.free->((m1.put c.free i).lX (lp.length:Nat) x).get j=m1.get j:=λj j0 j1=>BQ m1 j c.free i j0 (by omega) (by omega);have hgj:∀j:Nat,j<lp.length->((m1.put c.free i).lX (lp.length:Nat) x).ni j=m1.ni j:=λj hj=>PZ _ _ _ _ (by omega);have abN:((m1.put c.free i).lX (lp.length:Nat) x).jD.length=m1.jD.length:=Dx _ _ _;have abO:((m1.put c.free i).lX (lp.length:Nat) x).left.length=m1.left.length:=aeW _ _ _;have alh:((m1.put c.free i).lX (lp.length:Nat) x).jO=m1.jO:=rfl;generalize (m1.put c.free i).lX (lp.length:Nat) x=mb at *;have hrb:vI ⟨code,c.jy++[(t,c.free)],c.free+1⟩ mb {p1 with env:=p1.env++[(t,i)]}:=by
   refine⟨?_,λj j0 j1=>by rw[hgs j j0 (by omega)];exact hr1.jF j j0 j1,by rw[alh];exact hr1.jO⟩;rw[<-hr1.env];unfold lS;rw[dF];show c.jy.map (λn=>(n.1,mb.get n.2))++[(t,mb.get c.free)]=_;rw[hgo]
   congr 1
   refine List.map_congr_left λn hn=>?_;have:=hf.jD n hn;rw[hgs n.2 this.1 this.2]
  have htb:nV (ck.add t kind false) {p1 with env:=p1.env++[(t,i)]}:=qC.know ht1 (by unfold jJ;omega) λe=>jl e hk;have h1:=hb v S jF (k+1) (lp++[(k:Int)]) mb _ hv hSb (by rw[aA,eG];omega) (by rw[abO,a2];exact hll) (by rw[abN,a1];exact Pz) hrb htb;rw[aA,eG]at h1;have hR':(match B v {p1 with env:=p1.env++[(t,i)]}with| .inl r=>.inl r| .inr p'=>zk t B v rest {p' with env:=p'.env.take p1.env.length})=R:=hR;cases hB:B v {p1 with env:=p1.env++[(t,i)]}with
  |inl r=>
   rw[hB]at h1 hR';obtain⟨o,o1,o2⟩:=U0.1 h1;exact je ⟨o,o1,r,hR'.symm,o2⟩
  |inr p2=>
   rw[hB]at h1 hR';obtain⟨m2,g1,g2,g3,g4,g5⟩:=h1;refine jf ⟨m2,g1.trans (aaU hL rV),(g5 lp.length (by omega)).trans hgl,{p2 with env:=p2.env.take p1.env.length},⟨?_,g2.jF,g2.jO⟩,?_,by rw[g3,abN,a1],by rw[g4,abO,a2],λj hj=>(g5 j (by omega)).trans ((hgj j hj).trans (a3 j hj)),hR'⟩
   .show lS c m2.get=p2.env.take p1.env.length;have hl1:p1.env.length=c.jy.length:=by rw[<-hr1.env];simp[lS]
    rw[hl1,<-g2.env];unfold lS;rw[dF,List.take_left' (by simp)]
   .have h2:=hty v _ p2 htb hv hB;have hl1:p1.env.length=ck.jy.length:=by rw[<-hr1.env];simp[lS];omega
    rw[hl1];exact qC.take h2
 have hu:=EL (bits .and .i64 (m.get c.free) (v.all list));generalize hmask:pY (bits .and .i64 (m.get c.free) (v.all list))=mask at *;generalize akU:zk t B v (bitsOf mask) p=R;have Ph:rP v (mP list c.free c.free lp.length ((k+1+fb.size+1:Nat):Int)) m=m.lX (lp.length:Nat) mask:=by
  unfold rP;show m.lX (lp.length:Nat) (pY (bits .and .i64 (m.get c.free) (v.all list)))=_;rw[hmask]
 have hgoes:=atA (v:=v) (S:=S) (jF:=jF) (k:=k) (lD:=k+1+fb.size+1) (list:=list) (a:=c.free) (b:=c.free) (d:=lp.length) (λrest m1=>∃p1,vI c m1 p1/\nV ck p1/\m1.jD.length=m.jD.length/\m1.left.length=m.left.length/\(∀j:Nat,j<lp.length->m1.ni j=m.ni j)/\zk t B v rest p1=R) (λo=>∃r,R=.inl r/\DT jF r o)
  (λi x rest m1 i0 i1 hI=>by
    obtain⟨p1,b1,b2,b3,b4,b5,b6⟩:=hI;exact alI R i x rest m1 p1 i0 i1 b1 b2 b3 b4 b5 b6)
  mask.toNat mask (m.lX (lp.length:Nat) mask) (aj _) hu.1 hu.2 (P5 _ _ _ (by omega)) ⟨p,⟨hr.env,hr.jF,hr.jO⟩,ht,rfl,aeW _ _ _,λj hj=>PZ _ _ _ _ (by omega),akU⟩
 have hpos:0<=(kS (mP list c.free c.free lp.length ((k+1+fb.size+1:Nat):Int)) k (m.lX (lp.length:Nat) mask)).2:=by
  unfold kS;split
  .show(0:Int)<=((k+1+fb.size+1:Nat):Int);omega
  .show(0:Int)<=(k:Int)+1;omega
 have hfirst:Reaches v S jF k m (kS (mP list c.free c.free lp.length ((k+1+fb.size+1:Nat):Int)) k (m.lX (lp.length:Nat) mask)).2.toNat (kS (mP list c.free c.free lp.length ((k+1+fb.size+1:Nat):Int)) k (m.lX (lp.length:Nat) mask)).1:=by
  refine Aw hL ?_;unfold Hx.step;rw[jg (by show¬(4:Int)=1;omega),jg (by show¬(4:Int)=2;omega),jg (by show¬(4:Int)=3;omega),jh (by rfl),Ph];rw[iF hpos]
 have hsz:k+(Fr.loop list c.free c.free fb).size=k+1+fb.size+1:=by
  show k+(1+fb.size+1)=_;omega
 rw[hsz];rcases hgoes with⟨m',q1,p1,b1,b2,b3,b4,b5,b6⟩|⟨o,q1,r,e1,e2⟩
 .have b6:=b6;rw[<-b6];exact⟨m',hfirst.trans q1,b1,b3,b4,b5⟩
 .rw[e1];exact U0.2 ⟨o,hfirst.stops q1,e2⟩
theorem ajW{c:Co}(hx:Ctx c)(code:List Int)(t:ji):Ctx ⟨code,c.jy++[(t,c.free)],c.free+1⟩:=by
 refine⟨?_,λj n hj=>?_⟩
 .show c.free+1=8+((c.jy++[(t,c.free)]).length:Int);have:=hx.free;simp;omega
 .have hj:=hj;rcases dG j c.jy.length with hlt|hge
  .rw[aT hlt]at hj;exact hx.jD j n hj
  .rw[bW hge]at hj;rcases gJ (j-c.jy.length)with h0|h0
   .rw[h0]at hj;simp only[dw,bJ]at hj;subst hj;have:=hx.free;omega
   .rw[bV (by simp;omega)]at hj;cases hj
theorem afi{ck:Ck}{kind:Int}(hk:kind≠2){t:ji}{B:lQ}{v:Vw}(hv:nM v)(hty:∀p p',nV (ck.add t kind false) p->B v p=.inr p'->nV (ck.add t kind false) p'):∀(is:List Int)(p p':oH),(∀i∈is,0<=i/\i<64)->nV ck p->zk t B v is p=.inr p'->nV ck p'
 |[],p,p',_,ht,hF=>by
  cases hF;exact ht
 |i::is,p,p',hi,ht,hF=>by
  have hF:(match B v {p with env:=p.env++[(t,i)]}with| .inl r=>(Sum.inl r:Option oH⊕oH)| .inr p'=>zk t B v is {p' with env:=p'.env.take p.env.length})=.inr p':=hF;have h0:=hi i (aW ..);have htb:nV (ck.add t kind false) {p with env:=p.env++[(t,i)]}:=qC.know ht (by unfold jJ;omega) λe=>jl e hk;cases hB:B v {p with env:=p.env++[(t,i)]}with
  |inl r=>rw[hB]at hF;cases hF
  |inr p1=>
   rw[hB]at hF;refine afi hk hv hty is _ p' (λj hj=>hi j (aI _ hj)) ?_ hF;have h2:=hty _ p1 htb hB;have hl:p.env.length=ck.jy.length:=by have:=congrArg List.length ht.jy;simp at this;omega
   rw[hl];exact qC.take h2
theorem afh{ck:Ck}{kind:Int}(hk:kind≠2){t:ji}{B:lQ}{v:Vw}(hid:∀p,nV (ck.add t kind false) p->B v p=.inr p):∀(is:List Int)(p:oH),(∀i∈is,0<=i/\i<64)->nV ck p->zk t B v is p=.inr p
 |[],_,_,_=>rfl
 |i::is,p,hi,ht=>by
  have h0:=hi i (aW ..);have htb:nV (ck.add t kind false) {p with env:=p.env++[(t,i)]}:=qC.know ht (by unfold jJ;omega) λe=>jl e hk;show(match B v {p with env:=p.env++[(t,i)]}with| .inl r=>(Sum.inl r:Option oH⊕oH)| .inr p'=>zk t B v is {p' with env:=p'.env.take p.env.length})=.inr p;rw[hid _ htb];simp only[iK];exact afh hk hid is p (λj hj=>hi j (aI _ hj)) ht
theorem adv(v:Vw)(x list:Int):∀i∈bitsOf (pY (bits .and .i64 x (v.all list))),0<=i/\i<64:=by
 have hu:=EL (bits .and .i64 x (v.all list));exact SN _ _ hu.1 hu.2
theorem adi{P:Ck->Prop}{kind W list:Int}{D:Nat}(hk:kind≠2)(hl:0<=list/\list<3){fs GY:List (Wd×Ex)}{zs zs0:List (Sz×Val)}{t:ji}{gb:Co->Co}{zb:Sz}{B:lQ}(hfs:∀ck,P ck->zq ck kind fs zs)(hz:∀p∈zs,p.1.wide<=W/\p.1.deep<=D)(hzl:0<=mX zs)(hW:0<=W)(hb:Mb (λwI=>∃ck,P ck/\wI=ck.add t kind false) gb zb B)(hzb:0<=zb.wide)
 (hsame:∀ck en v σ,P ck->qC ck en σ->nM v->uN list fs zs en v σ=uN list GY zs0 en v σ)(hty:∀ck v p p',P ck->nV (ck.add t kind false) p->nM v->B v p=.inr p'->nV (ck.add t kind false) p')(lk:Ck->Ck)(hlk:∀ck,(lk ck).en=0->P ck/\lk ck=ck):
 Ms lk (λc=>(((gb (((c.nk list fs).1.lay 4 [list,(c.nk list fs).2,(c.nk list fs).2]).know t (c.nk list fs).2)).lay 0 []).cut c.jy.length).jX c.free) ⟨max (2+W) (1+zb.wide),max (if fs.length=0 then 0 else D+1) (zb.deep+1),(if fs.length=0 then 1 else 3+Hx.kR list * (lW zs+2))+(1+Hx.kR list * (zb.jC+1)),mX zs+zb.jL+27⟩ (aaN list GY zs0 t B):=by
 intro ck c hf hx hkk hw;obtain⟨hP,l2⟩:=hlk ck hkk;have h8:=hf.free;have hw:c.free+max (2+W) (1+zb.wide)<=2008:=hw;obtain⟨fr,q1,q2,q3,q4,q5,q6,q7⟩:=aa5 (ck:=ck) (kind:=kind) (W:=W) (D:=D) hk hl (hfs ck hP) hz hzl hW c hf (by omega);obtain⟨fb,b1,b2,b3⟩:=hb (ck.add t kind false) ⟨c.code++jU fr.is++enc ⟨4,[list,c.free,c.free]⟩,c.jy++[(t,c.free)],c.free+1⟩ (Fit.know (c:=⟨c.code++jU fr.is++enc ⟨4,[list,c.free,c.free]⟩,c.jy,c.free+1⟩) (hf.more (by omega)) (by omega) (by show c.free<c.free+1;omega)) (ajW hx _ t) ⟨ck,hP,rfl⟩ (by show c.free+1+zb.wide<=2008;omega);have bn:=b2.jC;have bd:=b2.deep;have bl:=b2.jL;have blow:=b2.low;simp only;rw[q1,l2];simp only;have ak0:((⟨c.code++jU fr.is,c.jy,c.free+1⟩:Co).lay 4 [list,c.free,c.free]).know t c.free=⟨c.code++jU fr.is++enc ⟨4,[list,c.free,c.free]⟩,c.jy++[(t,c.free)],c.free+1⟩:=rfl;rw[ak0,b1];have LZ:(((⟨c.code++jU fr.is++enc ⟨4,[list,c.free,c.free]⟩++jU fb.is,c.jy++[(t,c.free)],c.free+1⟩:Co).lay 0 []).cut c.jy.length).jX c.free=⟨c.code++jU (fr.seq (Fr.loop list c.free c.free fb)).is,c.jy,c.free⟩:=by
  simp only[Co.lay,Co.cut,Co.jX,Fr.seq,Fr.loop,nN,ny,mF,enc,aX,bY,bZ,dJ,iK]
 rw[LZ,yV];have hins:=adh (a:=c.free) (b:=c.free) (list:=list) (by omega) (by omega) (by omega) (by omega) hl;have hlen:=aaT list c.free c.free ⟨by omega,by omega⟩ ⟨by omega,by omega⟩ hl;have e1:=OH;refine⟨fr.seq (Fr.loop list c.free c.free fb),[],rfl,by simp,Fz hx rfl,FK hf rfl,⟨Fr.uq q2 (Fr.adk hins b2.ok.inside),?_,?_,?_,?_⟩,?_⟩
 .show fr.jC+(1+Hx.kR list * (fb.jC+1))<=(if fs.length=0 then 1 else 3+Hx.kR list * (lW zs+2))+(1+Hx.kR list * (zb.jC+1));have:Hx.kR list * (fb.jC+1)<=Hx.kR list * (zb.jC+1):=fB (by omega) (by have:=Jy list;omega);omega
 .show max fr.deep (fb.deep+1)<=max (if fs.length=0 then 0 else D+1) (zb.deep+1);omega
 .show((jU (fr.is++(⟨4,[list,c.free,c.free]⟩::fb.is++[⟨0,[]⟩]))).length:Int)<=mX zs+zb.jL+27;rw[nN,aA,bZ,ny,aA,nN,aA,ny,mF,aX];omega
 .refine(q6.wide ?_).append ?_
  .show c.free+(2+W)<=c.free+max (2+W) (1+zb.wide);omega
  .intro i hi;have hi:=hi;rcases List.mem_append.1 hi with hi|hi
   .rcases dh.1 hi with rfl|hi
    .exact⟨(λe=>by cases e),λ_=>by show c.free+1<=c.free+max (2+W) (1+zb.wide);omega,λ_=>by show c.free+1<=c.free+max (2+W) (1+zb.wide);omega,trivial⟩
    .exact Hz (blow i hi) (by show c.free+1+zb.wide<=c.free+max (2+W) (1+zb.wide);omega)
   .rw[cO.1 hi]
    trivial
 .intro v S jF k lp m p hv hS hd hll hlow hr ht;have hd:lp.length+max fr.deep (fb.deep+1)<=8:=hd;obtain⟨m1,g1,g2,g3⟩:=q7 v S jF k lp m hv hS.left (by omega) hll hlow.left (hr.ty hf ht);have hr1:vI c m1 p:=⟨by rw[BP hf g3];exact hr.env,λj j0 j1=>by rw[g3.jD j j0 (by omega) (by omega)];exact hr.jF j j0 j1,by rw[g3.jO];exact hr.jO⟩;have hea:=aj7 (ck:=ck) (c:=c) (t:=t) (kind:=kind) (list:=list) (B:=B) (fb:=fb) hf hk b2.ok b3 (λv p p' h1 h2 h3=>hty ck v p p' hP h1 h2 h3) (jF:=jF) hv (hS.right (q2.size k lp)) (by omega) (by rw[g3.uV];exact hll) (by rw[g3.len];exact hlow.right) hr1 ht;have hval:m1.get c.free=uN list GY zs0 p.env v p.jF:=by
   rw[g2,hr.env,afR (hfs ck hP).pJ p.env v m.get p.jF hr.jF];exact hsame ck p.env v p.jF hP ht hv
  rw[hval]at hea;have hsz:k+(fr.seq (Fr.loop list c.free c.free fb)).size=k+fr.size+(Fr.loop list c.free c.free fb).size:=by
   show k+(fr.size+(Fr.loop list c.free c.free fb).size)=_;omega
  rw[hsz,<-yV];refine wY.before ?_ g1 g3.len g3.uV g3.left;show wY _ _ v S jF _ m1 _ (zk t B v (bitsOf (pY (bits .and .i64 (uN list GY zs0 p.env v p.jF) (v.all list)))) p);cases hR:zk t B v (bitsOf (pY (bits .and .i64 (uN list GY zs0 p.env v p.jF) (v.all list)))) p with
  |inl q=>rw[hR]at hea;exact Hq hea
  |inr q=>
   rw[hR]at hea;obtain⟨m2,a1,a2,a3⟩:=hea;exact⟨m2,a1,⟨a2.env,a2.jF,a2.jO⟩,a3⟩
theorem anj{ts tl:Int}{x:Sx}{zs:List (Sz×Val)}{l:List jG}{zb:List (Sz×lQ)}(hx:Oc x ts zs)(hl:qB l zb tl)(a:Int)(b:Wd):QE (ts+tl+4) (sG a b x l) (aaN (jP x.base) x.jE zs b.text (qh (oL (zb.map (·.2))))):=by
 obtain⟨tf,cs,h1,h2,h3⟩:=hx.ex;obtain⟨W,D,q⟩:=OX h1;have hof:x.of≠2:=by have:=hx.of;omega
 have hlist:0<=jP x.base/\jP x.base<3:=by unfold jP;split<;>(try split)<;>omega
 have fl:=H6 hl;obtain⟨bl1,bl2⟩:=Ol hl;generalize hPP:(λck:Ck=>(∀bb∈x.jE,lg bb.2 (ck.add bb.1.text x.of false))/\(oh l (ck.add b.text x.of false)).en=0)=P at *;have tq:∀ck,P ck↔((∀bb∈x.jE,lg bb.2 (ck.add bb.1.text x.of false))/\(oh l (ck.add b.text x.of false)).en=0):=λck=>by rw[<-hPP]
 have hlk:∀ck,((sG a b x l).does.look ck).en=0->P ck/\(sG a b x l).does.look ck=ck:=λck hk=>by
  have e0:(sG a b x l).does.look ck=(qy l ((oz x.of x.jE (ck.nG b.text b.at')).add b.text x.of false)).cut (oz x.of x.jE (ck.nG b.text b.at')).jy.length:=rfl;rw[e0]at hk;obtain⟨r1,r2,r3⟩:=U4 hl (show(qy l ((oz x.of x.jE (ck.nG b.text b.at')).add b.text x.of false)).en=0 from hk);obtain⟨s1,s2⟩:=Qd (OZ h1) (show(oz x.of x.jE (ck.nG b.text b.at')).en=0 from r3);have r3':(ck.nG b.text b.at').en=0:=by
   have r4:=r3;rw[s1]at r4;exact r4
  obtain⟨_,u2,u3⟩:=Vp r3';rw[s1,u2]at r1 r2;rw[u2]at s1 s2;rw[e0,u2,s1,r1];refine⟨(tq ck).2 ⟨λbb hb=>(s2 bb hb).1,r2⟩,?_⟩;show(⟨(ck.jy++[(⟨b.text,x.of,false⟩:Kn)]).take ck.jy.length,ck.en,ck.ea⟩:Ck)=ck;rw[iK]
 have B1:Mb (λwI=>∃ck,P ck/\wI=ck.add b.text x.of false) (kZ l) (ku zb) (qh (oL (zb.map (·.2)))):=bl1.of λwI ⟨ck,hk,e⟩=>by rw[e];exact((tq ck).1 hk).2
 have B2:Mb (λwI=>∃ck,P ck/\wI=ck.add b.text x.of false) (kZ (kU l)) (ku zb) (qh (oL (zb.map (·.2)))):=bl2.of λwI ⟨ck,hk,e⟩=>by rw[e];exact((tq ck).1 hk).2
 have hty:=λck v p p' (hk:P ck)(ht:nV (ck.add b.text x.of false) p)(hv:nM v)(hF:qh (oL (zb.map (·.2))) v p=.inr p')=>SS hl ((tq ck).1 hk).2 ht hv hF;obtain⟨l1,l2,l3,l4⟩:=OU h1;have qn:=q.jC;have ql:=q.jL;have qw:=q.wide;have qt:=q.Rk;have qc:=q.OG;have w2:=fl.wide;have n2:=fl.jC;have ll2:=fl.jL;have t2:=fl.tok;have hls:=Jy (jP x.base);have hmul:∀a b:Int,a<=b->Hx.kR (jP x.base) * a<=Hx.kR (jP x.base) * b:=λa b hab=>fB hab (by omega);have hpos:∀a:Int,0<=a->0<=Hx.kR (jP x.base) * a:=λa ha=>Int.mul_nonneg (by omega) ha;have m1:=adi (P:=P) (kind:=x.of) (W:=W) (list:=jP x.base) (D:=D) hof hlist (fs:=x.jE) (GY:=x.jE) (zs:=zs) (zs0:=zs) (t:=b.text) (λck hk=>O4 h1 ((tq ck).1 hk).1) q.each ql.1 qw.1 B1 w2.1 (λ_ _ _ _ _ _ _=>rfl) hty (sG a b x l).does.look hlk;have m2:=adi (P:=P) (kind:=x.of) (W:=W) (list:=jP x.base) (D:=D) hof hlist (fs:=qU x.jE) (GY:=x.jE) (zs:=oN x.jE zs) (zs0:=zs) (t:=b.text) (λck hk=>OY h1 ((tq ck).1 hk).1) (λp hp=>q.each p (GX p hp)) l3 qw.1 B2 w2.1 (λck en v σ hk ht hv=>afS hof ht hv h1 ((tq ck).1 hk).1) hty (sG a b x l).does.look hlk;refine⟨⟨max (2+W) (1+(ku zb).wide),max (if x.jE.length=0 then 0 else D+1) ((ku zb).deep+1),(if x.jE.length=0 then 1 else 3+Hx.kR (jP x.base) * (lW zs+2))+(1+Hx.kR (jP x.base) * ((ku zb).jC+1)),mX zs+(ku zb).jL+27⟩,⟨λck hk=>JB (hlk ck hk).2 hk,m1,λ_=>?_,λck v p p' hk ht hv hF=>?_,λhi ck hk=>?_,(λh=>by cases h)⟩,?_⟩
 .intro ck c hf hcx hk hw;have hw:=hw;obtain⟨fr,more,r1,r2,r3,r4,r5,r6⟩:=m2 ck c hf hcx hk (by exact hw);refine⟨fr,more,r1,r2,r3,r4,r5.grow (aV _) ?_ ?_ ?_,r6⟩
  .show max (if (qU x.jE).length=0 then 0 else D+1) ((ku zb).deep+1)<=max (if x.jE.length=0 then 0 else D+1) ((ku zb).deep+1);by_cases h0:x.jE.length=0
   .rw[jh h0,jh (OT h0)];exact aj _
   .rw[jg h0];split<;>omega
  .show(if (qU x.jE).length=0 then 1 else 3+Hx.kR (jP x.base) * (lW (oN x.jE zs)+2))+(1+Hx.kR (jP x.base) * ((ku zb).jC+1))<=(if x.jE.length=0 then 1 else 3+Hx.kR (jP x.base) * (lW zs+2))+(1+Hx.kR (jP x.base) * ((ku zb).jC+1));by_cases h0:x.jE.length=0
   .rw[jh h0,jh (OT h0)];exact aV _
   .rw[jg h0];have u1:=hmul (lW (oN x.jE zs)+2) (lW zs+2) (by omega);have u2:=hpos (lW zs+2) (by omega);split<;>omega
  .show mX (oN x.jE zs)+(ku zb).jL+27<=mX zs+(ku zb).jL+27;omega
 .obtain⟨hk1,hk2⟩:=hlk ck hk;rw[hk2];exact afi hof hv (λp p' h1 h2=>hty ck v p p' hk1 h1 hv h2) _ p p' (adv _ _ _) ht hF
 .obtain⟨hk1,hk2⟩:=hlk ck hk;refine⟨hk2,λv p ht hv=>?_⟩;have hi:=of_decide_eq_true hi;exact afh hof (λp hp=>SQ hl hi ((tq ck).1 hk1).2 hp hv) _ p (adv _ _ _) ht
 .have pl:∀s∈l,1<=s.jw:=λs hs=>(fl.pos s hs).1;have cl:0<=sumOf l/\sumOf l<=1000001:=by
   have:∀(l:List jG)(a:Int),(∀s∈l,1<=s.jw/\s.jw<=1000001)->0<=a/\a<=1000001->0<=l.foldl (λa e=>lu [a,e.jw]) a/\l.foldl (λa e=>lu [a,e.jw]) a<=1000001:=by
    intro l;induction l with
    |nil=>intro a _ h;exact h
    |cons s l ih=>
     intro a hp h;have hs:=hp s (aW ..);exact ih _ (λx hx=>hp x (aI _ hx)) (yu _ (by simp;omega))
   exact this l 0 fl.pos (by omega)
  have rc:=uo (x:=x) cl;have xc:=hx.jw;refine⟨by omega,⟨by show 1<=max (2+W) (1+(ku zb).wide);omega,by show 2 * max (2+W) (1+(ku zb).wide)<=ts+tl+4;omega⟩,⟨by show 0<=mX zs+(ku zb).jL+27;omega,by show mX zs+(ku zb).jL+27<=20 * (ts+tl+4);omega⟩,?_,⟨yh (by simp;exact⟨xc,rc⟩),(rG xc rc).2⟩,λhk=>?_⟩
  .show 0<=(if x.jE.length=0 then 1 else 3+Hx.kR (jP x.base) * (lW zs+2))+(1+Hx.kR (jP x.base) * ((ku zb).jC+1));have u1:=hpos (lW zs+2) (by omega);have u2:=hpos ((ku zb).jC+1) (by omega);split<;>omega
  .have hk:jR [x.jw,x.round (sumOf l)]<=1000000:=hk;have hp:=zU xc.1 xc.2 rc.1 rc.2 hk;have h4:=h3 (by omega);have h5:=V4 (x:=x) (c:=sumOf l) (by omega);have hcs:cs<=1000000:=by
    rcases hx.of with e|e<;>rw[e]at h4<;>simp at h4<;>omega
   have hsl:sumOf l<=1000000:=by
    rcases hx.of with e|e<;>rw[e]at h5<;>simp at h5<;>omega
   have el:=Gj pl hsl;obtain⟨a1,a2⟩:=q.all hcs;obtain⟨d1,d2⟩:=fl.all (by omega);have c3:=fl.jw;have hlen:(0:Int)<=x.jE.length:=by omega
   have e8:∀d:Nat,((8^(d+1):Nat):Int)=8 * ((8^d:Nat):Int):=λd=>by rw[iV,iJ];omega
   show(if x.jE.length=0 then 1 else 3+Hx.kR (jP x.base) * (lW zs+2))+(1+Hx.kR (jP x.base) * ((ku zb).jC+1))<=40 * jR [x.jw,x.round (sumOf l)]/\((8^max (if x.jE.length=0 then 0 else D+1) ((ku zb).deep+1):Nat):Int)<=jR [x.jw,x.round (sumOf l)]+1;rw[hp,h5,hx.base];rw[el]at *;constructor
   .by_cases h0:x.jE.length=0
    .rw[jh h0];rcases hx.of with e|e<;>rw[e]at h4⊢<;>simp at h4⊢<;>omega
    .rw[jg h0];rcases hx.of with e|e<;>rw[e]at h4⊢<;>simp at h4⊢<;>omega
   .have hb8:((8^((ku zb).deep+1):Nat):Int)<=8 * (lM l+1):=by rw[e8];omega
    have hs8:((8^(if x.jE.length=0 then 0 else D+1):Nat):Int)<=max 1 (8 * cs):=by
     by_cases h0:x.jE.length=0
     .rw[jh h0];omega
     .rw[jg h0,e8];have hne:x.jE≠[]:=λe=>h0 (by rw[e];rfl);rcases a2 with a2|a2
      .exact jl a2 hne
      .omega
    have hmx:((8^max (if x.jE.length=0 then 0 else D+1) ((ku zb).deep+1):Nat):Int)<=max (max 1 (8 * cs)) (8 * (lM l+1)):=by
     rcases gX (if x.jE.length=0 then 0 else D+1) ((ku zb).deep+1)with hh|hh
     .rw[gG hh];omega
     .rw[gV hh];omega
    generalize ((8^max (if x.jE.length=0 then 0 else D+1) ((ku zb).deep+1):Nat):Int)=PP at *;rcases hx.of with e|e<;>rw[e]at h4⊢<;>simp at h4⊢<;>omega
theorem ani{ts tl:Int}{x:Sx}{l:List jG}{zb:List (Sz×lQ)}(hx:Af x ts)(hl:qB l zb tl)(a:Int)(b:Wd):QS (ts+tl+4) (sG a b x l):=by
 obtain⟨zs,hx⟩:=hx.told;obtain⟨z,q⟩:=anj hx hl a b;exact⟨z,_,q⟩
end
end Go.Proofs.YthllhabjfchgiaaGreatDoor
