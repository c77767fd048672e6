import Derived.Test.YthllhabjfchgiaaGreatDoorHb39
set_option maxRecDepth 100000
set_option maxHeartbeats 8000000
set_option linter.unusedSimpArgs false
namespace Go.Proofs.YthllhabjfchgiaaGreatDoor
section
open Go.RowKit Hx
def qH(F:mG):mG:=λv p=>match F v p with
 | .inl r=>.inl r
 | .inr p'=>.inr {p' with env:=p'.env.take p.env.length}
def Mb(Q:Ck->Prop)(g:Co->Co)(z:Sz)(F:mG):Prop:=∀(ck:Ck)(c:Co),Fit ck c->Ctx c->Q ck->c.free+z.wide<=2008->
 ∃fr:Fr,g c=⟨c.code++jX fr.is,c.jA,c.free⟩/\Xt c z fr/\yG ck c ⟨c.code++jX fr.is,c.jA,c.free⟩ fr F
theorem yG.code{ck:Ck}{c c':Co}{fr:Fr}{F:mG}(h:yG ck c c' fr F){c2:Co}(hn:c2.jA=c.jA){c3:Co}(hn3:c3.jA=c'.jA):yG ck c2 c3 fr F:=by
 intro v S jG k lp m p hv hS hd hll hlow hr ht;have hr':uO c m p:=⟨by rw[<-hr.env];unfold lu;rw[hn],hr.jG,hr.jP⟩;have h1:=h v S jG k lp m p hv hS hd hll hlow hr' ht;cases hF:F v p with
 |inl r=>rw[hF]at h1;exact F6 h1
 |inr p'=>
  rw[hF]at h1;obtain⟨m',a1,a2,a3⟩:=h1;exact⟨m',a1,⟨by rw[<-a2.env];unfold lu;rw[hn3],a2.jG,a2.jP⟩,a3⟩
theorem ZM{ck:Ck}{c c':Co}{fr:Fr}{F:mG}{more:List (jm×Int)}(h:yG ck c c' fr F)(hn:c'.jA=c.jA++more){code:List Int}:yG ck c ⟨code,c.jA,c.free⟩ fr (qH F):=by
 intro v S jG k lp m p hv hS hd hll hlow hr ht;have h1:=h v S jG k lp m p hv hS hd hll hlow hr ht;unfold qH;cases hF:F v p with
 |inl r=>rw[hF]at h1;exact F6 h1
 |inr p'=>
  rw[hF]at h1;obtain⟨m',a1,a2,a3⟩:=h1;refine⟨m',a1,⟨?_,a2.jG,a2.jP⟩,a3⟩;have hl:p.env.length=c.jA.length:=by rw[<-hr.env];simp[lu]
  rw[hl,<-a2.env];unfold lu;rw[hn,dF,List.take_left' (by simp)]
theorem Ot{l:List jK}{zs:List (Sz×mG)}{t:Int}(h:qX l zs t):Mb (λck=>(oG l ck).en=0) (kU l) (kC zs) (qH (oZ (zs.map (·.2))))/\Mb (λck=>(oG l ck).en=0) (kU (kS l)) (kC zs) (qH (oZ (zs.map (·.2)))):=by
 have key:∀(ll:List jK)(c:Co)(fr:Fr)(more:List (jm×Int)),qP ll c=⟨c.code++jX fr.is,c.jA++more,c.free+more.length⟩->kU ll c=⟨c.code++jX fr.is,c.jA,c.free⟩:=λll c fr more e=>by
  show((qP ll c).cut c.jA.length).jZ c.free=_;rw[e];simp[Co.cut,Co.jZ]
 constructor
 .intro ck c hf hx hk hw;obtain⟨fr,more,q1,q2,q3⟩:=ae2 h ck c hf hx hk hw;exact⟨fr,key _ _ _ _ q1,q2,ZM (more:=more) q3 (by rw[q1])⟩
 .intro ck c hf hx hk hw;obtain⟨fr,more,q1,q2,q3⟩:=WC h ck c hf hx hk hw;exact⟨fr,key _ _ _ _ q1,q2,ZM (more:=more) q3 (by rw[q1])⟩
theorem Vk{l:List jK}{zs:List (Sz×mG)}{t:Int}(h:qX l zs t){ck:Ck}(hk:(qC l ck).en=0):qC l ck=ck/\(oG l ck).en=0/\ck.en=0:=by
 have hk:=hk;obtain⟨a1,more,a2⟩:=F8 h ck hk;refine⟨?_,hk,a1⟩;show(oG l ck).cut ck.jA.length=ck;rw[a2];simp[Ck.cut]
theorem pJ.take{ck:Ck}{more:List Kn}{en:List (jm×Int)}{σ:Int->Int}(h:pJ ⟨ck.jA++more,ck.en,ck.ea⟩ en σ):pJ ck (en.take ck.jA.length) σ:=by
 refine⟨h.jG,?_,λj k n hk hn=>?_⟩
 .have hn:=h.jA;have:=congrArg (List.take ck.jA.length) hn;rw[<-List.map_take,<-List.map_take]at this;simpa using this
 .have hlt:=(List.getElem?_eq_some_iff.1 hk).1;rw[iI hlt]at hn;exact h.vals j k n (by show(ck.jA++more)[j]? =some k;rw[aT hlt];exact hk) hn
theorem Tz{l:List jK}{zs:List (Sz×mG)}{t:Int}(h:qX l zs t){ck:Ck}{v:Vw}{p p':oz}(hk:(oG l ck).en=0)(ht:nO ck p)(hv:nH v)(hF:qH (oZ (zs.map (·.2))) v p=.inr p'):nO ck p':=by
 unfold qH at hF;cases hq:oZ (zs.map (·.2)) v p with
 |inl r=>rw[hq]at hF;cases hF
 |inr p1=>
  rw[hq]at hF;cases hF;have h1:=ae3 h ck v p p1 hk ht hv hq;obtain⟨_,more,a2⟩:=F8 h ck hk;rw[a2]at h1;have hl:p.env.length=ck.jA.length:=by have:=congrArg List.length ht.jA;simp at this;omega
  rw[hl];exact pJ.take h1
theorem Tv{l:List jK}{zs:List (Sz×mG)}{t:Int}(h:qX l zs t)(he:(kS l).length=0){ck:Ck}{v:Vw}{p:oz}(hk:(oG l ck).en=0)(ht:nO ck p)(hv:nH v):qH (oZ (zs.map (·.2))) v p=.inr p:=by
 unfold qH;rw[ae1 h (dW he) ck v p hk ht hv];simp
theorem ZN{l:List jK}{zs:List (Sz×mG)}{t:Int}(h:qX l zs t)(he:uy (kS l)=true){ck:Ck}{v:Vw}{p:oz}(hk:(oG l ck).en=0)(ht:nO ck p)(hv:nH v):∃r,qH (oZ (zs.map (·.2))) v p=.inl r:=by
 obtain⟨r,hr⟩:=WB h he ck v p hk ht hv;unfold qH;rw[hr];exact⟨r,rfl⟩
def D8(f:Val)(Y N:mG):mG:=λv p=>if f p.env v p.jG=0 then N v p else Y v p
theorem abX{v:Vw}{S:List St}{jG:List Int}{k:Nat}{r:Int}{to':Nat}{m:Mc}(hS:S[k]? =some (tH r to')):(m.get r=0->Reaches v S jG k m to' m)/\(m.get r≠0->Reaches v S jG k m (k+1) m):=by
 constructor
 .intro h;refine Ac hS ?_;unfold Hx.step;rw[jk (by show¬(2:Int)=1;omega),jl (by rfl),jl (by exact h)]
  rfl
 .intro h;refine Ac hS ?_;unfold Hx.step;rw[jk (by show¬(2:Int)=1;omega),jl (by rfl),jk (by exact h)]
  rfl
theorem aja{v:Vw}{S:List St}{jG:List Int}{k:Nat}{to':Nat}{m:Mc}(hS:S[k]? =some (zC to')):Reaches v S jG k m to' m:=by
 refine Ac hS ?_;unfold Hx.step;rw[jk (by show¬(3:Int)=1;omega),jk (by show¬(3:Int)=2;omega),jl (by rfl)]
 rfl
theorem akU{a:Int}(h0:0<=a/\a<2008):qN ⟨2,[a]⟩:=⟨⟨by show(0:Int)<=2;omega,by show(2:Int)<=36;omega⟩,a,[],rfl,qV h0.1 h0.2,rfl⟩
theorem ajc(r:Int)(h:0<=r/\r<2008):((enc ⟨2,[r]⟩).length:Int)<=3:=by
 have:=xq r h.1 h.2;simp only[enc,aX,aF,c8,dJ];omega
def agE(z zy zn:Sz):Sz:=⟨max (max z.wide (max zy.wide zn.wide)) 1,max z.deep (max zy.deep zn.deep),z.jD+zy.jD+zn.jD+2,z.jM+zy.jM+zn.jM+5⟩
theorem aai{P:Ck->Prop}{g:Co->Int->Co×Int}{gy gn:Co->Co}{z zy zn:Sz}{f:Val}{Y N:mG}(h:Mx P g z f)(hy:Mb P gy zy Y)(hn:Mb P gn zn N)(hz:0<=z.wide/\0<=zy.jD/\0<=zn.jD/\0<=zn.jM/\0<=zy.jM)(lk:Ck->Ck)(hl:∀ck,(lk ck).en=0->P ck/\lk ck=ck)(els:Bool)(hels:els=false->∀ck v p,P ck->nO ck p->nH v->N v p=.inr p):
 Ms lk (λc=>(if els then gn ((gy (((g c (-1)).1.jZ c.free).lay 2 [(g c (-1)).2])).lay 3 [])else gy (((g c (-1)).1.jZ c.free).lay 2 [(g c (-1)).2])).lay 0 []) (agE z zy zn) (D8 f Y N):=by
 intro ck c hf hx hk hw;obtain⟨hP,l2⟩:=hl ck hk;have h8:=hf.free;have hw:c.free+max (max z.wide (max zy.wide zn.wide)) 1<=2008:=hw;obtain⟨fr,r,f',e,x,w⟩:=h.lay ck c (-1) hf hP (by omega) (ji rfl);have x0:=x.r0;have x1:=x.r1;have x3:=x.r3;have xn:=x.jD;have xd:=x.deep;have xl:=x.jM;have hins:=akU (a:=r) ⟨x0,by omega⟩;have hl3:=ajc r ⟨x0,by omega⟩;have e1:=OO;have ctx1:Ctx (⟨c.code++jX fr.is++enc ⟨2,[r]⟩,c.jA,c.free⟩:Co):=⟨hx.free,hx.jE⟩;obtain⟨fy,y1,y2,y3⟩:=hy ck ⟨c.code++jX fr.is++enc ⟨2,[r]⟩,c.jA,c.free⟩ (hf.more (aV _)) ctx1 hP (by show c.free+zy.wide<=2008;omega);have yn:=y2.jD;have yd:=y2.deep;have yl:=y2.jM;have agD:=y2.low;simp only;rw[e,l2];simp only;have hco:((⟨c.code++jX fr.is,c.jA,f'⟩:Co).jZ c.free).lay 2 [r]=⟨c.code++jX fr.is++enc ⟨2,[r]⟩,c.jA,c.free⟩:=rfl;rw[hco,y1];cases els with
 |false=>
  simp only[aH,cZ];have LV:(⟨c.code++jX fr.is++enc ⟨2,[r]⟩++jX fy.is,c.jA,c.free⟩:Co).lay 0 []=⟨c.code++jX (fr.seq (Fr.ifs r fy)).is,c.jA,c.free⟩:=by
   simp only[Co.lay,Fr.seq,Fr.ifs,nI,nk,l9,enc,aX,bY,bZ,dJ]
  rw[LV,yR];refine⟨fr.seq (Fr.ifs r fy),[],rfl,by simp,FN hx rfl,FT hf rfl,⟨Fr.ug x.ok (Fr.akV hins y2.ok),by show fr.jD+(1+fy.jD)<=z.jD+zy.jD+zn.jD+2;omega,by show max fr.deep fy.deep<=max z.deep (max zy.deep zn.deep);omega,?_,?_⟩,?_⟩
  .show((jX (fr.is++(⟨2,[r]⟩::fy.is++[⟨0,[]⟩]))).length:Int)<=z.jM+zy.jM+zn.jM+5;rw[nI,aA,bZ,nk,aA,nI,aA,nk,l9,aX];omega
  .refine(x.low.wide ?_).append ?_
   .show c.free+z.wide<=c.free+max (max z.wide (max zy.wide zn.wide)) 1;omega
   .intro i hi;have hi:=hi;rcases List.mem_append.1 hi with hi|hi
    .rcases dh.1 hi with rfl|hi
     .exact⟨λ_=>by show r+1<=c.free+max (max z.wide (max zy.wide zn.wide)) 1;omega,trivial⟩
     .exact Ie (agD i hi) (by show c.free+zy.wide<=c.free+max (max z.wide (max zy.wide zn.wide)) 1;omega)
    .rw[cO.1 hi]
     trivial
  .intro v S jG k lp m p hv hS hd hll hlow hr ht;have hd:lp.length+max fr.deep fy.deep<=8:=hd;obtain⟨m1,g1,g2,g3⟩:=w v S jG k lp m hv hS.left (by omega) hll hlow.left (hr.ty hf ht);have hS2:=hS.right (x.ok.size k lp);obtain⟨i1,i2⟩:=abX (v:=v) (jG:=jG) (m:=m1) hS2.head;have hr1:uO c m1 p:=⟨by rw[BA hf g3];exact hr.env,λj j0 j1=>by rw[g3.jE j j0 (by omega) (by omega)];exact hr.jG j j0 j1,by rw[g3.jP];exact hr.jP⟩;rw[hr.val h.pq]at g2;have hsz:k+(fr.seq (Fr.ifs r fy)).size=k+fr.size+1+fy.size:=by
    show k+(fr.size+(1+fy.size))=_;omega
   rw[hsz,<-yR];refine wP.before ?_ g1 g3.len g3.uU g3.left;unfold D8;by_cases hz0:f p.env v p.jG=0
   .rw[jl hz0,hels rfl ck v p hP ht hv];exact⟨m1,i1 (by rw[g2];exact hz0),⟨hr1.env,hr1.jG,hr1.jP⟩,rfl,rfl,λ_ _=>rfl⟩
   .rw[jk hz0];have UC:kY fy.is m1.jE.length:=by
     rw[g3.len];intro i hi;exact hlow.right i (eP _ (aI _ hi))
    have:=y3 v S jG (k+fr.size+1) lp m1 p hv hS2.tail (by omega) (by rw[g3.uU];exact hll) UC ⟨hr1.env,hr1.jG,hr1.jP⟩ ht;refine wP.before (m1:=m1) ?_ (i2 (by rw[g2];exact hz0)) rfl rfl (λ_ _=>rfl);cases hY:Y v p with
    |inl q=>rw[hY]at this;exact F6 this
    |inr q=>
     rw[hY]at this;obtain⟨m2,a1,a2,a3⟩:=this;exact⟨m2,a1,⟨a2.env,a2.jG,a2.jP⟩,a3⟩
 |true=>
  simp only[dM];have ajZ:(⟨c.code++jX fr.is++enc ⟨2,[r]⟩++jX fy.is,c.jA,c.free⟩:Co).lay 3 []=⟨c.code++jX fr.is++enc ⟨2,[r]⟩++jX fy.is++enc ⟨3,[]⟩,c.jA,c.free⟩:=rfl;rw[ajZ];obtain⟨fn,n1,n2,n3⟩:=hn ck ⟨c.code++jX fr.is++enc ⟨2,[r]⟩++jX fy.is++enc ⟨3,[]⟩,c.jA,c.free⟩ (hf.more (aV _)) ⟨hx.free,hx.jE⟩ hP (by show c.free+zn.wide<=2008;omega);have nn:=n2.jD;have nd:=n2.deep;have nl:=n2.jM;have anv:=n2.low;rw[n1];have LV:(⟨c.code++jX fr.is++enc ⟨2,[r]⟩++jX fy.is++enc ⟨3,[]⟩++jX fn.is,c.jA,c.free⟩:Co).lay 0 []=⟨c.code++jX (fr.seq (Fr.Es r fy fn)).is,c.jA,c.free⟩:=by
   simp only[Co.lay,Fr.seq,Fr.Es,nI,nk,l9,enc,aX,bY,bZ,dJ,dP]
  rw[LV,yR];have e3:((enc ⟨3,[]⟩).length:Int)=1:=rfl;have y0:=y2.ok.jD;have n0:=n2.ok.jD;refine⟨fr.seq (Fr.Es r fy fn),[],rfl,by simp,FN hx rfl,FT hf rfl,⟨Fr.ug x.ok (Fr.akS hins y2.ok n2.ok),by show fr.jD+(1+max fn.jD (fy.jD+1))<=z.jD+zy.jD+zn.jD+2;omega,by show max fr.deep (max fy.deep fn.deep)<=max z.deep (max zy.deep zn.deep);omega,?_,?_⟩,?_⟩
  .show((jX (fr.is++(⟨2,[r]⟩::fy.is++(⟨3,[]⟩::fn.is++[⟨0,[]⟩])))).length:Int)<=z.jM+zy.jM+zn.jM+5;have e4:jX (fr.is++(⟨2,[r]⟩::fy.is++(⟨3,[]⟩::fn.is++[⟨0,[]⟩])))=jX fr.is++(enc ⟨2,[r]⟩++(jX fy.is++(enc ⟨3,[]⟩++(jX fn.is++enc ⟨0,[]⟩)))):=by
    simp only[nI,bZ,nk,l9,aX]
   rw[e4];simp only[aA];omega
  .refine(x.low.wide ?_).append ?_
   .show c.free+z.wide<=c.free+max (max z.wide (max zy.wide zn.wide)) 1;omega
   .intro i hi;have hi:=hi;rcases List.mem_append.1 hi with hi|hi
    .rcases dh.1 hi with rfl|hi
     .exact⟨λ_=>by show r+1<=c.free+max (max z.wide (max zy.wide zn.wide)) 1;omega,trivial⟩
     .exact Ie (agD i hi) (by show c.free+zy.wide<=c.free+max (max z.wide (max zy.wide zn.wide)) 1;omega)
    .rcases List.mem_append.1 hi with hi|hi
     .rcases dh.1 hi with rfl|hi
      .trivial
      .exact Ie (anv i hi) (by show c.free+zn.wide<=c.free+max (max z.wide (max zy.wide zn.wide)) 1;omega)
     .rw[cO.1 hi]
      trivial
  .intro v S jG k lp m p hv hS hd hll hlow hr ht;have hd:lp.length+max fr.deep (max fy.deep fn.deep)<=8:=hd;obtain⟨m1,g1,g2,g3⟩:=w v S jG k lp m hv hS.left (by omega) hll hlow.left (hr.ty hf ht);have hS2:=hS.right (x.ok.size k lp);obtain⟨i1,i2⟩:=abX (v:=v) (jG:=jG) (m:=m1) hS2.head;have hSy:=hS2.tail.left;have rM:=hS2.tail.right (y2.ok.size (k+fr.size+1) lp);have hSn:=rM.tail;have hels:=λm2:Mc=>aja (v:=v) (jG:=jG) (S:=S) (m:=m2) rM.head;have hr1:uO c m1 p:=⟨by rw[BA hf g3];exact hr.env,λj j0 j1=>by rw[g3.jE j j0 (by omega) (by omega)];exact hr.jG j j0 j1,by rw[g3.jP];exact hr.jP⟩;rw[hr.val h.pq]at g2;have hsz:k+(fr.seq (Fr.Es r fy fn)).size=k+fr.size+1+fy.size+1+fn.size:=by
    show k+(fr.size+(1+fy.size+(1+fn.size)))=_;omega
   rw[hsz,<-yR];refine wP.before ?_ g1 g3.len g3.uU g3.left;unfold D8;by_cases hz0:f p.env v p.jG=0
   .rw[jl hz0];have akp:kY fn.is m1.jE.length:=by
     rw[g3.len];intro i hi;exact hlow.right i (List.mem_append_right _ (eP _ (aI _ hi)))
    have:=n3 v S jG (k+fr.size+1+fy.size+1) lp m1 p hv hSn (by omega) (by rw[g3.uU];exact hll) akp ⟨hr1.env,hr1.jG,hr1.jP⟩ ht;refine wP.before (m1:=m1) ?_ (i1 (by rw[g2];exact hz0)) rfl rfl (λ_ _=>rfl);cases hN:N v p with
    |inl q=>rw[hN]at this;exact F6 this
    |inr q=>
     rw[hN]at this;obtain⟨m2,a1,a2,a3⟩:=this;exact⟨m2,a1,⟨a2.env,a2.jG,a2.jP⟩,a3⟩
   .rw[jk hz0];have UC:kY fy.is m1.jE.length:=by
     rw[g3.len];intro i hi;exact hlow.right i (eP _ (aI _ hi))
    have:=y3 v S jG (k+fr.size+1) lp m1 p hv hSy (by omega) (by rw[g3.uU];exact hll) UC ⟨hr1.env,hr1.jG,hr1.jP⟩ ht;refine wP.before (m1:=m1) ?_ (i2 (by rw[g2];exact hz0)) rfl rfl (λ_ _=>rfl);cases hY:Y v p with
    |inl q=>rw[hY]at this;exact F6 this
    |inr q=>
     rw[hY]at this;obtain⟨m2,a1,a2,a3,a4,a5⟩:=this;exact⟨m2,a1.trans (hels m2),⟨a2.env,a2.jG,a2.jP⟩,a3,a4,a5⟩
theorem Mb.of{P Q:Ck->Prop}{g:Co->Co}{z:Sz}{F:mG}(h:Mb Q g z F)(hp:∀ck,P ck->Q ck):Mb P g z F:=λck c hf hx hP=>h ck c hf hx (hp ck hP)
theorem Mb.ms{P:Ck->Prop}{g:Co->Co}{z z':Sz}{F G:mG}(h:Mb P g z G)(lk:Ck->Ck)(hl:∀ck,(lk ck).en=0->P ck/\lk ck=ck)(h1:z.wide<=z'.wide)(h2:z.deep<=z'.deep)(h3:z.jD<=z'.jD)(h4:z.jM<=z'.jM)(he:∀ck v p,P ck->nO ck p->nH v->F v p=G v p):Ms lk g z' F:=by
 intro ck c hf hx hk hw;obtain⟨hP,l2⟩:=hl ck hk;obtain⟨fr,q1,q2,q3⟩:=h ck c hf hx hP (by omega);rw[q1,l2,yR];refine⟨fr,[],rfl,by simp,FN hx rfl,FT hf rfl,q2.grow h1 h2 h3 h4,?_⟩;intro v S jG k lp m p hv hS hd hll hlow hr ht;rw[he ck v p hP ht hv,<-yR];exact q3 v S jG k lp m p hv hS hd hll hlow hr ht
theorem aaj{te ty tn:Int}{e:Ex}{y n:List jK}{zy zn:List (Sz×mG)}(he:QX te e)(hy:qX y zy ty)(hn:qX n zn tn)(a:Int):QS (te+ty+tn+3) (rY a e y n):=by
 obtain⟨z,f,h1,h2⟩:=he;have fy:=Ig hy;have fn:=Ig hn;have w1:=h2.wide;have w2:=fy.wide;have w3:=fn.wide;have l1:=h2.jM;have l2:=fy.jM;have l3:=fn.jM;have n1:=h2.jD;have n2:=fy.jD;have n3:=fn.jD;have t1:=h2.tok;have t2:=fy.tok;have t3:=fn.tok;have c1:=h2.jy;have c2:=rD (l:=y);obtain⟨by1,by2⟩:=Ot hy;obtain⟨bn1,bn2⟩:=Ot hn;generalize hP:(λck:Ck=>kZ e ck/\e.does.jU ck.jA=2/\(oG y ck).en=0/\(oG n ck).en=0)=P at *;have sO:∀ck,P ck↔(kZ e ck/\e.does.jU ck.jA=2/\(oG y ck).en=0/\(oG n ck).en=0):=λck=>by rw[<-hP]
 have hl:∀ck,((rY a e y n).does.look ck).en=0->P ck/\(rY a e y n).does.look ck=ck:=λck hk=>by
  have e0:(rY a e y n).does.look ck=qC n (qC y ((e.does.look ck).want (e.does.jU ck.jA) e.at' 2)):=rfl;rw[e0]at hk;obtain⟨q1,q2,q3⟩:=Vk hn hk;obtain⟨r1,r2,r3⟩:=Vk hy q3;obtain⟨s1,s2,s3⟩:=zQ r3;have s4:=h1.look ck s3;rw[s2,s4]at r1 r2;rw[s2,s4,r1]at q1 q2;rw[e0,s2,s4,r1];exact⟨(sO ck).2 ⟨s3,s1,r2,q2⟩,q1⟩
 have hg:=h1.give.of λck hk=>((sO ck).1 hk).1;have hfo:=h1.fold.of λck hk=>((sO ck).1 hk).1;have By1:Mb P (kU y) (kC zy) (qH (oZ (zy.map (·.2)))):=by1.of λck hk=>((sO ck).1 hk).2.2.1;have YP:Mb P (kU (kS y)) (kC zy) (qH (oZ (zy.map (·.2)))):=by2.of λck hk=>((sO ck).1 hk).2.2.1;have Bn1:=bn1.of λck hk=>((sO ck).1 hk).2.2.2;have YO:=bn2.of λck hk=>((sO ck).1 hk).2.2.2;have hz:=jg w1.1 (jg n2 (jg n3 (jg l3.1 l2.1)));have hidle:=λck v p (hk:P ck)(ht:nO ck p)(hv:nH v)(h0:(kS n).length=0)=>Tv hn h0 ((sO ck).1 hk).2.2.2 ht hv;have abI:=λck v p (hk:P ck)(ht:nO ck p)(hv:nH v)(h0:(kS y).length=0)=>Tv hy h0 ((sO ck).1 hk).2.2.1 ht hv;have hfs:(rY a e y n).does.fs=(zB e y n).fs:=rfl;have hval:=λ(hkn:e.does.fd.known=true) ck v p (hk:P ck)(ht:nO ck p)(hv:nH v)=>(Vd h1 hkn ((sO ck).1 hk).1).2.1 p.env v p.jG ht hv;refine⟨agE z (kC zy) (kC zn),D8 f (qH (oZ (zy.map (·.2)))) (qH (oZ (zn.map (·.2)))),⟨λck hk=>JB (hl ck hk).2 hk,?_,λhni=>?_,λck v p p' hk ht hv hF=>?_,λhi ck hk=>?_,λhen ck v p hk ht hv=>?_⟩,?_⟩
 .have hm:=aai hg By1 Bn1 hz _ hl (decide (0<n.length)) (λhd ck v p hk ht hv=>hidle ck v p hk ht hv (by
   have:n=[]:=dW (by have:=of_decide_eq_false hd;omega);rw[this]
   rfl))
  have e1:(rY a e y n).does.lay=(λc=>(if decide (0<n.length)then kU n ((kU y (((e.does.give c (-1)).1.jZ c.free).lay 2 [(e.does.give c (-1)).2])).lay 3 [])else kU y (((e.does.give c (-1)).1.jZ c.free).lay 2 [(e.does.give c (-1)).2])).lay 0 []):=by
   funext c
   show(if 0<n.length then kU n ((kU y (((e.does.give c (-1)).1.jZ c.free).lay 2 [(e.does.give c (-1)).2])).lay 3 [])else kU y (((e.does.give c (-1)).1.jZ c.free).lay 2 [(e.does.give c (-1)).2])).lay 0 []=_;by_cases h0:0<n.length
   .rw[jl h0,jl (dR h0)]
   .rw[jk h0,jk (by simpa using h0)]
  rw[e1];exact hm
 .rw[hfs];simp only[zB];cases hkn:e.does.fd.known with
  |true=>
   simp only[dM];by_cases h0:e.does.fd.val=0
   .simp only[h0,dM];refine YO.ms _ hl (by show(kC zn).wide<=max (max z.wide (max (kC zy).wide (kC zn).wide)) 1;omega) (by show(kC zn).deep<=max z.deep (max (kC zy).deep (kC zn).deep);omega) (by show(kC zn).jD<=z.jD+(kC zy).jD+(kC zn).jD+2;omega) (by show(kC zn).jM<=z.jM+(kC zy).jM+(kC zn).jM+5;omega) λck v p hk ht hv=>?_;unfold D8;rw[hval hkn ck v p hk ht hv,jl h0]
   .simp only[h0,cZ];refine YP.ms _ hl (by show(kC zy).wide<=max (max z.wide (max (kC zy).wide (kC zn).wide)) 1;omega) (by show(kC zy).deep<=max z.deep (max (kC zy).deep (kC zn).deep);omega) (by show(kC zy).jD<=z.jD+(kC zy).jD+(kC zn).jD+2;omega) (by show(kC zy).jM<=z.jM+(kC zy).jM+(kC zn).jM+5;omega) λck v p hk ht hv=>?_;unfold D8;rw[hval hkn ck v p hk ht hv,jk h0]
  |false=>
   simp only[aH,cZ];have hm:=aai hfo YP YO hz _ hl (decide (0<(kS n).length)) (λhd ck v p hk ht hv=>hidle ck v p hk ht hv (by have:=of_decide_eq_false hd;omega));have e1:(λc:Co=>(if 0<(kS n).length then kU (kS n) ((kU (kS y) (((e.does.fd.give c (-1)).1.jZ c.free).lay 2 [(e.does.fd.give c (-1)).2])).lay 3 [])else kU (kS y) (((e.does.fd.give c (-1)).1.jZ c.free).lay 2 [(e.does.fd.give c (-1)).2])).lay 0 [])=(λc=>(if decide (0<(kS n).length)then kU (kS n) ((kU (kS y) (((e.does.fd.give c (-1)).1.jZ c.free).lay 2 [(e.does.fd.give c (-1)).2])).lay 3 [])else kU (kS y) (((e.does.fd.give c (-1)).1.jZ c.free).lay 2 [(e.does.fd.give c (-1)).2])).lay 0 []):=by
    funext c
    by_cases h0:0<(kS n).length
    .rw[jl h0,jl (dR h0)]
    .rw[jk h0,jk (by simpa using h0)]
   rw[e1];exact hm
 .obtain⟨hk1,hk2⟩:=hl ck hk;rw[hk2];unfold D8 at hF;split at hF
  .exact Tz hn ((sO ck).1 hk1).2.2.2 ht hv hF
  .exact Tz hy ((sO ck).1 hk1).2.2.1 ht hv hF
 .obtain⟨hk1,hk2⟩:=hl ck hk;refine⟨hk2,λv p ht hv=>?_⟩;rw[hfs]at hi;simp only[zB]at hi;unfold D8;cases hkn:e.does.fd.known with
  |true=>
   rw[hkn]at hi;simp only[dM]at hi;rw[hval hkn ck v p hk1 ht hv];by_cases h0:e.does.fd.val=0
   .rw[jl h0];simp only[h0,dM,decide_eq_true_eq]at hi;exact hidle ck v p hk1 ht hv hi
   .rw[jk h0];simp only[h0,cZ,decide_eq_true_eq]at hi;exact abI ck v p hk1 ht hv hi
  |false=>
   rw[hkn]at hi;simp only[aH,cZ,dD,decide_eq_true_eq]at hi;rw[hidle ck v p hk1 ht hv hi.2,abI ck v p hk1 ht hv hi.1];split<;>rfl
 .obtain⟨hk1,hk2⟩:=hl ck hk;rw[hfs]at hen;simp only[zB]at hen;have hN:=λ(h:uy (kS n)=true)=>ZN hn h ((sO ck).1 hk1).2.2.2 ht hv;have hY:=λ(h:uy (kS y)=true)=>ZN hy h ((sO ck).1 hk1).2.2.1 ht hv;unfold D8;cases hkn:e.does.fd.known with
  |true=>
   rw[hkn]at hen;simp only[dM]at hen;rw[hval hkn ck v p hk1 ht hv];by_cases h0:e.does.fd.val=0
   .rw[jl h0];simp only[h0,dM]at hen;exact hN hen
   .rw[jk h0];simp only[h0,cZ]at hen;exact hY hen
  |false=>
   rw[hkn]at hen;simp only[aH,cZ,dD]at hen;split
   .exact hN hen.2
   .exact hY hen.1
 .have py:∀s∈y,1<=s.jy:=λs hs=>(fy.pos s hs).1;have pn:∀s∈n,1<=s.jy:=λs hs=>(fn.pos s hs).1;have sb:∀{l:List jK},(∀s∈l,1<=s.jy/\s.jy<=1000001)->0<=kN l/\kN l<=1000001:=λ{l} hp=>by
   have:∀(l:List jK)(a:Int),(∀s∈l,1<=s.jy/\s.jy<=1000001)->0<=a/\a<=1000001->0<=l.foldl (λa e=>lg [a,e.jy]) a/\l.foldl (λa e=>lg [a,e.jy]) a<=1000001:=by
    intro l;induction l with
    |nil=>intro a _ h;exact h
    |cons s l ih=>
     intro a hp h;have hs:=hp s (aW ..);exact ih _ (λx hx=>hp x (aI _ hx)) (xQ _ (by simp;omega))
   exact this l 0 hp (by omega)
  have cy:=sb fy.pos;have cn:=sb fn.pos;refine⟨by omega,⟨by show 1<=max (max z.wide (max (kC zy).wide (kC zn).wide)) 1;omega,by show 2 * max (max z.wide (max (kC zy).wide (kC zn).wide)) 1<=te+ty+tn+3;omega⟩,⟨by show 0<=z.jM+(kC zy).jM+(kC zn).jM+5;omega,by show z.jM+(kC zy).jM+(kC zn).jM+5<=20 * (te+ty+tn+3);omega⟩,by show 0<=z.jD+(kC zy).jD+(kC zn).jD+2;omega,⟨xK (by simp;exact⟨c1,cy,cn⟩),(Io c1 cy cn).2⟩,λhk=>?_⟩;have hk:jS [e.jy,kN y,kN n]<=1000000:=hk;have hp:=V4 c1.1 c1.2 cy.1 cy.2 cn.1 cn.2 hk;have ey:=Gu py (by omega);have en':=Gu pn (by omega);obtain⟨a1,a2⟩:=h2.all (by omega);obtain⟨b1,b2⟩:=fy.all (by omega);obtain⟨d1,d2⟩:=fn.all (by omega);have c3:=fy.jy;have c4:=fn.jy;show z.jD+(kC zy).jD+(kC zn).jD+2<=40 * jS [e.jy,kN y,kN n]/\((8^max z.deep (max (kC zy).deep (kC zn).deep):Nat):Int)<=jS [e.jy,kN y,kN n]+1;rw[hp];refine⟨by omega,?_⟩;rcases gX z.deep (max (kC zy).deep (kC zn).deep)with hh|hh
  .rw[gG hh];rcases gX (kC zy).deep (kC zn).deep with h'|h'
   .rw[gG h'];omega
   .rw[gV h'];omega
  .rw[gV hh];omega
theorem arw{v:Vw}{S:List St}{jG:List Int}{k lC:Nat}{list a b:Int}{d:Nat}(Inv:List Int->Mc->Prop)(E:Out->Prop)
 (hbody:∀(i x:Int)(rest:List Int)(m:Mc),0<=i->i<64->Inv (i::rest) m->(∃m2,Reaches v S jG (k+1) ((m.put a i).lU d x) (kR (mg list a b d lC) k m2).2.toNat (kR (mg list a b d lC) k m2).1/\m2.mV d=x/\Inv rest m2)\/∃o,Bh v S jG (k+1) ((m.put a i).lU d x) o/\E o):
 ∀(n:Nat)(x:Int)(m:Mc),x.toNat<=n->0<=x->x<18446744073709551616->m.mV d=x->Inv (bitsOf x) m->(∃m',Reaches v S jG (kR (mg list a b d lC) k m).2.toNat (kR (mg list a b d lC) k m).1 lC m'/\Inv [] m')\/∃o,Bh v S jG (kR (mg list a b d lC) k m).2.toNat (kR (mg list a b d lC) k m).1 o/\E o:=by
 intro n;induction n with
 |zero=>
  intro x m hn h0 _ hx hI;have:x=0:=by omega
  subst this;have e:kR (mg list a b d lC) k m=(m,(lC:Int)):=by unfold kR;rw[jl (by exact hx)];rfl
  rw[e];exact ji ⟨m,Reaches.refl _ _ _ _ _,hI⟩
 |succ n ih=>
  intro x m hn h0 h1 hx hI;rcases Int.lt_or_eq_of_le h0 with hp|hz
  .have h2:=Lm hp h1;have ht:=Xc hp h1;rw[ZL hp h1]at hI;have e:kR (mg list a b d lC) k m=((m.put a (tz x)).lU d (yQ x),(k:Int)+1):=by
    have hx':m.mV (mg list a b d lC).depth=x:=hx;unfold kR;rw[hx',jk (by omega)]
    rfl
   rw[e];rw[show((k:Int)+1).toNat=k+1 by omega];rcases hbody (tz x) (yQ x) _ m ht.1 ht.2 hI with⟨m2,g1,g2,g3⟩|hs
   .rcases ih (yQ x) m2 (by omega) h2.1 (by omega) g2 g3 with⟨m',q1,q2⟩|⟨o,q1,q2⟩
    .exact ji ⟨m',g1.trans q1,q2⟩
    .exact jh ⟨o,g1.stops q1,q2⟩
   .exact jh hs
  .subst hz;have e:kR (mg list a b d lC) k m=(m,(lC:Int)):=by unfold kR;rw[jl (by exact hx)];rfl
   rw[e];exact ji ⟨m,Reaches.refl _ _ _ _ _,hI⟩
def yZ(t:jm)(B:mG)(v:Vw):List Int->oz->Option oz⊕oz
 |[],p=>.inr p
 |i::is,p=>match B v {p with env:=p.env++[(t,i)]}with
  | .inl r=>.inl r
  | .inr p'=>yZ t B v is {p' with env:=p'.env.take p.env.length}
def aaC(list:Int)(fs:List (Wd×Ex))(zs:List (Sz×Val))(t:jm)(B:mG):mG:=λv p=>yZ t B v (bitsOf (pU (bits .and .i64 (uY list fs zs p.env v p.jG) (v.all list)))) p
def EZ(jG:List Int):Option oz->Out->Prop
 |none,o=>o=⟨1,jG,[]⟩
 |some p,o=>o.status=0/\(∀i:Nat,i<8->o.jG.getD i 0=p.jG i)/\o.jP=p.jP
theorem Ve{c':Co}{d:Nat}{v:Vw}{S:List St}{jG:List Int}{k:Nat}{m:Mc}{lC:Nat}{r:Option oz}:wP c' d v S jG k m lC (.inl r)↔∃o,Bh v S jG k m o/\EZ jG r o:=by
 cases r with
 |none=>
  constructor
  .intro h;exact⟨_,h,rfl⟩
  .rintro⟨o,h1,h2⟩;have h2:=h2;subst h2;exact h1
 |some p=>exact Iff.rfl
theorem ai9{ck:Ck}{c:Co}{t:jm}{kind list:Int}{B:mG}{fb:Fr}{code aiW:List Int}(hf:Fit ck c)(hk:kind≠2)(hok:fb.Ok false)
 (hb:yG (ck.add t kind false) ⟨code,c.jA++[(t,c.free)],c.free+1⟩ ⟨aiW,c.jA++[(t,c.free)],c.free+1⟩ fb B)(hty:∀v p p',nO (ck.add t kind false) p->nH v->B v p=.inr p'->nO (ck.add t kind false) p')
 {v:Vw}{S:List St}{jG:List Int}{k:Nat}{lp:List Int}{m:Mc}{p:oz}(hv:nH v)(hS:sK S k ((Fr.loop list c.free c.free fb).jC k lp))(hd:lp.length+(fb.deep+1)<=8)(hll:m.left.length=8)(hlow:kY (Fr.loop list c.free c.free fb).is m.jE.length)(hr:uO c m p)(ht:nO ck p):
 wP c lp.length v S jG k m (k+(Fr.loop list c.free c.free fb).size) (yZ t B v (bitsOf (pU (bits .and .i64 (m.get c.free) (v.all list)))) p):=by
 have h8:=hf.free;have hL:=hS.head;have hSb:=hS.tail.left;have rM:=(hS.tail.right (hok.size _ _)).head;have PL:kY fb.is m.jE.length:=λi hi=>hlow i (eP _ (aI _ hi));have hfree:c.free<m.jE.length:=by
  have:=(hlow ⟨4,[list,c.free,c.free]⟩ (eP _ (aW ..))).2.1 rfl;omega
 have asz:p.env.length=c.jA.length:=by rw[<-hr.env];simp[lu]
 have asl:=hf.lens;have akF:∀(R:Option oz⊕oz)(i x:Int)(rest:List Int)(m1:Mc)(p1:oz),0<=i->i<64->uO c m1 p1->nO ck p1->m1.jE.length=m.jE.length->m1.left.length=m.left.length->(∀j:Nat,j<lp.length->m1.mV j=m.mV j)->yZ t B v (i::rest) p1=R->
  (∃m2,Reaches v S jG (k+1) ((m1.put c.free i).lU (lp.length:Nat) x) (kR (mg list c.free c.free lp.length ((k+1+fb.size+1:Nat):Int)) k m2).2.toNat (kR (mg list c.free c.free lp.length ((k+1+fb.size+1:Nat):Int)) k m2).1/\m2.mV (lp.length:Nat)=x/\∃p2,uO c m2 p2/\nO ck p2/\m2.jE.length=m.jE.length/\m2.left.length=m.left.length/\(∀j:Nat,j<lp.length->m2.mV j=m.mV j)/\yZ t B v rest p2=R)\/∃o,Bh v S jG (k+1) ((m1.put c.free i).lU (lp.length:Nat) x) o/\∃r,R=.inl r/\EZ jG r o:=by
  intro R i x rest m1 p1 i0 i1 hr1 ht1 a1 a2 a3 hR;have hgo:((m1.put c.free i).lU (lp.length:Nat) x).get c.free=i:=vG _ _ _ (by omega) (by rw[a1];exact hfree);have hgl:((m1.put c.free i).lU (lp.length:Nat) x).mV (lp.length:Nat)=x:=Qb _ _ _ (by show lp.length<m1.left.length;rw[a2];omega);have hgs:∀j,0<=j->j<c.free->((m1.put c.free i).lU (lp.length:Nat) x).get j=m1.get j:=λj j0 j1=>BD m1 j c.free i j0 (by omega) (by omega);have hgj:∀j:Nat,j<lp.length->((m1.put c.free i).lU (lp.length:Nat) x).mV j=m1.mV j:=λj hj=>Qa _ _ _ _ (by omega);have abD:((m1.put c.free i).lU (lp.length:Nat) x).jE.length=m1.jE.length:=Du _ _ _;have abE:((m1.put c.free i).lU (lp.length:Nat) x).left.length=m1.left.length:=aez _ _ _;have akh:((m1.put c.free i).lU (lp.length:Nat) x).jP=m1.jP:=rfl;generalize (m1.put c.free i).lU (lp.length:Nat) x=mb at *;have hrb:uO ⟨code,c.jA++[(t,c.free)],c.free+1⟩ mb {p1 with env:=p1.env++[(t,i)]}:=by
   refine⟨?_,λj j0 j1=>by rw[hgs j j0 (by omega)];exact hr1.jG j j0 j1,by rw[akh];exact hr1.jP⟩;rw[<-hr1.env];unfold lu;rw[dF];show c.jA.map (λn=>(n.1,mb.get n.2))++[(t,mb.get c.free)]=_;rw[hgo]
   congr 1
   refine List.map_congr_left λn hn=>?_;have:=hf.jE n hn;rw[hgs n.2 this.1 this.2]
  have htb:nO (ck.add t kind false) {p1 with env:=p1.env++[(t,i)]}:=pJ.know ht1 (by unfold jO;omega) λe=>jq e hk;have h1:=hb v S jG (k+1) (lp++[(k:Int)]) mb _ hv hSb (by rw[aA,eG];omega) (by rw[abE,a2];exact hll) (by rw[abD,a1];exact PL) hrb htb;rw[aA,eG]at h1;have hR':(match B v {p1 with env:=p1.env++[(t,i)]}with| .inl r=>.inl r| .inr p'=>yZ t B v rest {p' with env:=p'.env.take p1.env.length})=R:=hR;cases hB:B v {p1 with env:=p1.env++[(t,i)]}with
  |inl r=>
   rw[hB]at h1 hR';obtain⟨o,o1,o2⟩:=Ve.1 h1;exact jh ⟨o,o1,r,hR'.symm,o2⟩
  |inr p2=>
   rw[hB]at h1 hR';obtain⟨m2,g1,g2,g3,g4,g5⟩:=h1;refine ji ⟨m2,g1.trans (aaJ hL rM),(g5 lp.length (by omega)).trans hgl,{p2 with env:=p2.env.take p1.env.length},⟨?_,g2.jG,g2.jP⟩,?_,by rw[g3,abD,a1],by rw[g4,abE,a2],λj hj=>(g5 j (by omega)).trans ((hgj j hj).trans (a3 j hj)),hR'⟩
   .show lu c m2.get=p2.env.take p1.env.length;have hl1:p1.env.length=c.jA.length:=by rw[<-hr1.env];simp[lu]
    rw[hl1,<-g2.env];unfold lu;rw[dF,List.take_left' (by simp)]
   .have h2:=hty v _ p2 htb hv hB;have hl1:p1.env.length=ck.jA.length:=by rw[<-hr1.env];simp[lu];omega
    rw[hl1];exact pJ.take h2
 have hu:=EU (bits .and .i64 (m.get c.free) (v.all list));generalize hmask:pU (bits .and .i64 (m.get c.free) (v.all list))=mask at *;generalize ajS:yZ t B v (bitsOf mask) p=R;have Pv:rG v (mg list c.free c.free lp.length ((k+1+fb.size+1:Nat):Int)) m=m.lU (lp.length:Nat) mask:=by
  unfold rG;show m.lU (lp.length:Nat) (pU (bits .and .i64 (m.get c.free) (v.all list)))=_;rw[hmask]
 have hgoes:=arw (v:=v) (S:=S) (jG:=jG) (k:=k) (lC:=k+1+fb.size+1) (list:=list) (a:=c.free) (b:=c.free) (d:=lp.length) (λrest m1=>∃p1,uO c m1 p1/\nO ck p1/\m1.jE.length=m.jE.length/\m1.left.length=m.left.length/\(∀j:Nat,j<lp.length->m1.mV j=m.mV j)/\yZ t B v rest p1=R) (λo=>∃r,R=.inl r/\EZ jG r o)
  (λi x rest m1 i0 i1 hI=>by
    obtain⟨p1,b1,b2,b3,b4,b5,b6⟩:=hI;exact akF R i x rest m1 p1 i0 i1 b1 b2 b3 b4 b5 b6)
  mask.toNat mask (m.lU (lp.length:Nat) mask) (aj _) hu.1 hu.2 (Qb _ _ _ (by omega)) ⟨p,⟨hr.env,hr.jG,hr.jP⟩,ht,rfl,aez _ _ _,λj hj=>Qa _ _ _ _ (by omega),ajS⟩
 have hpos:0<=(kR (mg list c.free c.free lp.length ((k+1+fb.size+1:Nat):Int)) k (m.lU (lp.length:Nat) mask)).2:=by
  unfold kR;split
  .show(0:Int)<=((k+1+fb.size+1:Nat):Int);omega
  .show(0:Int)<=(k:Int)+1;omega
 have hfirst:Reaches v S jG k m (kR (mg list c.free c.free lp.length ((k+1+fb.size+1:Nat):Int)) k (m.lU (lp.length:Nat) mask)).2.toNat (kR (mg list c.free c.free lp.length ((k+1+fb.size+1:Nat):Int)) k (m.lU (lp.length:Nat) mask)).1:=by
  refine Ac hL ?_;unfold Hx.step;rw[jk (by show¬(4:Int)=1;omega),jk (by show¬(4:Int)=2;omega),jk (by show¬(4:Int)=3;omega),jl (by rfl),Pv];rw[iH hpos]
 have hsz:k+(Fr.loop list c.free c.free fb).size=k+1+fb.size+1:=by
  show k+(1+fb.size+1)=_;omega
 rw[hsz];rcases hgoes with⟨m',q1,p1,b1,b2,b3,b4,b5,b6⟩|⟨o,q1,r,e1,e2⟩
 .have b6:=b6;rw[<-b6];exact⟨m',hfirst.trans q1,b1,b3,b4,b5⟩
 .rw[e1];exact Ve.2 ⟨o,hfirst.stops q1,e2⟩
theorem ai0{c:Co}(hx:Ctx c)(code:List Int)(t:jm):Ctx ⟨code,c.jA++[(t,c.free)],c.free+1⟩:=by
 refine⟨?_,λj n hj=>?_⟩
 .show c.free+1=8+((c.jA++[(t,c.free)]).length:Int);have:=hx.free;simp;omega
 .have hj:=hj;rcases dG j c.jA.length with hlt|hge
  .rw[aT hlt]at hj;exact hx.jE j n hj
  .rw[bW hge]at hj;rcases gJ (j-c.jA.length)with h0|h0
   .rw[h0]at hj;simp only[dw,bJ]at hj;subst hj;have:=hx.free;omega
   .rw[bV (by simp;omega)]at hj;cases hj
theorem aeS{ck:Ck}{kind:Int}(hk:kind≠2){t:jm}{B:mG}{v:Vw}(hv:nH v)(hty:∀p p',nO (ck.add t kind false) p->B v p=.inr p'->nO (ck.add t kind false) p'):∀(is:List Int)(p p':oz),(∀i∈is,0<=i/\i<64)->nO ck p->yZ t B v is p=.inr p'->nO ck p'
 |[],p,p',_,ht,hF=>by
  cases hF;exact ht
 |i::is,p,p',hi,ht,hF=>by
  have hF:(match B v {p with env:=p.env++[(t,i)]}with| .inl r=>(Sum.inl r:Option oz⊕oz)| .inr p'=>yZ t B v is {p' with env:=p'.env.take p.env.length})=.inr p':=hF;have h0:=hi i (aW ..);have htb:nO (ck.add t kind false) {p with env:=p.env++[(t,i)]}:=pJ.know ht (by unfold jO;omega) λe=>jq e hk;cases hB:B v {p with env:=p.env++[(t,i)]}with
  |inl r=>rw[hB]at hF;cases hF
  |inr p1=>
   rw[hB]at hF;refine aeS hk hv hty is _ p' (λj hj=>hi j (aI _ hj)) ?_ hF;have h2:=hty _ p1 htb hB;have hl:p.env.length=ck.jA.length:=by have:=congrArg List.length ht.jA;simp at this;omega
   rw[hl];exact pJ.take h2
theorem aeR{ck:Ck}{kind:Int}(hk:kind≠2){t:jm}{B:mG}{v:Vw}(hid:∀p,nO (ck.add t kind false) p->B v p=.inr p):∀(is:List Int)(p:oz),(∀i∈is,0<=i/\i<64)->nO ck p->yZ t B v is p=.inr p
 |[],_,_,_=>rfl
 |i::is,p,hi,ht=>by
  have h0:=hi i (aW ..);have htb:nO (ck.add t kind false) {p with env:=p.env++[(t,i)]}:=pJ.know ht (by unfold jO;omega) λe=>jq e hk;show(match B v {p with env:=p.env++[(t,i)]}with| .inl r=>(Sum.inl r:Option oz⊕oz)| .inr p'=>yZ t B v is {p' with env:=p'.env.take p.env.length})=.inr p;rw[hid _ htb];simp only[iM];exact aeR hk hid is p (λj hj=>hi j (aI _ hj)) ht
theorem ac8(v:Vw)(x list:Int):∀i∈bitsOf (pU (bits .and .i64 x (v.all list))),0<=i/\i<64:=by
 have hu:=EU (bits .and .i64 x (v.all list));exact Tt _ _ hu.1 hu.2
theorem acX{P:Ck->Prop}{kind W list:Int}{D:Nat}(hk:kind≠2)(hl:0<=list/\list<3){fs Hq:List (Wd×Ex)}{zs zs0:List (Sz×Val)}{t:jm}{gb:Co->Co}{zb:Sz}{B:mG}(hfs:∀ck,P ck->zh ck kind fs zs)(hz:∀p∈zs,p.1.wide<=W/\p.1.deep<=D)(hzl:0<=mP zs)(hW:0<=W)(hb:Mb (λwB=>∃ck,P ck/\wB=ck.add t kind false) gb zb B)(hzb:0<=zb.wide)
 (hsame:∀ck en v σ,P ck->pJ ck en σ->nH v->uY list fs zs en v σ=uY list Hq zs0 en v σ)(hty:∀ck v p p',P ck->nO (ck.add t kind false) p->nH v->B v p=.inr p'->nO (ck.add t kind false) p')(lk:Ck->Ck)(hlk:∀ck,(lk ck).en=0->P ck/\lk ck=ck):
 Ms lk (λc=>(((gb (((c.mW list fs).1.lay 4 [list,(c.mW list fs).2,(c.mW list fs).2]).know t (c.mW list fs).2)).lay 0 []).cut c.jA.length).jZ c.free) ⟨max (2+W) (1+zb.wide),max (if fs.length=0 then 0 else D+1) (zb.deep+1),(if fs.length=0 then 1 else 3+Hx.kQ list * (lT zs+2))+(1+Hx.kQ list * (zb.jD+1)),mP zs+zb.jM+27⟩ (aaC list Hq zs0 t B):=by
 intro ck c hf hx hkk hw;obtain⟨hP,l2⟩:=hlk ck hkk;have h8:=hf.free;have hw:c.free+max (2+W) (1+zb.wide)<=2008:=hw;obtain⟨fr,q1,q2,q3,q4,q5,q6,q7⟩:=aaU (ck:=ck) (kind:=kind) (W:=W) (D:=D) hk hl (hfs ck hP) hz hzl hW c hf (by omega);obtain⟨fb,b1,b2,b3⟩:=hb (ck.add t kind false) ⟨c.code++jX fr.is++enc ⟨4,[list,c.free,c.free]⟩,c.jA++[(t,c.free)],c.free+1⟩ (Fit.know (c:=⟨c.code++jX fr.is++enc ⟨4,[list,c.free,c.free]⟩,c.jA,c.free+1⟩) (hf.more (by omega)) (by omega) (by show c.free<c.free+1;omega)) (ai0 hx _ t) ⟨ck,hP,rfl⟩ (by show c.free+1+zb.wide<=2008;omega);have bn:=b2.jD;have bd:=b2.deep;have bl:=b2.jM;have blow:=b2.low;simp only;rw[q1,l2];simp only;have ajY:((⟨c.code++jX fr.is,c.jA,c.free+1⟩:Co).lay 4 [list,c.free,c.free]).know t c.free=⟨c.code++jX fr.is++enc ⟨4,[list,c.free,c.free]⟩,c.jA++[(t,c.free)],c.free+1⟩:=rfl;rw[ajY,b1];have LV:(((⟨c.code++jX fr.is++enc ⟨4,[list,c.free,c.free]⟩++jX fb.is,c.jA++[(t,c.free)],c.free+1⟩:Co).lay 0 []).cut c.jA.length).jZ c.free=⟨c.code++jX (fr.seq (Fr.loop list c.free c.free fb)).is,c.jA,c.free⟩:=by
  simp only[Co.lay,Co.cut,Co.jZ,Fr.seq,Fr.loop,nI,nk,l9,enc,aX,bY,bZ,dJ,iM]
 rw[LV,yR];have hins:=acW (a:=c.free) (b:=c.free) (list:=list) (by omega) (by omega) (by omega) (by omega) hl;have hlen:=aaI list c.free c.free ⟨by omega,by omega⟩ ⟨by omega,by omega⟩ hl;have e1:=OO;refine⟨fr.seq (Fr.loop list c.free c.free fb),[],rfl,by simp,FN hx rfl,FT hf rfl,⟨Fr.ug q2 (Fr.acY hins b2.ok.inside),?_,?_,?_,?_⟩,?_⟩
 .show fr.jD+(1+Hx.kQ list * (fb.jD+1))<=(if fs.length=0 then 1 else 3+Hx.kQ list * (lT zs+2))+(1+Hx.kQ list * (zb.jD+1));have:Hx.kQ list * (fb.jD+1)<=Hx.kQ list * (zb.jD+1):=fB (by omega) (by have:=Jy list;omega);omega
 .show max fr.deep (fb.deep+1)<=max (if fs.length=0 then 0 else D+1) (zb.deep+1);omega
 .show((jX (fr.is++(⟨4,[list,c.free,c.free]⟩::fb.is++[⟨0,[]⟩]))).length:Int)<=mP zs+zb.jM+27;rw[nI,aA,bZ,nk,aA,nI,aA,nk,l9,aX];omega
 .refine(q6.wide ?_).append ?_
  .show c.free+(2+W)<=c.free+max (2+W) (1+zb.wide);omega
  .intro i hi;have hi:=hi;rcases List.mem_append.1 hi with hi|hi
   .rcases dh.1 hi with rfl|hi
    .exact⟨(λe=>by cases e),λ_=>by show c.free+1<=c.free+max (2+W) (1+zb.wide);omega,λ_=>by show c.free+1<=c.free+max (2+W) (1+zb.wide);omega,trivial⟩
    .exact Ie (blow i hi) (by show c.free+1+zb.wide<=c.free+max (2+W) (1+zb.wide);omega)
   .rw[cO.1 hi]
    trivial
 .intro v S jG k lp m p hv hS hd hll hlow hr ht;have hd:lp.length+max fr.deep (fb.deep+1)<=8:=hd;obtain⟨m1,g1,g2,g3⟩:=q7 v S jG k lp m hv hS.left (by omega) hll hlow.left (hr.ty hf ht);have hr1:uO c m1 p:=⟨by rw[BA hf g3];exact hr.env,λj j0 j1=>by rw[g3.jE j j0 (by omega) (by omega)];exact hr.jG j j0 j1,by rw[g3.jP];exact hr.jP⟩;have hea:=ai9 (ck:=ck) (c:=c) (t:=t) (kind:=kind) (list:=list) (B:=B) (fb:=fb) hf hk b2.ok b3 (λv p p' h1 h2 h3=>hty ck v p p' hP h1 h2 h3) (jG:=jG) hv (hS.right (q2.size k lp)) (by omega) (by rw[g3.uU];exact hll) (by rw[g3.len];exact hlow.right) hr1 ht;have hval:m1.get c.free=uY list Hq zs0 p.env v p.jG:=by
   rw[g2,hr.env,afi (hfs ck hP).pq p.env v m.get p.jG hr.jG];exact hsame ck p.env v p.jG hP ht hv
  rw[hval]at hea;have hsz:k+(fr.seq (Fr.loop list c.free c.free fb)).size=k+fr.size+(Fr.loop list c.free c.free fb).size:=by
   show k+(fr.size+(Fr.loop list c.free c.free fb).size)=_;omega
  rw[hsz,<-yR];refine wP.before ?_ g1 g3.len g3.uU g3.left;show wP _ _ v S jG _ m1 _ (yZ t B v (bitsOf (pU (bits .and .i64 (uY list Hq zs0 p.env v p.jG) (v.all list)))) p);cases hR:yZ t B v (bitsOf (pU (bits .and .i64 (uY list Hq zs0 p.env v p.jG) (v.all list)))) p with
  |inl q=>rw[hR]at hea;exact F6 hea
  |inr q=>
   rw[hR]at hea;obtain⟨m2,a1,a2,a3⟩:=hea;exact⟨m2,a1,⟨a2.env,a2.jG,a2.jP⟩,a3⟩
theorem amN{ts tl:Int}{x:Sx}{l:List jK}{zb:List (Sz×mG)}(hx:CP x ts)(hl:qX l zb tl)(a:Int)(b:Wd):QS (ts+tl+4) (tK a b x l):=by
 obtain⟨zs,tf,cs,h1,h2,h3⟩:=hx.ex;obtain⟨W,D,q⟩:=O6 h1;have hof:x.of≠2:=by have:=hx.of;omega
 have hlist:0<=jQ x.base/\jQ x.base<3:=by unfold jQ;split<;>(try split)<;>omega
 have fl:=Ig hl;obtain⟨bl1,bl2⟩:=Ot hl;generalize hPP:(λck:Ck=>(∀bb∈x.jF,kZ bb.2 (ck.add bb.1.text x.of false))/\(oG l (ck.add b.text x.of false)).en=0)=P at *;have sO:∀ck,P ck↔((∀bb∈x.jF,kZ bb.2 (ck.add bb.1.text x.of false))/\(oG l (ck.add b.text x.of false)).en=0):=λck=>by rw[<-hPP]
 have hlk:∀ck,((tK a b x l).does.look ck).en=0->P ck/\(tK a b x l).does.look ck=ck:=λck hk=>by
  have e0:(tK a b x l).does.look ck=(qC l ((nM x.of x.jF (ck.mD b.text b.at')).add b.text x.of false)).cut (nM x.of x.jF (ck.mD b.text b.at')).jA.length:=rfl;rw[e0]at hk;obtain⟨r1,r2,r3⟩:=Vk hl (show(qC l ((nM x.of x.jF (ck.mD b.text b.at')).add b.text x.of false)).en=0 from hk);obtain⟨s1,s2⟩:=Ql (O8 h1) (show(nM x.of x.jF (ck.mD b.text b.at')).en=0 from r3);have r3':(ck.mD b.text b.at').en=0:=by
   have r4:=r3;rw[s1]at r4;exact r4
  obtain⟨_,u2,u3⟩:=VE r3';rw[s1,u2]at r1 r2;rw[u2]at s1 s2;rw[e0,u2,s1,r1];refine⟨(sO ck).2 ⟨λbb hb=>(s2 bb hb).1,r2⟩,?_⟩;show(⟨(ck.jA++[(⟨b.text,x.of,false⟩:Kn)]).take ck.jA.length,ck.en,ck.ea⟩:Ck)=ck;rw[iM]
 have B1:Mb (λwB=>∃ck,P ck/\wB=ck.add b.text x.of false) (kU l) (kC zb) (qH (oZ (zb.map (·.2)))):=bl1.of λwB ⟨ck,hk,e⟩=>by rw[e];exact((sO ck).1 hk).2
 have B2:Mb (λwB=>∃ck,P ck/\wB=ck.add b.text x.of false) (kU (kS l)) (kC zb) (qH (oZ (zb.map (·.2)))):=bl2.of λwB ⟨ck,hk,e⟩=>by rw[e];exact((sO ck).1 hk).2
 have hty:=λck v p p' (hk:P ck)(ht:nO (ck.add b.text x.of false) p)(hv:nH v)(hF:qH (oZ (zb.map (·.2))) v p=.inr p')=>Tz hl ((sO ck).1 hk).2 ht hv hF;obtain⟨l1,l2,l3,l4⟩:=OZ h1;have qn:=q.jD;have ql:=q.jM;have qw:=q.wide;have qt:=q.Ry;have qc:=q.OM;have w2:=fl.wide;have n2:=fl.jD;have ll2:=fl.jM;have t2:=fl.tok;have hls:=Jy (jQ x.base);have hmul:∀a b:Int,a<=b->Hx.kQ (jQ x.base) * a<=Hx.kQ (jQ x.base) * b:=λa b hab=>fB hab (by omega);have hpos:∀a:Int,0<=a->0<=Hx.kQ (jQ x.base) * a:=λa ha=>Int.mul_nonneg (by omega) ha;have m1:=acX (P:=P) (kind:=x.of) (W:=W) (list:=jQ x.base) (D:=D) hof hlist (fs:=x.jF) (Hq:=x.jF) (zs:=zs) (zs0:=zs) (t:=b.text) (λck hk=>O9 h1 ((sO ck).1 hk).1) q.each ql.1 qw.1 B1 w2.1 (λ_ _ _ _ _ _ _=>rfl) hty (tK a b x l).does.look hlk;have m2:=acX (P:=P) (kind:=x.of) (W:=W) (list:=jQ x.base) (D:=D) hof hlist (fs:=qI x.jF) (Hq:=x.jF) (zs:=og x.jF zs) (zs0:=zs) (t:=b.text) (λck hk=>O7 h1 ((sO ck).1 hk).1) (λp hp=>q.each p (Ho p hp)) l3 qw.1 B2 w2.1 (λck en v σ hk ht hv=>afj hof ht hv h1 ((sO ck).1 hk).1) hty (tK a b x l).does.look hlk;refine⟨⟨max (2+W) (1+(kC zb).wide),max (if x.jF.length=0 then 0 else D+1) ((kC zb).deep+1),(if x.jF.length=0 then 1 else 3+Hx.kQ (jQ x.base) * (lT zs+2))+(1+Hx.kQ (jQ x.base) * ((kC zb).jD+1)),mP zs+(kC zb).jM+27⟩,aaC (jQ x.base) x.jF zs b.text (qH (oZ (zb.map λq:Sz×mG=>q.2))),⟨λck hk=>JB (hlk ck hk).2 hk,m1,λ_=>?_,λck v p p' hk ht hv hF=>?_,λhi ck hk=>?_,(λh=>by cases h)⟩,?_⟩
 .intro ck c hf hcx hk hw;have hw:=hw;obtain⟨fr,more,r1,r2,r3,r4,r5,r6⟩:=m2 ck c hf hcx hk (by exact hw);refine⟨fr,more,r1,r2,r3,r4,r5.grow (aV _) ?_ ?_ ?_,r6⟩
  .show max (if (qI x.jF).length=0 then 0 else D+1) ((kC zb).deep+1)<=max (if x.jF.length=0 then 0 else D+1) ((kC zb).deep+1);by_cases h0:x.jF.length=0
   .rw[jl h0,jl (OY h0)];exact aj _
   .rw[jk h0];split<;>omega
  .show(if (qI x.jF).length=0 then 1 else 3+Hx.kQ (jQ x.base) * (lT (og x.jF zs)+2))+(1+Hx.kQ (jQ x.base) * ((kC zb).jD+1))<=(if x.jF.length=0 then 1 else 3+Hx.kQ (jQ x.base) * (lT zs+2))+(1+Hx.kQ (jQ x.base) * ((kC zb).jD+1));by_cases h0:x.jF.length=0
   .rw[jl h0,jl (OY h0)];exact aV _
   .rw[jk h0];have u1:=hmul (lT (og x.jF zs)+2) (lT zs+2) (by omega);have u2:=hpos (lT zs+2) (by omega);split<;>omega
  .show mP (og x.jF zs)+(kC zb).jM+27<=mP zs+(kC zb).jM+27;omega
 .obtain⟨hk1,hk2⟩:=hlk ck hk;rw[hk2];exact aeS hof hv (λp p' h1 h2=>hty ck v p p' hk1 h1 hv h2) _ p p' (ac8 _ _ _) ht hF
 .obtain⟨hk1,hk2⟩:=hlk ck hk;refine⟨hk2,λv p ht hv=>?_⟩;have hi:=of_decide_eq_true hi;exact aeR hof (λp hp=>Tv hl hi ((sO ck).1 hk1).2 hp hv) _ p (ac8 _ _ _) ht
 .have pl:∀s∈l,1<=s.jy:=λs hs=>(fl.pos s hs).1;have cl:0<=kN l/\kN l<=1000001:=by
   have:∀(l:List jK)(a:Int),(∀s∈l,1<=s.jy/\s.jy<=1000001)->0<=a/\a<=1000001->0<=l.foldl (λa e=>lg [a,e.jy]) a/\l.foldl (λa e=>lg [a,e.jy]) a<=1000001:=by
    intro l;induction l with
    |nil=>intro a _ h;exact h
    |cons s l ih=>
     intro a hp h;have hs:=hp s (aW ..);exact ih _ (λx hx=>hp x (aI _ hx)) (xQ _ (by simp;omega))
   exact this l 0 fl.pos (by omega)
  have rc:=uf (x:=x) cl;have xc:=hx.jy;refine⟨by omega,⟨by show 1<=max (2+W) (1+(kC zb).wide);omega,by show 2 * max (2+W) (1+(kC zb).wide)<=ts+tl+4;omega⟩,⟨by show 0<=mP zs+(kC zb).jM+27;omega,by show mP zs+(kC zb).jM+27<=20 * (ts+tl+4);omega⟩,?_,⟨xK (by simp;exact⟨xc,rc⟩),(rC xc rc).2⟩,λhk=>?_⟩
  .show 0<=(if x.jF.length=0 then 1 else 3+Hx.kQ (jQ x.base) * (lT zs+2))+(1+Hx.kQ (jQ x.base) * ((kC zb).jD+1));have u1:=hpos (lT zs+2) (by omega);have u2:=hpos ((kC zb).jD+1) (by omega);split<;>omega
  .have hk:jS [x.jy,x.round (kN l)]<=1000000:=hk;have hp:=zJ xc.1 xc.2 rc.1 rc.2 hk;have h4:=h3 (by omega);have h5:=Wv (x:=x) (c:=kN l) (by omega);have hcs:cs<=1000000:=by
    rcases hx.of with e|e<;>rw[e]at h4<;>simp at h4<;>omega
   have hsl:kN l<=1000000:=by
    rcases hx.of with e|e<;>rw[e]at h5<;>simp at h5<;>omega
   have el:=Gu pl hsl;obtain⟨a1,a2⟩:=q.all hcs;obtain⟨d1,d2⟩:=fl.all (by omega);have c3:=fl.jy;have hlen:(0:Int)<=x.jF.length:=by omega
   have e8:∀d:Nat,((8^(d+1):Nat):Int)=8 * ((8^d:Nat):Int):=λd=>by rw[iY,iL];omega
   show(if x.jF.length=0 then 1 else 3+Hx.kQ (jQ x.base) * (lT zs+2))+(1+Hx.kQ (jQ x.base) * ((kC zb).jD+1))<=40 * jS [x.jy,x.round (kN l)]/\((8^max (if x.jF.length=0 then 0 else D+1) ((kC zb).deep+1):Nat):Int)<=jS [x.jy,x.round (kN l)]+1;rw[hp,h5,hx.base];rw[el]at *;constructor
   .by_cases h0:x.jF.length=0
    .rw[jl h0];rcases hx.of with e|e<;>rw[e]at h4⊢<;>simp at h4⊢<;>omega
    .rw[jk h0];rcases hx.of with e|e<;>rw[e]at h4⊢<;>simp at h4⊢<;>omega
   .have hb8:((8^((kC zb).deep+1):Nat):Int)<=8 * (lQ l+1):=by rw[e8];omega
    have hs8:((8^(if x.jF.length=0 then 0 else D+1):Nat):Int)<=max 1 (8 * cs):=by
     by_cases h0:x.jF.length=0
     .rw[jl h0];omega
     .rw[jk h0,e8];have hne:x.jF≠[]:=λe=>h0 (by rw[e];rfl);rcases a2 with a2|a2
      .exact jq a2 hne
      .omega
    have hmx:((8^max (if x.jF.length=0 then 0 else D+1) ((kC zb).deep+1):Nat):Int)<=max (max 1 (8 * cs)) (8 * (lQ l+1)):=by
     rcases gX (if x.jF.length=0 then 0 else D+1) ((kC zb).deep+1)with hh|hh
     .rw[gG hh];omega
     .rw[gV hh];omega
    generalize ((8^max (if x.jF.length=0 then 0 else D+1) ((kC zb).deep+1):Nat):Int)=PP at *;rcases hx.of with e|e<;>rw[e]at h4⊢<;>simp at h4⊢<;>omega
end
end Go.Proofs.YthllhabjfchgiaaGreatDoor
