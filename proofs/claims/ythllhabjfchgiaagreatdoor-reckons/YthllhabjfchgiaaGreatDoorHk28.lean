import Derived.Test.YthllhabjfchgiaaGreatDoorHk27
set_option maxRecDepth 100000
set_option maxHeartbeats 8000000
set_option linter.unusedSimpArgs false
namespace Go.Proofs.YthllhabjfchgiaaGreatDoor
open _root_.Go.Proofs.Tryz
section
open Go.RowKit Hx
def uN(list:Int)(fs:List (Wd×Ex))(zs:List (Sz×Val)):Val:=λe v σ=>
 if fs.length=0 then v.all list else (Ce v list).foldl (λacc i=>if nI fs zs e v σ i then vP acc i else acc) 0
theorem afR{list:Int}{fs:List (Wd×Ex)}{zs:List (Sz×Val)}(h:∀p∈zs,uy p.2):uy (uN list fs zs):=λe v σ τ ha=>by
 unfold uN;have:(λ(acc i:Int)=>if nI fs zs e v σ i then vP acc i else acc)=(λacc i=>if nI fs zs e v τ i then vP acc i else acc):=by
  funext acc i
  rw[MO fs zs h e v σ τ i ha]
 rw[this]
theorem aaR(one list:Int)(h:0<=one/\one<2008)(hl:0<=list/\list<3):((jU [⟨21,[one,list]⟩]).length:Int)<=4:=by
 have:=xI one h.1 h.2;have:=ac3 list hl.1 hl.2;simp only[ny,mF,enc,aX,aF,c8,dJ,aA];omega
theorem aaT(list a b:Int)(ha:0<=a/\a<2008)(hb:0<=b/\b<2008)(hl:0<=list/\list<3):((enc ⟨4,[list,a,b]⟩).length:Int)<=6:=by
 have:=xI a ha.1 ha.2;have:=xI b hb.1 hb.2;have:=ac3 list hl.1 hl.2;simp only[enc,aX,aF,c8,dJ,aA];omega
theorem OH:((enc ⟨0,[]⟩).length:Int)=1:=rfl
theorem aum:(pV 0).length=1:=by decide
theorem afK{list one:Int}{ft tl:Fr}(h0:0<=one)(h1:one<2008)(hl:0<=list/\list<3)(hf:ft.Ok true)(ht:tl.Ok true):(yt list one ft tl).Ok false:=
 Fr.uq (Fr.xu (ZF h0 h1 hl) (jf (by show(6:Int)<=21;omega)) false) (Fr.adk (adh h0 h1 h0 h1 hl) (Fr.uq hf ht))
theorem afJ{list one b:Int}{ft tl:Fr}(h:one+1<=b)(hf:lG ft.is b)(ht:lG tl.is b):lG (yt list one ft tl).is b:=by
 refine lG.append (lG.one ⟨λ_=>h,(λe=>by cases e),trivial⟩) ?_;intro i hi;have hi:=hi;rcases List.mem_append.1 hi with hi|hi
 .rcases dh.1 hi with rfl|hi
  .exact⟨(λe=>by cases e),λ_=>h,λ_=>h,trivial⟩
  .exact(hf.append ht) i hi
 .rw[cO.1 hi]
  trivial
theorem afI{list one:Int}{ft tl:Fr}{a b:Int}(h0:0<=one)(h1:one<2008)(hl:0<=list/\list<3)(hf:((jU ft.is).length:Int)<=a)(ht:((jU tl.is).length:Int)<=b):((jU (yt list one ft tl).is).length:Int)<=a+b+11:=by
 have e1:=aaR one list ⟨h0,h1⟩ hl;have e2:=aaT list one one ⟨h0,h1⟩ ⟨h0,h1⟩ hl;have e3:=OH;show((jU ([⟨21,[one,list]⟩]++(⟨4,[list,one,one]⟩::(ft.is++tl.is)++[⟨0,[]⟩]))).length:Int)<=_;have e4:jU ([⟨21,[one,list]⟩]++(⟨4,[list,one,one]⟩::(ft.is++tl.is)++[⟨0,[]⟩]))=jU [⟨21,[one,list]⟩]++(enc ⟨4,[list,one,one]⟩++(jU ft.is++jU tl.is++enc ⟨0,[]⟩)):=by
  simp only[nN,bZ,ny,mF,aX,bY,dP]
 rw[e4];simp only[aA];omega
theorem aef{ck:Ck}{kind one W list:Int}{D:Nat}(hk:kind≠2){fs:List (Wd×Ex)}{zs:List (Sz×Val)}(c:Co)(hf:Fit ck c)(h1:c.free=one)(hfs:zq ck kind fs zs)(hz:∀p∈zs,p.1.wide<=W/\p.1.deep<=D)(hW:0<=W)(hb:one+1+W<=2008):
 ∃ft:Fr,c.jZ list fs=(⟨c.code++jU [⟨21,[one,list]⟩]++enc ⟨4,[list,one,one]⟩++jU ft.is,c.jy,one+1⟩,one)/\ft.Ok true/\ft.jC<=lW zs/\ft.deep<=D/\((jU ft.is).length:Int)<=mX zs/\lG ft.is (one+1+W)/\∀code,SA ck ⟨code,c.jy,one+1⟩ one ft fs zs:=by
 have h8:=hf.free;obtain⟨ft,q1,q2,q3,q4,q5,q6,q7⟩:=aa7 (W:=W) (D:=D) hk fs zs ⟨c.code++jU [⟨21,[one,list]⟩]++enc ⟨4,[list,one,one]⟩,c.jy,one+1⟩ (hf.more (by omega)) (show 0<=one by omega) (show one<one+1 by omega) hfs hz hW hb;refine⟨ft,?_,q2,q3,q4,q5,q6,λcode=>?_⟩
 .unfold Co.jZ;rw[MG c (by omega) (by omega)];simp only;have e:((c.jX (c.free+1)).lay 21 [c.free,list]).lay 4 [list,c.free,c.free]=⟨c.code++jU [⟨21,[one,list]⟩]++enc ⟨4,[list,one,one]⟩,c.jy,one+1⟩:=by
   rw[h1];simp only[Co.lay,Co.jX,ny,mF,enc,aX]
  rw[e,h1,q1]
 .intro v S jF k kl lD lp li a b m g1 g2 g3 g4 g5 g6 g7 g8;exact q7 v S jF k kl lD lp li a b m g1 g2 g3 g4 g5 g6 (g7.jy rfl) g8
theorem amy{a b:Int}(h0:0<=a/\a<2008)(h1:0<=b/\b<2008):rC ⟨22,[a,b]⟩:=
 ⟨⟨by show(0:Int)<=22;omega,by show(22:Int)<=36;omega⟩,a,[b],rfl,rb h0.1 h0.2,b,[],rfl,rb h1.1 h1.2,rfl⟩
theorem adR{a n:Int}(h0:0<=a/\a<2008)(hn:jJ n):rC ⟨6,[a,n]⟩:=
 ⟨⟨by show(0:Int)<=6;omega,by show(6:Int)<=36;omega⟩,a,[n],rfl,rb h0.1 h0.2,n,[],rfl,⟨hn,(λh=>by cases h),λh=>by cases h⟩,rfl⟩
theorem aa5{ck:Ck}{kind W list:Int}{D:Nat}(hk:kind≠2)(hl:0<=list/\list<3){fs:List (Wd×Ex)}{zs:List (Sz×Val)}(hfs:zq ck kind fs zs)(hz:∀p∈zs,p.1.wide<=W/\p.1.deep<=D)(hzl:0<=mX zs)(hW:0<=W)(c:Co)(hf:Fit ck c)(hb:c.free+(2+W)<=2008):
 ∃fr:Fr,c.nk list fs=(⟨c.code++jU fr.is,c.jy,c.free+1⟩,c.free)/\fr.Ok false/\fr.jC<=(if fs.length=0 then 1 else 3+Hx.kR list * (lW zs+2))/\fr.deep<=(if fs.length=0 then 0 else D+1)/\((jU fr.is).length:Int)<=mX zs+20/\lG fr.is (c.free+(2+W))/\
  ∀(v:Vw)(S:List St)(jF:List Int)(k:Nat)(lp:List Int)(m:Mc),nM v->uz S k (fr.jB k lp)->lp.length+fr.deep<=8->m.left.length=8->lG fr.is m.jD.length->Ty ck c m.get->
   ∃m',Reaches v S jF k m (k+fr.size) m'/\m'.get c.free=uN list fs zs (lS c m.get) v m.get/\oP c.free (-1) lp.length m m':=by
 have h8:=hf.free;unfold Co.nk;rw[MG c (by omega) (by omega)];by_cases hn:fs.length=0
 .rw[jh hn];refine⟨Fr.ins ⟨21,[c.free,list]⟩,?_,Fr.xu (ZF (by omega) (by omega) hl) (jf (by show(6:Int)<=21;omega)) false,by rw[jh hn];exact aV _,bD _,?_,lG.one ⟨λ_=>by show c.free+1<=c.free+(2+W);omega,(λe=>by cases e),trivial⟩,?_⟩
  .simp only[Co.lay,Co.jX,Fr.ins,ny,mF,enc,aX]
  .have:=aaR c.free list ⟨by omega,by omega⟩ hl;show((jU [⟨21,[c.free,list]⟩]).length:Int)<=_;omega
  .intro v S jF k lp m hv hS hd hll hlow ht;have g0:=yB (v:=v) (jF:=jF) (m:=m) hS.head (by show(6:Int)<=21;omega) (by show(21:Int)≠36;omega);have hw:Hx.work v (stepOf ⟨21,[c.free,list]⟩) m=m.put c.free (v.all list):=by
    unfold Hx.work;rw[jg (by show¬(21:Int)=6;omega),jh (by rfl)]
    rfl
   rw[hw]at g0;have:=(hlow ⟨21,[c.free,list]⟩ (by simp[Fr.ins])).1 rfl;refine⟨_,g0,?_,yj (je (aV _)) (by omega)⟩;rw[vN _ _ _ (by omega) (by omega),uN,jh hn]
 .rw[jg hn];simp only;obtain⟨ft,q1,q2,q3,q4,q5,q6,q7⟩:=aef (ck:=ck) (kind:=kind) (one:=c.free+1) (W:=W) (list:=list) (D:=D) hk (⟨c.code++jU [⟨6,[c.free,0]⟩],c.jy,c.free+1⟩:Co) (hf.more (by omega)) rfl hfs hz hW (by omega);have e0:(c.jX (c.free+1)).lay 6 [c.free,0]=⟨c.code++jU [⟨6,[c.free,0]⟩],c.jy,c.free+1⟩:=by simp only[Co.lay,Co.jX,ny,mF,enc,aX]
  rw[e0,q1];have htl:(Fr.ins ⟨22,[c.free,c.free+1]⟩).Ok true:=Fr.xu (amy ⟨by omega,by omega⟩ ⟨by omega,by omega⟩) (jf (by show(6:Int)<=22;omega)) true;have hset:=afK (list:=list) (one:=c.free+1) (by omega) (by omega) hl q2 htl;refine⟨(Fr.ins ⟨6,[c.free,0]⟩).seq (yt list (c.free+1) ft (Fr.ins ⟨22,[c.free,c.free+1]⟩)),?_,Fr.uq (Fr.xu (adR ⟨by omega,by omega⟩ (by unfold jJ;omega)) (jf (by show(6:Int)<=6;omega)) false) hset,?_,?_,?_,?_,?_⟩
  .have ew:wrap64 (c.free+1)=c.free+1:=NT _ (by unfold jJ;omega);rw[ew];simp only[Co.lay,Co.jX,Fr.seq,Fr.ins,yt,Fr.loop,nN,ny,mF,aX,bY,bZ,enc,dP,dJ]
  .rw[jg hn];show 1+(1+(1+Hx.kR list * (ft.jC+1+1)))<=3+Hx.kR list * (lW zs+2);have hm:Hx.kR list * (ft.jC+1+1)<=Hx.kR list * (lW zs+2):=fB (by omega) (by have:=Jy list;omega);omega
  .rw[jg hn];show max 0 (max 0 (max ft.deep 0+1))<=D+1;omega
  .have hsl:=afI (list:=list) (one:=c.free+1) (ft:=ft) (tl:=Fr.ins ⟨22,[c.free,c.free+1]⟩) (a:=mX zs) (b:=5) (by omega) (by omega) hl q5 (Je 22 c.free (c.free+1) ⟨by omega,by omega⟩ ⟨by omega,by omega⟩);have h6:((jU [⟨6,[c.free,0]⟩]).length:Int)<=4:=by
    have:=xI c.free (by omega) (by omega);have:=aum;simp only[ny,mF,enc,aX,aF,c8,dJ,aA];omega
   show((jU ([⟨6,[c.free,0]⟩]++(yt list (c.free+1) ft (Fr.ins ⟨22,[c.free,c.free+1]⟩)).is)).length:Int)<=_;rw[nN,aA];omega
  .refine lG.append (lG.one ⟨λ_=>by show c.free+1<=_;omega,(λe=>by cases e),trivial⟩) (afJ (by omega) (q6.wide (by omega)) (lG.one ⟨λ_=>by show c.free+1<=_;omega,λ_=>by show c.free+1+1<=_;omega,trivial⟩))
  .intro v S jF k lp m hv hS hd hll hlow ht;have hd:lp.length+max 0 (max 0 (max ft.deep 0+1))<=8:=hd;have hS1:=hS.left.head;have hS2:=hS.right rfl;have hc0:c.free<m.jD.length:=by
    have:=(hlow.left ⟨6,[c.free,0]⟩ (by simp[Fr.ins])).1 rfl;omega
   have g0:=yB (v:=v) (jF:=jF) (m:=m) hS1 (by show(6:Int)<=6;omega) (by show(6:Int)≠36;omega);have hw:Hx.work v (stepOf ⟨6,[c.free,0]⟩) m=m.put c.free 0:=by
    unfold Hx.work;rw[jh (by rfl)]
    rfl
   rw[hw]at g0;have hs0:oP c.free (-1) lp.length m (m.put c.free 0):=yj (je (aV _)) (by omega);obtain⟨m',p1,p2,p3⟩:=afT (ck:=ck) (c0:=c) (c1:=⟨c.code,c.jy,c.free+1+1⟩) (one:=c.free+1) (list:=list) (ft:=ft) (tl:=Fr.ins ⟨22,[c.free,c.free+1]⟩) (bs:=fs) (zs:=zs) (kind:=kind) (m0:=m.put c.free 0) (jF:=jF) (S:=S) (k:=k+1) (lp:=lp)
    (λ(acc:Int) m=>m.get c.free=acc) vP hv hf rfl (by omega) (by show c.free+1<c.free+1+1;omega) hfs q2 htl (q7 _) (λacc m m' hlen hsl hr=>(hsl c.free (aV _) (by omega)).trans hr) (Gn ht hs0 hf)
    (λS k lp m1 acc i hS _ _ hlow2 hsm hone i0 i1 hr=>by
      have g0:=yB (v:=v) (jF:=jF) (m:=m1) hS.head (by show(6:Int)<=22;omega) (by show(22:Int)≠36;omega);have hw:Hx.work v (stepOf ⟨22,[c.free,c.free+1]⟩) m1=m1.put c.free (vP (m1.get c.free) (m1.get (c.free+1))):=by
       unfold Hx.work;rw[jg (by show¬(22:Int)=6;omega),jg (by show¬(22:Int)=21;omega),jh (by rfl)]
       rfl
      rw[hw]at g0;refine⟨_,g0,yj (je (aV _)) (by omega),?_⟩;rw[vN _ _ _ (by omega) (by rw[hsm.len,Dx];exact hc0),hr,hone])
    hS2 (by show lp.length+max 0 (max ft.deep 0+1)<=8;omega) (by exact hll) (by rw[Dx];exact hlow.right) (acc0:=0) (vN _ _ _ (by omega) hc0)
   refine⟨m',?_,?_,hs0.trans p2⟩
   .show Reaches v S jF k m (k+(1+(yt list (c.free+1) ft (Fr.ins ⟨22,[c.free,c.free+1]⟩)).size)) m';rw[<-fE];exact g0.trans p1
   .rw[p3,BP hf hs0,uN,jg hn]
    congr 1
    funext acc i
    rw[UL hfs _ v (m.put c.free 0).get m.get i λj j0 j1=>hs0.jD j j0 (by omega) (by omega)]
theorem ZG{P:Ck->Prop}{kind W:Int}{D:Nat}(hk:kind≠2)(what base:ji){fs:List (Wd×Ex)}{zs:List (Sz×Val)}(hfs:∀ck,P ck->zq ck kind fs zs)(hcg:∀p∈zs,uy p.2)(hz:∀p∈zs,p.1.wide<=W/\p.1.deep<=D)(hzl:0<=mX zs)(hW:0<=W):
 Mx P (Dc what base fs) ⟨2+W,if fs.length=0 then 0 else D+1,(if fs.length=0 then 1 else 3+Hx.kR (jP base) * (lW zs+2))+1,mX zs+25⟩ (λe v σ=>outcome v (if what.data.toList==[99,111,117,110,116]then 23 else 24) (uN (jP base) fs zs e v σ) 0):=by
 have hl:0<=jP base/\jP base<3:=by unfold jP;split<;>(try split)<;>omega
 refine⟨λe v σ τ h1=>?_,?_⟩
 .show outcome v _ (uN (jP base) fs zs e v σ) 0=outcome v _ (uN (jP base) fs zs e v τ) 0;rw[afR hcg e v σ τ h1]
 intro ck c into hf hP hw hi;have h8:=hf.free;have hw:c.free+(2+W)<=2008:=hw;have ho:rO (if what.data.toList==[99,111,117,110,116]then (23:Int)else 24):=by
  unfold rO;split<;>omega
 unfold Dc;generalize (if what.data.toList==[99,111,117,110,116]then (23:Int)else 24)=o at ho⊢;obtain⟨fr,q1,q2,q3,q4,q5,q6,q7⟩:=aa5 (ck:=ck) (kind:=kind) (W:=W) (D:=D) hk hl (hfs ck hP) hz hzl hW c hf hw;obtain⟨k,f2,e',e1,e2,e3,e4,e5⟩:=Oy ((⟨c.code++jU fr.is,c.jy,c.free+1⟩:Co).jX c.free) into (by show 0<=c.free;omega) (by show c.free<=1000000;omega) hi;have e1:=e1;have e2:f2<=c.free+1:=e2;have e5:=e5;obtain⟨hsh,o6,Nv,o3⟩:=ho.shape;have hins:rC ⟨o,[k,c.free]⟩:=⟨⟨by show 0<=o;omega,Nv⟩,by show IK (Hx.shape o) _;rw[hsh];exact⟨k,[c.free],rfl,rb e3 (by omega),c.free,[],rfl,rb (by omega) (by omega),rfl⟩⟩;refine⟨fr.seq (Fr.ins ⟨o,[k,c.free]⟩),k,f2,?_,⟨e1,e2,e3,e4,je (by show k<c.free+(2+W);omega),Fr.uq q2 (Fr.xu hins (jf o6) false),?_,?_,?_,?_⟩,?_⟩
 .rw[q1];simp only;rw[e'];simp only[Co.lay,Fr.seq,Fr.ins,nN,ny,mF,enc,aX,Co.jX,bY]
 .show fr.jC+1<=_+1;omega
 .show max fr.deep 0<=if fs.length=0 then 0 else D+1;omega
 .have:=Je o k c.free ⟨e3,by omega⟩ ⟨by omega,by omega⟩;show((jU (fr.is++[⟨o,[k,c.free]⟩])).length:Int)<=mX zs+25;rw[nN,aA];omega
 .refine q6.append (lG.one ?_);rw[show Hx.shape (⟨o,[k,c.free]⟩:I).o=[115,115]from hsh];exact⟨λ_=>by show k+1<=c.free+(2+W);omega,λ_=>by show c.free+1<=c.free+(2+W);omega,trivial⟩
 .intro v S jF kk lp m hv hS hd hll hlow ht;have hd:lp.length+max fr.deep 0<=8:=hd;obtain⟨m1,g1,g2,g3⟩:=q7 v S jF kk lp m hv hS.left (by omega) hll hlow.left ht;have hS2:=hS.right (q2.size kk lp);have hg:=yB (v:=v) (jF:=jF) (m:=m1) (i:=⟨o,[k,c.free]⟩) hS2.head o6 o3;rw[ho.work]at hg;refine⟨m1.put k (outcome v o (m1.get c.free) 0),g1.trans hg,?_,(g3.less (aV _) (je (jf (by omega))) (aj _)).trans (yj e5 e3)⟩;have hlk:=hlow.right ⟨o,[k,c.free]⟩ (by simp[Fr.ins]);rw[show Hx.shape (⟨o,[k,c.free]⟩:I).o=[115,115]from hsh]at hlk;have:=hlk.1 rfl;rw[vN _ _ _ e3 (by rw[g3.len];omega),g2]
end
section
open Go.RowKit Hx
attribute [local go_sem ↓] Go.wp_at_zero Go.wp_at_succ
attribute [local go_sem] kP
section
variable {w w' w1 w2:jk}{C lo hi b S:Nat}{c:Co}{u:jm}{e l r:Ex}{a:Int}{T:jo}{x:Sx}
theorem aoE{kind jw:Int}{us:List jm}(hb:w.heap[b]? =some (.cells (Im a::Im jw::Im kind::us).toArray 415)):
 Calls prog 397 #[Pt b 0] w λe w'=>e=.returned (Im (if kind=3\/kind=4 then -1 else 0))/\w'=w:=by
 have c2:=jK 2 hb rfl;clear hb;by_cases h3:kind=3
 .subst h3;go_enter func397,ntmps397;go_wp2;go_ret;exact⟨rfl,rfl⟩
 .have b3:(kind==3)=false:=by simp[h3]
  by_cases h4:kind=4
  .subst h4;go_enter func397,ntmps397;go_wp2;go_ret;exact⟨rfl,rfl⟩
  .have b4:(kind==4)=false:=by simp[h4]
   rw[jg (by omega)];go_enter func397,ntmps397;go_wp2;go_ret;exact⟨rfl,rfl⟩
def AU(what:List UInt8)(c:Co)(answer best one with':Int):Co:=
 if what==[109,105,110]then c.lay 25 [answer,best,one,with']else if what==[109,97,120]then c.lay 26 [answer,best,one,with']
 else if what==[115,117,109]then c.lay 10 [answer,answer,with']else if what==[97,110,121]then c.lay 20 [answer,answer,with']else c
theorem an3(what:List UInt8)(c:Co)(a b o i:Int):(AU what c a b o i).jy=c.jy:=by
 unfold AU;repeat' split
 all_goals rfl
theorem adx(what:List UInt8)(c:Co)(a b o i:Int):(AU what c a b o i).code.length<=c.code.length+41:=by
 have h1:=oO c 25 [a,b,o,i];have h2:=oO c 26 [a,b,o,i];have h3:=oO c 10 [a,a,i];have h4:=oO c 20 [a,a,i];simp only[aF,bg]at h1 h2 h3 h4;unfold AU;repeat' split
 all_goals omega
structure N9(kind:Int)(x:Sx)(b:Wd×Ex)(c:Co)(c1 c2 c3 c4:Co)(answer best one is:Int):Prop where
 h1:c.hold=(c1,answer)
 h2:c1.hold=(c2,best)
 h3:(c2.lay 6 [answer,if kind=3\/kind=4 then -1 else 0]).jZ (jP x.base) x.jE=(c3,one)
 h4:c3.inside b.1.text b.2.does one=(c4,is)
theorem Qi{kind:Int}{what:ji}{b:Wd×Ex}{c1 c2 c3 c4:Co}{answer best one is:Int}(h:N9 kind x b c c1 c2 c3 c4 answer best one is)(into:Int):
 (yE kind what x b).give c into=(((AU what.data.toList c4 answer best one is).lay 0 []).jX (wrap64 (answer+1)),answer):=by
 show((_:Co),c.hold.2)=_;rw[h.h1];simp only;rw[h.h2];simp only;rw[h.h3];simp only;rw[h.h4]
 rfl
theorem Vf(kind:Int)(x:Sx)(b:Wd×Ex)(c:Co):∃c1 c2 c3 c4 answer best one is,N9 kind x b c c1 c2 c3 c4 answer best one is:=⟨_,_,_,_,_,_,_,_,rfl,rfl,rfl,rfl⟩
theorem N9.good{kind:Int}{t:Wd}{c1 c2 c3 c4:Co}{answer best one is:Int}(h:N9 kind x (t,e) c c1 c2 c3 c4 answer best one is)(hs:wG x)(he:kC e)(hk:e.jw<=1000000):
 c1.code=c.code/\c1.jy=c.jy/\c2.code=c.code/\c2.jy=c.jy/\c3.jy=c.jy/\(c3.code.length:Int)<=c.code.length+73+200 * (x.jw-1)/\c4.jy=c.jy/\(c4.code.length:Int)<=c.code.length+123+200 * (x.jw-1)+200 * e.jw:=by
 have e1:c1=c.hold.1:=by rw[h.h1]
 have e2:c2=c1.hold.1:=by rw[h.h2]
 have e3:c3=((c2.lay 6 [answer,if kind=3\/kind=4 then -1 else 0]).jZ (jP x.base) x.jE).1:=by rw[h.h3]
 have e4:c4=(c3.inside t.text e.does one).1:=by have:=h.h4;simp only at this;rw[this]
 have k1:c1.code=c.code:=by rw[e1];rfl
 have n1:c1.jy=c.jy:=by rw[e1];rfl
 have k2:c2.code=c.code:=by rw[e2];exact k1
 have n2:c2.jy=c.jy:=by rw[e2];exact n1
 have n3:c3.jy=c.jy:=by rw[e3,ao3 hs];exact n2
 have k3:=VH (c:=c2.lay 6 [answer,if kind=3\/kind=4 then -1 else 0]) hs (jP x.base);rw[<-e3]at k3;have k3':=oO c2 6 [answer,if kind=3\/kind=4 then -1 else 0];rw[k2]at k3';simp only[aF,bg]at k3';have n4:c4.jy=c.jy:=by rw[e4,UD he];exact n3
 have k4:=UC (c:=c3) he t.text one hk;rw[<-e4]at k4;exact⟨k1,n1,k2,n2,n3,by omega,n4,by omega⟩
theorem ady(hall:∀b∈x.jE,kC b.2)(hxs:0<=x.jw/\x.jw<=1000001)(kind a0 k:Int)(what:ji)(t:Wd)(he:kC e)(hk0:0<=k/\k<=1000001)(hsg:k<=1000000->wG x/\e.jw<=1000000/\2+x.jw+e.jw<=k)(dn:Dn)(hd:dn.give=(yE kind what x (t,e)).give):kC (uZ 413 415 a0 k kind (AP (Bd x) (e.here e.at')) (λus=>.string what::(us.take 1++[.string t.text,Im t.at']++us.drop 1)) dn):=by
 have rW:=Gf λb hb a=>(hall b hb).ok.law a;have ec:=he.ok.jw;refine⟨JK (by simp[lU]) (PV rW (he.ok.law _)) hk0,λc into=>?_,λc into hk=>?_,?_⟩
 .obtain⟨c1,c2,c3,c4,answer,best,one,is,hm⟩:=Vf kind x (t,e) c;show(dn.give c into).1.jy=c.jy;rw[hd];rw[Qi hm];show(AU what.data.toList c4 answer best one is).jy=c.jy;rw[an3];have e4:c4=(c3.inside t.text e.does one).1:=by have:=hm.h4;simp only at this;rw[this]
  have e3:c3=((c2.lay 6 [answer,if kind=3\/kind=4 then -1 else 0]).jZ (jP x.base) x.jE).1:=by rw[hm.h3]
  have e2:c2=c1.hold.1:=by rw[hm.h2]
  have e1:c1=c.hold.1:=by rw[hm.h1]
  have hfn:∀(fs:List (Wd×Ex))(c:Co)(one:Int),(∀b∈fs,kC b.2)->(Co.jE one fs c).jy=c.jy:=by
   intro fs;induction fs with
   |nil=>intro c one _;rfl
   |cons b fs ih=>
    intro c one hb;have e:Co.jE one (b::fs) c=Co.jE one fs (xW one c b):=rfl;rw[e,ih _ _ (λd hd=>hb d (aI _ hd)),TJ one (hb b (aW ..))]
  rw[e4,UD he,e3];refine(hfn _ _ _ hall).trans ?_;rw[e2,e1]
  rfl
 .obtain⟨c1,c2,c3,c4,answer,best,one,is,hm⟩:=Vf kind x (t,e) c;obtain⟨hs,Jq,hp⟩:=hsg hk;have hg:=hm.good hs he Jq;show((dn.give c into).1.code.length:Int)<=c.code.length+200 * k+50;rw[hd];rw[Qi hm];have h1:=adx what.data.toList c4 answer best one is;have h2:=oO (AU what.data.toList c4 answer best one is) 0 [];simp only[bg]at h2;show((((AU what.data.toList c4 answer best one is).lay 0 []).code.length:Nat):Int)<=_;have:=hg.2.2.2.2.2.2.2;omega
 rintro a w lo hi T b C c into ⟨b',us,hv,h1,h2,⟨u,v,rfl,hu,hv2⟩,hb⟩ hC hc hr;cases hv;obtain⟨hs,Jq,hp⟩:=hsg hr.jw;have hr:Room c k:=hr;have hrc:=hr.code;have hrn:=hr.jy;have hrk:=hr.jw;obtain⟨c1,c2,c3,c4,answer,best,one,is,hm⟩:=Vf kind x (t,e) c;obtain⟨g1,g2,g3,g4,g5,g6,g7,g8⟩:=hm.good hs he Jq;obtain⟨S,fv,rfl,_⟩:=id hu;obtain⟨T2,b2,rfl,_⟩:=he.ok.head _ _ _ _ _ hv2;obtain⟨tt,ta⟩:=t;have hbC:b<C:=by omega
 have rJ:=jA (λy (hy:Gk w y C)=>(hy.keep b hbC).trans hb);have Gx:Hid (∀y,Gk w y C->kD y C (c2.lay 6 [answer,if kind=3\/kind=4 then -1 else 0])->Calls prog 350 #[Pt C 0,Pt S 0] y λen w'=>en=.returned (Im one)/\kD w' C c3/\Gk y w' C):=λy hy hg=>by
  have h3:=oO c2 6 [answer,if kind=3\/kind=4 then -1 else 0];simp only[aF,bg]at h3;rw[g3]at h3;have:=abn hs (rW.gk hu hy (by omega)) hC hg ⟨by omega,by omega,by show((c2.jy).length:Int)+_<=_;rw[g4];omega⟩;rw[hm.h3]at this;exact this
 have ES:Hid (∀y,Gk w y C->kD y C c3->Calls prog 352 #[Pt C 0,.agg #[.string tt,Im ta,.iface T2 (Pt b2 0)],Im one] y λen w'=>en=.returned (Im is)/\kD w' C c4/\Gk y w' C):=λy hy hg=>by
  have:=abk he ((he.ok.law _).gk hv2 hy (by omega)) hC hg ⟨by omega,by omega,by rw[g5];omega⟩ tt ta one;rw[hm.h4]at this;exact this
 have Zb:Hid (Calls prog 306 #[Pt C 0] w λe w'=>e=.returned (Im answer)/\kD w' C c1/\Gk w w' C):=by
  have:=LV hc;rw[hm.h1]at this;exact this
 have Zc:Hid (∀y,kD y C c1->Calls prog 306 #[Pt C 0] y λe w'=>e=.returned (Im best)/\kD w' C c2/\Gk y w' C):=λy hy=>by
  have:=LV hy;rw[hm.h2]at this;exact this
 have HNo:=jA (λy (hy:Gk w y C)=>aoE (rJ.out y hy));have l2:c2.code.length<=850000000:=by rw[g3];omega
 have l4:c4.code.length<=850000000:=by omega
 refine⟨395,λw=>by kernel_rfl,λargs w=>by kernel_rfl,?_⟩;have nT:Hid (∀y,Gk w y C->kD y C ((AU what.data.toList c4 answer best one is).lay 0 [])->((∃u,y.cell? (Ad C 2)=some u)/\∀j,y.frozen? (Ad C j)=false)/\kD (y.setCell (Ad C 2) (Im (wrap64 (answer+1)))) C (((yE kind what x (⟨tt,ta⟩,e)).give c into).1)/\Gk w (y.setCell (Ad C 2) (Im (wrap64 (answer+1)))) C):=λy hy hg=>by
  have e0:(yE kind what x (⟨tt,ta⟩,e)).give c into=_:=Qi hm into;rw[e0];obtain⟨v5,Nu,p5⟩:=hg;exact⟨⟨⟨_,jI p5.jM⟩,λj=>oQ p5.jM⟩,⟨v5,Nu,p5.jX _⟩,hy.trans (Gk.free _ _ _)⟩
 have hres:((yE kind what x (⟨tt,ta⟩,e)).give c into).2=answer:=by
  have e0:(yE kind what x (⟨tt,ta⟩,e)).give c into=_:=Qi hm into;rw[e0]
 show Calls prog 395 #[Pt b 0,Pt C 0,Im into] w λen w'=>en=.returned (Im (dn.give c into).2)/\kD w' C (dn.give c into).1/\Gk w w' C;rw[hd];rw[hres];clear hres hm hu hv2 hb hc hr hall rW ec hsg hs he Jq hp hrc hrn hrk g1 g2 g3 g4 g5 g6 g7 g8 hxs hd;generalize ((yE kind what x (⟨tt,ta⟩,e)).give c into).1=R at *;generalize (if kind=3\/kind=4 then (-1:Int)else 0)=zz at *;have qN:=jA (λy (hy:kD y C (AU what.data.toList c4 answer best one is))=>FM hy 0 (by have:=adx what.data.toList c4 answer best one is;omega));obtain⟨m1,alr⟩:∃m1:Bool,(what.toList==[109,105,110])=m1:=⟨_,rfl⟩;obtain⟨m2,als⟩:∃m2:Bool,(what.toList==[109,97,120])=m2:=⟨_,rfl⟩;obtain⟨m3,alu⟩:∃m3:Bool,(what.toList==[115,117,109])=m3:=⟨_,rfl⟩;obtain⟨m4,alv⟩:∃m4:Bool,(what.toList==[97,110,121])=m4:=⟨_,rfl⟩;have Zg:Hid (AU what.data.toList c4 answer best one is=if m1 then c4.lay 25 [answer,best,one,is]else if m2 then c4.lay 26 [answer,best,one,is]else if m3 then c4.lay 10 [answer,answer,is]else if m4 then c4.lay 20 [answer,answer,is]else c4):=by
  unfold AU;rw[<-aZ,alr,als,alu,alv];exact jA rfl
 rw[Zg.out]at nT qN;clear Zg;go_enter func395,ntmps395;go_wp2_with fail;refine Zb.out.mono ?_;rintro en w1 ⟨rfl,p1,q1⟩;have mg:=jA (jd p1 q1);clear p1 q1 Zb;go_wp2_with fail;refine(Zc.out _ mg.out.1).mono ?_;rintro en w2 ⟨rfl,p2,q2⟩;have xM:=jA (Au p2 6 answer zz (by omega));have lT:=jA (mg.out.2.trans q2);clear p2 q2 Zc mg;go_wp2_with fail;refine(HNo.out _ lT.out).mono ?_;rintro en w2' ⟨rfl,rfl⟩;go_wp2_with fail;refine xM.out.mono ?_;rintro en w3 ⟨rfl,p3,q3⟩;have hb3:=rJ.out w3 (lT.out.trans q3);have d4:=jK 4 hb3 rfl;have qA:=jA (jd p3 (lT.out.trans q3));clear p3 q3 hb3 xM lT;go_wp2_with fail;refine(Gx.out _ qA.out.2 qA.out.1).mono ?_;rintro en w4 ⟨rfl,p4,q4⟩;have hb4:=rJ.out w4 (qA.out.2.trans q4);have e5:=jK 5 hb4 rfl;have e6:=jK 6 hb4 rfl;have e7:=jK 7 hb4 rfl;have tJ:=jA (jd p4 (qA.out.2.trans q4));clear p4 q4 hb4 qA Gx;go_wp2_with fail;refine(ES.out _ tJ.out.2 tJ.out.1).mono ?_;rintro en w5 ⟨rfl,p5,q5⟩;have hb5:=rJ.out w5 (tJ.out.2.trans q5);have f3:=jK 3 hb5 rfl;have xK:=jA (jd p5 (tJ.out.2.trans q5));clear p5 q5 hb5 tJ ES rJ e5 e6 e7 d4;have IE:=jA (λo=>akK xK.out.1 o answer best one is (by omega));have wV:=jA (λo=>O5 xK.out.1 o answer answer is (by omega));cases m1 with
 |true=>
  simp only[dM]at nT qN;go_wp2_with fail;refine(IE.out _).mono ?_;rintro en w6 ⟨rfl,p6,q6⟩;have yx:=jA (jd p6 (xK.out.2.trans q6));clear p6 q6 IE wV xK;go_wp2_with fail;refine(qN.out _ yx.out.1).mono ?_;rintro en w7 ⟨rfl,p7,q7⟩;obtain⟨⟨⟨uu,d2⟩,fz⟩,z1,z2⟩:=nT.out w7 (yx.out.2.trans q7) p7;have HE:=jA (jd z1 z2);clear p7 q7 z1 z2 qN nT yx;go_wp2_with fail;go_ret;exact⟨rfl,HE.out⟩
 |false=>
  simp only[aH,cZ]at nT qN;cases m2 with
  |true=>
   simp only[dM]at nT qN;go_wp2_with fail;refine(IE.out _).mono ?_;rintro en w6 ⟨rfl,p6,q6⟩;have yx:=jA (jd p6 (xK.out.2.trans q6));clear p6 q6 IE wV xK;go_wp2_with fail;refine(qN.out _ yx.out.1).mono ?_;rintro en w7 ⟨rfl,p7,q7⟩;obtain⟨⟨⟨uu,d2⟩,fz⟩,z1,z2⟩:=nT.out w7 (yx.out.2.trans q7) p7;have HE:=jA (jd z1 z2);clear p7 q7 z1 z2 qN nT yx;go_wp2_with fail;go_ret;exact⟨rfl,HE.out⟩
  |false=>
   simp only[aH,cZ]at nT qN;cases m3 with
   |true=>
    simp only[dM]at nT qN;go_wp2_with fail;refine(wV.out _).mono ?_;rintro en w6 ⟨rfl,p6,q6⟩;have yx:=jA (jd p6 (xK.out.2.trans q6));clear p6 q6 IE wV xK;go_wp2_with fail;refine(qN.out _ yx.out.1).mono ?_;rintro en w7 ⟨rfl,p7,q7⟩;obtain⟨⟨⟨uu,d2⟩,fz⟩,z1,z2⟩:=nT.out w7 (yx.out.2.trans q7) p7;have HE:=jA (jd z1 z2);clear p7 q7 z1 z2 qN nT yx;go_wp2_with fail;go_ret;exact⟨rfl,HE.out⟩
   |false=>
    simp only[aH,cZ]at nT qN;cases m4 with
    |true=>
     simp only[dM]at nT qN;go_wp2_with fail;refine(wV.out _).mono ?_;rintro en w6 ⟨rfl,p6,q6⟩;have yx:=jA (jd p6 (xK.out.2.trans q6));clear p6 q6 IE wV xK;go_wp2_with fail;refine(qN.out _ yx.out.1).mono ?_;rintro en w7 ⟨rfl,p7,q7⟩;obtain⟨⟨⟨uu,d2⟩,fz⟩,z1,z2⟩:=nT.out w7 (yx.out.2.trans q7) p7;have HE:=jA (jd z1 z2);clear p7 q7 z1 z2 qN nT yx;go_wp2_with fail;go_ret;exact⟨rfl,HE.out⟩
    |false=>
     simp only[aH,cZ]at nT qN;go_wp2_with fail;refine(qN.out _ xK.out.1).mono ?_;rintro en w7 ⟨rfl,p7,q7⟩;obtain⟨⟨⟨uu,d2⟩,fz⟩,z1,z2⟩:=nT.out w7 (xK.out.2.trans q7) p7;have HE:=jA (jd z1 z2);clear p7 q7 z1 z2 qN nT xK;go_wp2_with fail;go_ret;exact⟨rfl,HE.out⟩
theorem adz{N:Nat}(hN:N<=100000)(h:rD N kC x)(kind:Int)(what:ji)(t:Wd)(he:kC e):kC (uY kind what x (t,e)):=by
 have hl:∀b∈x.jE,∀a,Lawful (b.2.here a):=λb hb a=>(h.all b hb).ok.law a;have rW:Lawful (oW x):=NJ hl;have ec:=he.ok.jw;refine(ady h.all h.jw kind x.at' (jR [x.jw,x.round e.jw]) what t he (rG h.jw (uo ec)) (λhk=>?_) (yE kind what x (t,e)) rfl).of (vV (by simp[lU]) (wJ rW (he.ok.law _)) (rG h.jw (uo ec))).base
  (λ_ _ _ _ _ hh=>JO (λ_ _ _ _ _ ⟨m,u,v,e',h1,h2,hu,hv⟩ hb=>⟨u,v,e',(Gf hl).wide _ _ _ _ _ _ (WJ hl hu) (aj _) (by omega),(he.ok.law _).wide _ _ _ _ _ _ hv h1 hb⟩) hh) rfl rfl
 have hrb:=uo (x:=x) ec;have hp:=zU h.jw.1 h.jw.2 hrb.1 hrb.2 hk;have hg:=NG (x:=x) ec.1 (by have:=h.jw;omega);exact⟨wG.of hN h (by omega),by have:=h.jw;omega,by omega⟩
theorem akM(N:Nat)(hN:N<=100000):CV N kC kC where
 jw:=λ_ h=>h.ok.jw
 number:=adU
 kW:=atv
 none:=adM
 register:=afb
 use:=agW
 widen:=λ_ a h=>ag4 h a
 isNone:=λa _ h=>acA h a
 minus:=λa sign _ _ h=>Vy h a 1 sign
 not:=λa sign _ _ h=>Vy h a 2 sign
 two:=λa sign _ _ h k=>agP h k a _ sign
 property:=λa _ t h=>aeO h a _ _ t
 Qp:=λa _ _ h k=>ad1 h k a
 Le:=λk what _ h=>ZI hN h k what
 FX:=λk what _ b h hb=>adz hN h k what b.1 hb
theorem aku(s:ji)(hs:s.size<=4000)(d:Nat)(p:Ps):kC (kT s d p).1:=
 OJ s (λ_=>kC) adM (λ_=>akM (s.size+1) (by omega)) d p
end
end
section
open Go.RowKit Hx
def yY(w:List UInt8):Bool:=w==[109,105,110]
def isMax(w:List UInt8):Bool:=w==[109,97,120]
def Hl(w:List UInt8):Bool:=w==[115,117,109]
def isAny(w:List UInt8):Bool:=w==[97,110,121]
def qH(w:List UInt8)(acc:Int×Int)(i x:Int):Int×Int:=
 if yY w then (if decide (x<acc.2)||acc.1== -1 then (i,x)else acc)
 else if isMax w then (if decide (acc.2<x)||acc.1== -1 then (i,x)else acc)
 else if Hl w then (wrap64 (acc.1+x),acc.2)
 else if isAny w then (bits .or .i64 acc.1 x,acc.2)
 else acc
def sK(w:List UInt8)(answer best one is:Int):Fr:=
 if yY w then Fr.ins ⟨25,[answer,best,one,is]⟩else if isMax w then Fr.ins ⟨26,[answer,best,one,is]⟩
 else if Hl w then Fr.ins ⟨10,[answer,answer,is]⟩else if isAny w then Fr.ins ⟨20,[answer,answer,is]⟩else Fr.nil
def AQ(w:List UInt8)(init list:Int)(fs:List (Wd×Ex))(zs:List (Sz×Val))(t:ji)(f:Val):Val:=λe v σ=>
 ((Ce v list).foldl (λacc i=>if nI fs zs e v σ i then qH w acc i (f (e++[(t,i)]) v σ)else acc) (init,0)).1
theorem an0{w:List UInt8}{init list:Int}{fs:List (Wd×Ex)}{zs:List (Sz×Val)}{t:ji}{f:Val}(h:∀p∈zs,uy p.2)(hf:uy f):uy (AQ w init list fs zs t f):=λe v σ τ ha=>by
 unfold AQ;have:(λ(acc:Int×Int)(i:Int)=>if nI fs zs e v σ i then qH w acc i (f (e++[(t,i)]) v σ)else acc)=(λacc i=>if nI fs zs e v τ i then qH w acc i (f (e++[(t,i)]) v τ)else acc):=by
  funext acc i
  rw[MO fs zs h e v σ τ i ha,hf (e++[(t,i)]) v σ τ ha]
 rw[this]
theorem Qm(w:List UInt8)(h1:yY w=false)(h2:isMax w=false)(kp:Int->Bool)(x:Int->Int):∀(l:List Int)(a b b':Int),
 (l.foldl (λacc i=>if kp i then qH w acc i (x i)else acc) ((a,b):Int×Int)).1=(l.foldl (λacc i=>if kp i then qH w acc i (x i)else acc) ((a,b'):Int×Int)).1
 |[],_,_,_=>rfl
 |i::l,a,b,b'=>by
  rw[bP,bP];cases hk:kp i with
  |false=>
   simp only[aH,cZ];exact Qm w h1 h2 kp x l a b b'
  |true=>
   simp only[dM];have e:∀b,qH w (a,b) i (x i)=((qH w (a,0) i (x i)).1,b):=λb=>by
    unfold qH;simp only[h1,h2,aH,cZ];split
    .rfl
    .split<;>rfl
   rw[e b,e b'];exact Qm w h1 h2 kp x l _ b b'
theorem Vm(w:List UInt8)(kp:Int->Bool)(x:Int->Int):∀(l:List Int)(b b':Int),
 (l.foldl (λacc i=>if kp i then qH w acc i (x i)else acc) ((-1,b):Int×Int)).1=(l.foldl (λacc i=>if kp i then qH w acc i (x i)else acc) ((-1,b'):Int×Int)).1
 |[],_,_=>rfl
 |i::l,b,b'=>by
  by_cases h1:yY w=true
  .rw[bP,bP];cases hk:kp i with
   |false=>
    simp only[aH,cZ];exact Vm w kp x l b b'
   |true=>
    simp only[dM];have e:∀b,qH w (-1,b) i (x i)=(i,x i):=λb=>by simp[qH,h1]
    rw[e b,e b']
  .by_cases h2:isMax w=true
   .rw[bP,bP];cases hk:kp i with
    |false=>
     simp only[aH,cZ];exact Vm w kp x l b b'
    |true=>
     simp only[dM];have e:∀b,qH w (-1,b) i (x i)=(i,x i):=λb=>by simp[qH,h1,h2]
     rw[e b,e b']
   .exact Qm w (by simpa using h1) (by simpa using h2) kp x (i::l) (-1) b b'
theorem an9{w:List UInt8}{answer best one is:Int}(ha:0<=answer/\answer<2008)(hb:0<=best/\best<2008)(ho:0<=one/\one<2008)(hi:0<=is/\is<2008)(x:Bool):
 (sK w answer best one is).Ok x/\(sK w answer best one is).jC<=1/\(sK w answer best one is).deep=0/\((jU (sK w answer best one is).is).length:Int)<=9/\∀b,answer<b->best<b->one<b->is<b->lG (sK w answer best one is).is b:=by
 have s4:∀o:Int,o=25\/o=26->rC ⟨o,[answer,best,one,is]⟩:=λo h=>⟨⟨by show 0<=o;omega,by show o<=36;omega⟩,by
  rcases h with rfl|rfl<;>exact⟨answer,[best,one,is],rfl,rb ha.1 ha.2,best,[one,is],rfl,rb hb.1 hb.2,one,[is],rfl,rb ho.1 ho.2,is,[],rfl,rb hi.1 hi.2,rfl⟩⟩
 have s3:∀o:Int,o=10\/o=20->rC ⟨o,[answer,answer,is]⟩:=λo h=>⟨⟨by show 0<=o;omega,by show o<=36;omega⟩,by
  rcases h with rfl|rfl<;>exact⟨answer,[answer,is],rfl,rb ha.1 ha.2,answer,[is],rfl,rb ha.1 ha.2,is,[],rfl,rb hi.1 hi.2,rfl⟩⟩
 have l4:∀o:Int,((jU [⟨o,[answer,best,one,is]⟩]).length:Int)<=9:=λo=>by
  have:=xI answer ha.1 ha.2;have:=xI best hb.1 hb.2;have:=xI one ho.1 ho.2;have:=xI is hi.1 hi.2;simp only[ny,mF,enc,aX,aF,c8,dJ,aA];omega
 have l3:∀o:Int,((jU [⟨o,[answer,answer,is]⟩]).length:Int)<=9:=λo=>by have:=aaS o answer answer is ha ha hi;omega
 have w4:∀(o b:Int),answer<b->best<b->one<b->is<b->lG [⟨o,[answer,best,one,is]⟩] b:=λo b h1 h2 h3 h4=>lG.one (U9 λn hn=>by
  simp only[dh,dU,or_false]at hn;rcases hn with rfl|rfl|rfl|rfl<;>omega)
 have w3:∀(o b:Int),answer<b->is<b->lG [⟨o,[answer,answer,is]⟩] b:=λo b h1 h4=>lG.one (U9 λn hn=>by
  simp only[dh,dU,or_false]at hn;rcases hn with rfl|rfl|rfl<;>omega)
 unfold sK;split
 .exact⟨Fr.xu (s4 25 (jf rfl)) (jf (by show(6:Int)<=25;omega)) x,aV _,rfl,l4 25,w4 25⟩
 .split
  .exact⟨Fr.xu (s4 26 (je rfl)) (jf (by show(6:Int)<=26;omega)) x,aV _,rfl,l4 26,w4 26⟩
  .split
   .exact⟨Fr.xu (s3 10 (jf rfl)) (jf (by show(6:Int)<=10;omega)) x,aV _,rfl,l3 10,λb h1 _ _ h4=>w3 10 b h1 h4⟩
   .split
    .exact⟨Fr.xu (s3 20 (je rfl)) (jf (by show(6:Int)<=20;omega)) x,aV _,rfl,l3 20,λb h1 _ _ h4=>w3 20 b h1 h4⟩
    .exact⟨Fr.Nq x,by show(0:Int)<=1;omega,rfl,by simp[Fr.nil,mF],λb _ _ _ _=>lG.nil _⟩
theorem aoa{w:List UInt8}{answer best one is:Int}{v:Vw}{S:List St}{jF:List Int}{k:Nat}{lp:List Int}{m:Mc}(ha:0<=answer)(hb:0<=best)(hab:answer≠best)(hl:answer<m.jD.length)(hl2:best<m.jD.length)(hS:uz S k ((sK w answer best one is).jB k lp)){free:Int}(h1:free<=answer)(h2:free<=best)(d:Nat):
 ∃m',Reaches v S jF k m (k+(sK w answer best one is).size) m'/\oP free (-1) d m m'/\(m'.get answer,m'.get best)=qH w (m.get answer,m.get best) (m.get one) (m.get is):=by
 unfold sK at hS⊢;unfold qH;split at hS
 .rename_i hc;rw[jh hc,jh hc];have g0:=yB (v:=v) (jF:=jF) (m:=m) hS.head (by show(6:Int)<=25;omega) (by show(25:Int)≠36;omega);have hw:Hx.work v (stepOf ⟨25,[answer,best,one,is]⟩) m=if (decide (m.get is<m.get best)||m.get answer== -1)=true then (m.put answer (m.get one)).put best (m.get is)else m:=by
   unfold Hx.work;rw[jg (by show¬(25:Int)=6;omega),jg (by show¬(25:Int)=21;omega),jg (by show¬(25:Int)=22;omega),jh (by rfl)]
   rfl
  rw[hw]at g0;split at g0
  .rename_i hcc;refine⟨_,g0,(yj (je h1) ha).trans (yj (je h2) hb),?_⟩;rw[jh hcc,vN _ best _ hb (by rw[Dx];exact hl2),BQ _ answer best _ ha hb hab,vN _ _ _ ha hl]
  .rename_i hcc;refine⟨_,g0,oP.refl _ _ _ _,?_⟩;rw[jg hcc]
 .split at hS
  .rename_i hn hc;rw[jg hn,jh hc];have g0:=yB (v:=v) (jF:=jF) (m:=m) hS.head (by show(6:Int)<=26;omega) (by show(26:Int)≠36;omega);have hw:Hx.work v (stepOf ⟨26,[answer,best,one,is]⟩) m=if (decide (m.get best<m.get is)||m.get answer== -1)=true then (m.put answer (m.get one)).put best (m.get is)else m:=by
    unfold Hx.work;rw[jg (by show¬(26:Int)=6;omega),jg (by show¬(26:Int)=21;omega),jg (by show¬(26:Int)=22;omega),jg (by show¬(26:Int)=25;omega),jh (by rfl)]
    rfl
   rw[hw]at g0;rw[jg hn,jh hc];split at g0
   .rename_i hcc;refine⟨_,g0,(yj (je h1) ha).trans (yj (je h2) hb),?_⟩;rw[jh hcc,vN _ best _ hb (by rw[Dx];exact hl2),BQ _ answer best _ ha hb hab,vN _ _ _ ha hl]
   .rename_i hcc;refine⟨_,g0,oP.refl _ _ _ _,?_⟩;rw[jg hcc]
  .split at hS
   .rename_i hn hn2 hc;rw[jg hn,jg hn2,jh hc,jg hn,jg hn2,jh hc];have g0:=yB (v:=v) (jF:=jF) (m:=m) hS.head (by show(6:Int)<=10;omega) (by show(10:Int)≠36;omega);have ht:Ah 10:=jf ⟨by omega,by omega⟩;rw[ht.work]at g0;refine⟨_,g0,yj (je h1) ha,?_⟩;rw[vN _ _ _ ha hl,BQ _ best answer _ hb ha (λe=>hab e.symm)]
    rfl
   .split at hS
    .rename_i hn hn2 hn3 hc;rw[jg hn,jg hn2,jg hn3,jh hc,jg hn,jg hn2,jg hn3,jh hc];have g0:=yB (v:=v) (jF:=jF) (m:=m) hS.head (by show(6:Int)<=20;omega) (by show(20:Int)≠36;omega);have ht:Ah 20:=jf ⟨by omega,by omega⟩;rw[ht.work]at g0;refine⟨_,g0,yj (je h1) ha,?_⟩;rw[vN _ _ _ ha hl,BQ _ best answer _ hb ha (λe=>hab e.symm)]
     rfl
    .rename_i hn hn2 hn3 hn4;rw[jg hn,jg hn2,jg hn3,jg hn4,jg hn,jg hn2,jg hn3,jg hn4];exact⟨m,Reaches.refl _ _ _ _ _,oP.refl _ _ _ _,rfl⟩
theorem aob(w:List UInt8)(c:Co)(answer best one is:Int):(if w==[109,105,110]then c.lay 25 [answer,best,one,is]else if w==[109,97,120]then c.lay 26 [answer,best,one,is]else if w==[115,117,109]then c.lay 10 [answer,answer,is]else if w==[97,110,121]then c.lay 20 [answer,answer,is]else c)=⟨c.code++jU (sK w answer best one is).is,c.jy,c.free⟩:=by
 unfold sK yY isMax Hl isAny;split
 .simp only[Co.lay,Fr.ins,ny,mF,enc,aX]
 .split
  .simp only[Co.lay,Fr.ins,ny,mF,enc,aX]
  .split
   .simp only[Co.lay,Fr.ins,ny,mF,enc,aX]
   .split
    .simp only[Co.lay,Fr.ins,ny,mF,enc,aX]
    .simp[Fr.nil,mF]
theorem adw{P:Ck->Prop}{kind kd W:Int}{D:Nat}(hk:kind≠2)(what:ji){x:Sx}{zs:List (Sz×Val)}(hfs:∀ck,P ck->zq ck kind x.jE zs)(hcg:∀p∈zs,uy p.2)(hz:∀p∈zs,p.1.wide<=W/\p.1.deep<=D)(t:Wd){e:Ex}{ze:Sz}{fe:Val}(hce:uy fe)
 (he:∀ck,P ck->Mx (λwI=>wI=ck.add t.text kind false) e.does.give ze fe)(hze:ze.wide<=W/\ze.deep<=D)(hW:0<=W)(hmk:yY what.data.toList=true\/isMax what.data.toList=true->kd=3\/kd=4):
 Mx P (yE kd what x (t,e)).give ⟨3+W,D+1,3+Hx.kR (jP x.base) * (lW zs+ze.jC+2),mX zs+ze.jL+24⟩ (AQ what.data.toList (if kd=3\/kd=4 then -1 else 0) (jP x.base) x.jE zs t.text fe):=by
 have hl:0<=jP x.base/\jP x.base<3:=by unfold jP;split<;>(try split)<;>omega
 refine⟨an0 hcg hce,?_⟩;intro ck c into hf hP hw hi;have h8:=hf.free;have hw:c.free+(3+W)<=2008:=hw;obtain⟨init,hin⟩:∃init:Int,(if kd=3\/kd=4 then (-1:Int)else 0)=init:=⟨_,rfl⟩;have abS:jJ init/\(pV init).length<=1:=by
  subst hin;split
  .exact⟨by unfold jJ;omega,by decide⟩
  .exact⟨by unfold jJ;omega,by decide⟩
 rw[hin];obtain⟨auU,auV⟩:=hze;obtain⟨ft,q1,q2,q3,q4,q5,q6,q7⟩:=aef (ck:=ck) (kind:=kind) (one:=c.free+2) (W:=W) (list:=jP x.base) (D:=D) hk (⟨c.code++jU [⟨6,[c.free,init]⟩],c.jy,c.free+2⟩:Co) (hf.more (by omega)) rfl (hfs ck hP) hz hW (by omega);obtain⟨yX,is,f',e1,xs,wk⟩:=(he ck hP).lay (ck.add t.text kind false) ((⟨c.code++jU [⟨6,[c.free,init]⟩]++jU [⟨21,[c.free+2,jP x.base]⟩]++enc ⟨4,[jP x.base,c.free+2,c.free+2]⟩++jU ft.is,c.jy,c.free+2+1⟩:Co).know t.text (c.free+2)) (-1) ((hf.more (f':=c.free+2+1) (by omega)).know (by omega) (by show c.free+2<c.free+2+1;omega)) rfl (by show c.free+2+1+ze.wide<=2008;omega) (jf rfl);have x0:=xs.r0;have x1:=xs.r1;have x3:is<c.free+2+1\/is<c.free+2+1+ze.wide:=xs.r3;have his:is<c.free+(3+W):=by omega
 obtain⟨k1,k2,k3,k4,k5⟩:=an9 (w:=what.data.toList) (answer:=c.free) (best:=c.free+1) (one:=c.free+2) (is:=is) ⟨by omega,by omega⟩ ⟨by omega,by omega⟩ ⟨by omega,by omega⟩ ⟨x0,by omega⟩ true;have htl:=Fr.uq xs.ok.inside k1;have hset:=afK (list:=jP x.base) (one:=c.free+2) (by omega) (by omega) hl q2 htl;have xn:=xs.jC;have xd:=xs.deep;have xl:=xs.jL;refine⟨(Fr.ins ⟨6,[c.free,init]⟩).seq (yt (jP x.base) (c.free+2) ft (yX.seq (sK what.data.toList c.free (c.free+1) (c.free+2) is))),c.free,c.free+1,?_,⟨by omega,aV _,by omega,by omega,je (by show c.free<c.free+(3+W);omega),Fr.uq (Fr.xu (adR ⟨by omega,by omega⟩ abS.1) (jf (by show(6:Int)<=6;omega)) false) hset,?_,?_,?_,?_⟩,?_⟩
 .simp only[yE];rw[MG c (by omega) (by omega)];simp only;have hh:(c.jX (c.free+1)).hold=(c.jX (c.free+2),c.free+1):=by
   have:=MG (c.jX (c.free+1)) (by show 0<=c.free+1;omega) (by show c.free+1<=1000000;omega);rw[this];show(c.jX (c.free+1+1),c.free+1)=_;rw[show c.free+1+1=c.free+2 by omega]
  rw[hh,hin];simp only;have e0:(c.jX (c.free+2)).lay 6 [c.free,init]=⟨c.code++jU [⟨6,[c.free,init]⟩],c.jy,c.free+2⟩:=by simp only[Co.lay,Co.jX,ny,mF,enc,aX]
  rw[e0,q1];unfold Co.inside;simp only;rw[e1];simp only;rw[aob];have ew:wrap64 (c.free+1)=c.free+1:=NT _ (by unfold jJ;omega);rw[ew];simp only[Co.lay,Co.jX,Co.cut,Co.know,Fr.seq,Fr.ins,yt,Fr.loop,nN,ny,mF,aX,bY,bZ,enc,dP,dJ,iK]
 .show 1+(1+(1+Hx.kR (jP x.base) * (ft.jC+(yX.jC+(sK what.data.toList c.free (c.free+1) (c.free+2) is).jC)+1)))<=3+Hx.kR (jP x.base) * (lW zs+ze.jC+2);have hm:Hx.kR (jP x.base) * (ft.jC+(yX.jC+(sK what.data.toList c.free (c.free+1) (c.free+2) is).jC)+1)<=Hx.kR (jP x.base) * (lW zs+ze.jC+2):=fB (by omega) (by have:=Jy (jP x.base);omega);omega
 .show max 0 (max 0 (max ft.deep (max yX.deep (sK what.data.toList c.free (c.free+1) (c.free+2) is).deep)+1))<=D+1;omega
 .have hsl:=afI (list:=jP x.base) (one:=c.free+2) (ft:=ft) (tl:=yX.seq (sK what.data.toList c.free (c.free+1) (c.free+2) is)) (a:=mX zs) (b:=ze.jL+9) (by omega) (by omega) hl q5 (by
   show((jU (yX.is++(sK what.data.toList c.free (c.free+1) (c.free+2) is).is)).length:Int)<=_;rw[nN,aA];omega)
  have h6:((jU [⟨6,[c.free,init]⟩]).length:Int)<=4:=by
   have:=xI c.free (by omega) (by omega);have:=abS.2;simp only[ny,mF,enc,aX,aF,c8,dJ,aA];omega
  show((jU ([⟨6,[c.free,init]⟩]++(yt (jP x.base) (c.free+2) ft (yX.seq (sK what.data.toList c.free (c.free+1) (c.free+2) is))).is)).length:Int)<=mX zs+ze.jL+24;rw[nN,aA];omega
 .refine lG.append (lG.one ⟨λ_=>by show c.free+1<=c.free+(3+W);omega,(λe=>by cases e),trivial⟩) (afJ (by show c.free+2+1<=c.free+(3+W);omega) (q6.wide (by show c.free+2+1+W<=c.free+(3+W);omega)) ((xs.low.wide ?_).append (k5 _ ?_ ?_ ?_ his)))
  .show c.free+2+1+ze.wide<=c.free+(3+W);omega
  .show c.free<c.free+(3+W);omega
  .show c.free+1<c.free+(3+W);omega
  .show c.free+2<c.free+(3+W);omega
 .intro v S jF k lp m hv hS hd hll hlow ht;have hd:lp.length+max 0 (max 0 (max ft.deep (max yX.deep (sK what.data.toList c.free (c.free+1) (c.free+2) is).deep)+1))<=8:=hd;have hS1:=hS.left.head;have hS2:=hS.right rfl;have abU:=hlow.right;have hone:c.free+2<m.jD.length:=by
   have:=(abU.left ⟨21,[c.free+2,jP x.base]⟩ (by simp[Fr.ins])).1 rfl;omega
  have g0:=yB (v:=v) (jF:=jF) (m:=m) hS1 (by show(6:Int)<=6;omega) (by show(6:Int)≠36;omega);have hw:Hx.work v (stepOf ⟨6,[c.free,init]⟩) m=m.put c.free init:=by
   unfold Hx.work;rw[jh (by rfl)]
   rfl
  rw[hw]at g0;have hs0:oP c.free (-1) lp.length m (m.put c.free init):=yj (je (aV _)) (by omega);have hacc:((m.put c.free init).get c.free,(m.put c.free init).get (c.free+1))=(init,m.get (c.free+1)):=by rw[vN _ _ _ (by omega) (by omega),BQ _ _ _ _ (by omega) (by omega) (by omega)]
  obtain⟨m',p1,p2,p3⟩:=afT (ck:=ck) (c0:=c) (c1:=⟨c.code,c.jy,c.free+2+1⟩) (one:=c.free+2) (list:=jP x.base) (ft:=ft) (tl:=yX.seq (sK what.data.toList c.free (c.free+1) (c.free+2) is)) (bs:=x.jE) (zs:=zs) (kind:=kind) (m0:=m.put c.free init) (jF:=jF) (S:=S) (k:=k+1) (lp:=lp)
   (λ(acc:Int×Int) m=>(m.get c.free,m.get (c.free+1))=acc) (λacc i=>qH what.data.toList acc i (fe (lS c (m.put c.free init).get++[(t.text,i)]) v (m.put c.free init).get)) hv hf rfl (by omega) (by show c.free+2<c.free+2+1;omega) (hfs ck hP) q2 htl (q7 _)
   (λacc m m' hlen hsl hr=>by
     have h1:=hsl c.free (aV _) (by omega);have h2:=hsl (c.free+1) (by omega) (by omega);show(m'.get c.free,m'.get (c.free+1))=acc;rw[h1,h2];exact hr) (Gn ht hs0 hf)
   (λS k lp m1 acc i hS hd aln hlow2 hsm Ur i0 i1 hr=>by
     have hd:lp.length+max yX.deep (sK what.data.toList c.free (c.free+1) (c.free+2) is).deep<=8:=hd;have ty1:Ty ck c m1.get:=Gn (Gn ht hs0 hf) hsm hf;obtain⟨m2,y1,y2,y3⟩:=wk v S jF k lp m1 hv hS.left (by omega) aln hlow2.left (Ty.know (c:=⟨c.code++jU [⟨6,[c.free,init]⟩]++jU [⟨21,[c.free+2,jP x.base]⟩]++enc ⟨4,[jP x.base,c.free+2,c.free+2]⟩++jU ft.is,c.jy,c.free+2+1⟩) (hf.more (by omega)) (ty1.jy rfl) (by rw[Ur];unfold jJ;omega) (λe=>jl e hk));have y3:oP (c.free+2+1) (-1) lp.length m1 m2:=y3;rw[aaW]at y2;have henv:lS (⟨c.code++jU [⟨6,[c.free,init]⟩]++jU [⟨21,[c.free+2,jP x.base]⟩]++enc ⟨4,[jP x.base,c.free+2,c.free+2]⟩++jU ft.is,c.jy,c.free+2+1⟩:Co) m1.get=lS c (m.put c.free init).get:=BP (c:=c) hf hsm;rw[henv,Ur,hce _ v m1.get (m.put c.free init).get λj j0 j1=>hsm.jD j j0 (by omega) (by omega)]at y2;have abV:m2.jD.length=m.jD.length:=by rw[y3.len,hsm.len,Dx]
     obtain⟨m3,r1,r2,r3⟩:=aoa (w:=what.data.toList) (answer:=c.free) (best:=c.free+1) (one:=c.free+2) (is:=is) (v:=v) (S:=S) (jF:=jF) (k:=k+yX.size) (lp:=lp) (m:=m2) (by omega) (by omega) (by omega) (by rw[abV];omega) (by rw[abV];omega) (hS.right (xs.ok.size k lp)) (free:=c.free) (aV _) (by omega) lp.length;refine⟨m3,?_,(y3.less (by omega) (jf rfl) (aj _)).trans r2,?_⟩
     .show Reaches v S jF k m1 (k+(yX.size+(sK what.data.toList c.free (c.free+1) (c.free+2) is).size)) m3;rw[<-fE];exact y1.trans r1
     .show(m3.get c.free,m3.get (c.free+1))=qH what.data.toList acc i _;rw[r3,y2,y3.jD c.free (by omega) (by omega) (by omega),y3.jD (c.free+1) (by omega) (by omega) (by omega),y3.jD (c.free+2) (by omega) (by omega) (by omega),Ur];have hr:(m1.get c.free,m1.get (c.free+1))=acc:=hr;rw[hr])
   hS2 (by show lp.length+max 0 (max ft.deep (max yX.deep (sK what.data.toList c.free (c.free+1) (c.free+2) is).deep)+1)<=8;omega) (by exact hll) (by rw[Dx];exact abU) (acc0:=(init,m.get (c.free+1))) hacc
  refine⟨m',?_,?_,(hs0.trans p2).less (aV _) (je (jf (by omega))) (aj _)⟩
  .show Reaches v S jF k m (k+(1+(yt (jP x.base) (c.free+2) ft (yX.seq (sK what.data.toList c.free (c.free+1) (c.free+2) is))).size)) m';rw[<-fE];exact g0.trans p1
  .have p3:=p3;have hm:=congrArg Prod.fst p3;have hm:m'.get c.free=_:=hm;rw[hm,BP hf hs0];have hfun:(λ(acc:Int×Int)(i:Int)=>if nI x.jE zs (lS c m.get) v (m.put c.free init).get i then qH what.data.toList acc i (fe (lS c m.get++[(t.text,i)]) v (m.put c.free init).get)else acc)=(λacc i=>if nI x.jE zs (lS c m.get) v m.get i then qH what.data.toList acc i (fe (lS c m.get++[(t.text,i)]) v m.get)else acc):=by
    funext acc i
    rw[MO x.jE zs hcg _ v (m.put c.free init).get m.get i λj j0 j1=>hs0.jD j j0 (by omega) (by omega),hce _ v (m.put c.free init).get m.get λj j0 j1=>hs0.jD j j0 (by omega) (by omega)]
   rw[hfun];unfold AQ;by_cases hkd:kd=3\/kd=4
   .rw[jh hkd]at hin;subst hin;exact Vm _ _ _ _ _ _
   .have hn:yY what.data.toList=false/\isMax what.data.toList=false:=by
     constructor
     .cases hq:yY what.data.toList with
      |false=>rfl
      |true=>exact jl (hmk (jf hq)) hkd
     .cases hq:isMax what.data.toList with
      |false=>rfl
      |true=>exact jl (hmk (je hq)) hkd
    exact Qm _ hn.1 hn.2 _ _ _ _ _ _
end
end Go.Proofs.YthllhabjfchgiaaGreatDoor
