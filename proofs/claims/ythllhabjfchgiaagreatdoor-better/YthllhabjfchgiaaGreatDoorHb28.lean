import Derived.Test.YthllhabjfchgiaaGreatDoorHb27
set_option maxRecDepth 100000
set_option maxHeartbeats 8000000
set_option linter.unusedSimpArgs false
namespace Go.Proofs.YthllhabjfchgiaaGreatDoor
open _root_.Go.Proofs.Tryz
section
open Go.RowKit Hx
def uY(list:Int)(fs:List (Wd×Ex))(zs:List (Sz×Val)):Val:=λe v σ=>
 if fs.length=0 then v.all list else (Am v list).foldl (λacc i=>if ny fs zs e v σ i then vJ acc i else acc) 0
theorem afi{list:Int}{fs:List (Wd×Ex)}{zs:List (Sz×Val)}(h:∀p∈zs,uj p.2):uj (uY list fs zs):=λe v σ τ ha=>by
 unfold uY;have:(λ(acc i:Int)=>if ny fs zs e v σ i then vJ acc i else acc)=(λacc i=>if ny fs zs e v τ i then vJ acc i else acc):=by
  funext acc i
  rw[MJ fs zs h e v σ τ i ha]
 rw[this]
theorem aaG(one list:Int)(h:0<=one/\one<2008)(hl:0<=list/\list<3):((jX [⟨21,[one,list]⟩]).length:Int)<=4:=by
 have:=xq one h.1 h.2;have:=acG list hl.1 hl.2;simp only[nk,l9,enc,aX,aF,c8,dJ,aA];omega
theorem aaI(list a b:Int)(ha:0<=a/\a<2008)(hb:0<=b/\b<2008)(hl:0<=list/\list<3):((enc ⟨4,[list,a,b]⟩).length:Int)<=6:=by
 have:=xq a ha.1 ha.2;have:=xq b hb.1 hb.2;have:=acG list hl.1 hl.2;simp only[enc,aX,aF,c8,dJ,aA];omega
theorem OO:((enc ⟨0,[]⟩).length:Int)=1:=rfl
theorem ar6:(pK 0).length=1:=by decide
theorem ae8{list one:Int}{ft tl:Fr}(h0:0<=one)(h1:one<2008)(hl:0<=list/\list<3)(hf:ft.Ok true)(ht:tl.Ok true):(xP list one ft tl).Ok false:=
 Fr.ug (Fr.wW (Zp h0 h1 hl) (ji (by show(6:Int)<=21;omega)) false) (Fr.acY (acW h0 h1 h0 h1 hl) (Fr.ug hf ht))
theorem ae7{list one b:Int}{ft tl:Fr}(h:one+1<=b)(hf:kY ft.is b)(ht:kY tl.is b):kY (xP list one ft tl).is b:=by
 refine kY.append (kY.one ⟨λ_=>h,(λe=>by cases e),trivial⟩) ?_;intro i hi;have hi:=hi;rcases List.mem_append.1 hi with hi|hi
 .rcases dh.1 hi with rfl|hi
  .exact⟨(λe=>by cases e),λ_=>h,λ_=>h,trivial⟩
  .exact(hf.append ht) i hi
 .rw[cO.1 hi]
  trivial
theorem ae6{list one:Int}{ft tl:Fr}{a b:Int}(h0:0<=one)(h1:one<2008)(hl:0<=list/\list<3)(hf:((jX ft.is).length:Int)<=a)(ht:((jX tl.is).length:Int)<=b):((jX (xP list one ft tl).is).length:Int)<=a+b+11:=by
 have e1:=aaG one list ⟨h0,h1⟩ hl;have e2:=aaI list one one ⟨h0,h1⟩ ⟨h0,h1⟩ hl;have e3:=OO;show((jX ([⟨21,[one,list]⟩]++(⟨4,[list,one,one]⟩::(ft.is++tl.is)++[⟨0,[]⟩]))).length:Int)<=_;have e4:jX ([⟨21,[one,list]⟩]++(⟨4,[list,one,one]⟩::(ft.is++tl.is)++[⟨0,[]⟩]))=jX [⟨21,[one,list]⟩]++(enc ⟨4,[list,one,one]⟩++(jX ft.is++jX tl.is++enc ⟨0,[]⟩)):=by
  simp only[nI,bZ,nk,l9,aX,bY,dP]
 rw[e4];simp only[aA];omega
theorem adZ{ck:Ck}{kind one W list:Int}{D:Nat}(hk:kind≠2){fs:List (Wd×Ex)}{zs:List (Sz×Val)}(c:Co)(hf:Fit ck c)(h1:c.free=one)(hfs:zh ck kind fs zs)(hz:∀p∈zs,p.1.wide<=W/\p.1.deep<=D)(hW:0<=W)(hb:one+1+W<=2008):
 ∃ft:Fr,c.jW list fs=(⟨c.code++jX [⟨21,[one,list]⟩]++enc ⟨4,[list,one,one]⟩++jX ft.is,c.jA,one+1⟩,one)/\ft.Ok true/\ft.jD<=lT zs/\ft.deep<=D/\((jX ft.is).length:Int)<=mP zs/\kY ft.is (one+1+W)/\∀code,SX ck ⟨code,c.jA,one+1⟩ one ft fs zs:=by
 have h8:=hf.free;obtain⟨ft,q1,q2,q3,q4,q5,q6,q7⟩:=aaW (W:=W) (D:=D) hk fs zs ⟨c.code++jX [⟨21,[one,list]⟩]++enc ⟨4,[list,one,one]⟩,c.jA,one+1⟩ (hf.more (by omega)) (show 0<=one by omega) (show one<one+1 by omega) hfs hz hW hb;refine⟨ft,?_,q2,q3,q4,q5,q6,λcode=>?_⟩
 .unfold Co.jW;rw[Me c (by omega) (by omega)];simp only;have e:((c.jZ (c.free+1)).lay 21 [c.free,list]).lay 4 [list,c.free,c.free]=⟨c.code++jX [⟨21,[one,list]⟩]++enc ⟨4,[list,one,one]⟩,c.jA,one+1⟩:=by
   rw[h1];simp only[Co.lay,Co.jZ,nk,l9,enc,aX]
  rw[e,h1,q1]
 .intro v S jG k kl lC lp li a b m g1 g2 g3 g4 g5 g6 g7 g8;exact q7 v S jG k kl lC lp li a b m g1 g2 g3 g4 g5 g6 (g7.jA rfl) g8
theorem alT{a b:Int}(h0:0<=a/\a<2008)(h1:0<=b/\b<2008):qN ⟨22,[a,b]⟩:=
 ⟨⟨by show(0:Int)<=22;omega,by show(22:Int)<=36;omega⟩,a,[b],rfl,qV h0.1 h0.2,b,[],rfl,qV h1.1 h1.2,rfl⟩
theorem ady{a n:Int}(h0:0<=a/\a<2008)(hn:jO n):qN ⟨6,[a,n]⟩:=
 ⟨⟨by show(0:Int)<=6;omega,by show(6:Int)<=36;omega⟩,a,[n],rfl,qV h0.1 h0.2,n,[],rfl,⟨hn,(λh=>by cases h),λh=>by cases h⟩,rfl⟩
theorem aaU{ck:Ck}{kind W list:Int}{D:Nat}(hk:kind≠2)(hl:0<=list/\list<3){fs:List (Wd×Ex)}{zs:List (Sz×Val)}(hfs:zh ck kind fs zs)(hz:∀p∈zs,p.1.wide<=W/\p.1.deep<=D)(hzl:0<=mP zs)(hW:0<=W)(c:Co)(hf:Fit ck c)(hb:c.free+(2+W)<=2008):
 ∃fr:Fr,c.mW list fs=(⟨c.code++jX fr.is,c.jA,c.free+1⟩,c.free)/\fr.Ok false/\fr.jD<=(if fs.length=0 then 1 else 3+Hx.kQ list * (lT zs+2))/\fr.deep<=(if fs.length=0 then 0 else D+1)/\((jX fr.is).length:Int)<=mP zs+20/\kY fr.is (c.free+(2+W))/\
  ∀(v:Vw)(S:List St)(jG:List Int)(k:Nat)(lp:List Int)(m:Mc),nH v->sK S k (fr.jC k lp)->lp.length+fr.deep<=8->m.left.length=8->kY fr.is m.jE.length->Ty ck c m.get->
   ∃m',Reaches v S jG k m (k+fr.size) m'/\m'.get c.free=uY list fs zs (lu c m.get) v m.get/\oC c.free (-1) lp.length m m':=by
 have h8:=hf.free;unfold Co.mW;rw[Me c (by omega) (by omega)];by_cases hn:fs.length=0
 .rw[jl hn];refine⟨Fr.ins ⟨21,[c.free,list]⟩,?_,Fr.wW (Zp (by omega) (by omega) hl) (ji (by show(6:Int)<=21;omega)) false,by rw[jl hn];exact aV _,bD _,?_,kY.one ⟨λ_=>by show c.free+1<=c.free+(2+W);omega,(λe=>by cases e),trivial⟩,?_⟩
  .simp only[Co.lay,Co.jZ,Fr.ins,nk,l9,enc,aX]
  .have:=aaG c.free list ⟨by omega,by omega⟩ hl;show((jX [⟨21,[c.free,list]⟩]).length:Int)<=_;omega
  .intro v S jG k lp m hv hS hd hll hlow ht;have g0:=yh (v:=v) (jG:=jG) (m:=m) hS.head (by show(6:Int)<=21;omega) (by show(21:Int)≠36;omega);have hw:Hx.work v (stepOf ⟨21,[c.free,list]⟩) m=m.put c.free (v.all list):=by
    unfold Hx.work;rw[jk (by show¬(21:Int)=6;omega),jl (by rfl)]
    rfl
   rw[hw]at g0;have:=(hlow ⟨21,[c.free,list]⟩ (by simp[Fr.ins])).1 rfl;refine⟨_,g0,?_,xO (jh (aV _)) (by omega)⟩;rw[vG _ _ _ (by omega) (by omega),uY,jl hn]
 .rw[jk hn];simp only;obtain⟨ft,q1,q2,q3,q4,q5,q6,q7⟩:=adZ (ck:=ck) (kind:=kind) (one:=c.free+1) (W:=W) (list:=list) (D:=D) hk (⟨c.code++jX [⟨6,[c.free,0]⟩],c.jA,c.free+1⟩:Co) (hf.more (by omega)) rfl hfs hz hW (by omega);have e0:(c.jZ (c.free+1)).lay 6 [c.free,0]=⟨c.code++jX [⟨6,[c.free,0]⟩],c.jA,c.free+1⟩:=by simp only[Co.lay,Co.jZ,nk,l9,enc,aX]
  rw[e0,q1];have htl:(Fr.ins ⟨22,[c.free,c.free+1]⟩).Ok true:=Fr.wW (alT ⟨by omega,by omega⟩ ⟨by omega,by omega⟩) (ji (by show(6:Int)<=22;omega)) true;have hset:=ae8 (list:=list) (one:=c.free+1) (by omega) (by omega) hl q2 htl;refine⟨(Fr.ins ⟨6,[c.free,0]⟩).seq (xP list (c.free+1) ft (Fr.ins ⟨22,[c.free,c.free+1]⟩)),?_,Fr.ug (Fr.wW (ady ⟨by omega,by omega⟩ (by unfold jO;omega)) (ji (by show(6:Int)<=6;omega)) false) hset,?_,?_,?_,?_,?_⟩
  .have ew:wrap64 (c.free+1)=c.free+1:=NW _ (by unfold jO;omega);rw[ew];simp only[Co.lay,Co.jZ,Fr.seq,Fr.ins,xP,Fr.loop,nI,nk,l9,aX,bY,bZ,enc,dP,dJ]
  .rw[jk hn];show 1+(1+(1+Hx.kQ list * (ft.jD+1+1)))<=3+Hx.kQ list * (lT zs+2);have hm:Hx.kQ list * (ft.jD+1+1)<=Hx.kQ list * (lT zs+2):=fB (by omega) (by have:=Jy list;omega);omega
  .rw[jk hn];show max 0 (max 0 (max ft.deep 0+1))<=D+1;omega
  .have hsl:=ae6 (list:=list) (one:=c.free+1) (ft:=ft) (tl:=Fr.ins ⟨22,[c.free,c.free+1]⟩) (a:=mP zs) (b:=5) (by omega) (by omega) hl q5 (Jf 22 c.free (c.free+1) ⟨by omega,by omega⟩ ⟨by omega,by omega⟩);have h6:((jX [⟨6,[c.free,0]⟩]).length:Int)<=4:=by
    have:=xq c.free (by omega) (by omega);have:=ar6;simp only[nk,l9,enc,aX,aF,c8,dJ,aA];omega
   show((jX ([⟨6,[c.free,0]⟩]++(xP list (c.free+1) ft (Fr.ins ⟨22,[c.free,c.free+1]⟩)).is)).length:Int)<=_;rw[nI,aA];omega
  .refine kY.append (kY.one ⟨λ_=>by show c.free+1<=_;omega,(λe=>by cases e),trivial⟩) (ae7 (by omega) (q6.wide (by omega)) (kY.one ⟨λ_=>by show c.free+1<=_;omega,λ_=>by show c.free+1+1<=_;omega,trivial⟩))
  .intro v S jG k lp m hv hS hd hll hlow ht;have hd:lp.length+max 0 (max 0 (max ft.deep 0+1))<=8:=hd;have hS1:=hS.left.head;have hS2:=hS.right rfl;have hc0:c.free<m.jE.length:=by
    have:=(hlow.left ⟨6,[c.free,0]⟩ (by simp[Fr.ins])).1 rfl;omega
   have g0:=yh (v:=v) (jG:=jG) (m:=m) hS1 (by show(6:Int)<=6;omega) (by show(6:Int)≠36;omega);have hw:Hx.work v (stepOf ⟨6,[c.free,0]⟩) m=m.put c.free 0:=by
    unfold Hx.work;rw[jl (by rfl)]
    rfl
   rw[hw]at g0;have hs0:oC c.free (-1) lp.length m (m.put c.free 0):=xO (jh (aV _)) (by omega);obtain⟨m',p1,p2,p3⟩:=afk (ck:=ck) (c0:=c) (c1:=⟨c.code,c.jA,c.free+1+1⟩) (one:=c.free+1) (list:=list) (ft:=ft) (tl:=Fr.ins ⟨22,[c.free,c.free+1]⟩) (bs:=fs) (zs:=zs) (kind:=kind) (m0:=m.put c.free 0) (jG:=jG) (S:=S) (k:=k+1) (lp:=lp)
    (λ(acc:Int) m=>m.get c.free=acc) vJ hv hf rfl (by omega) (by show c.free+1<c.free+1+1;omega) hfs q2 htl (q7 _) (λacc m m' hlen hsl hr=>(hsl c.free (aV _) (by omega)).trans hr) (Gx ht hs0 hf)
    (λS k lp m1 acc i hS _ _ hlow2 hsm hone i0 i1 hr=>by
      have g0:=yh (v:=v) (jG:=jG) (m:=m1) hS.head (by show(6:Int)<=22;omega) (by show(22:Int)≠36;omega);have hw:Hx.work v (stepOf ⟨22,[c.free,c.free+1]⟩) m1=m1.put c.free (vJ (m1.get c.free) (m1.get (c.free+1))):=by
       unfold Hx.work;rw[jk (by show¬(22:Int)=6;omega),jk (by show¬(22:Int)=21;omega),jl (by rfl)]
       rfl
      rw[hw]at g0;refine⟨_,g0,xO (jh (aV _)) (by omega),?_⟩;rw[vG _ _ _ (by omega) (by rw[hsm.len,Du];exact hc0),hr,hone])
    hS2 (by show lp.length+max 0 (max ft.deep 0+1)<=8;omega) (by exact hll) (by rw[Du];exact hlow.right) (acc0:=0) (vG _ _ _ (by omega) hc0)
   refine⟨m',?_,?_,hs0.trans p2⟩
   .show Reaches v S jG k m (k+(1+(xP list (c.free+1) ft (Fr.ins ⟨22,[c.free,c.free+1]⟩)).size)) m';rw[<-fE];exact g0.trans p1
   .rw[p3,BA hf hs0,uY,jk hn]
    congr 1
    funext acc i
    rw[U3 hfs _ v (m.put c.free 0).get m.get i λj j0 j1=>hs0.jE j j0 (by omega) (by omega)]
theorem Zq{P:Ck->Prop}{kind W:Int}{D:Nat}(hk:kind≠2)(what base:jm){fs:List (Wd×Ex)}{zs:List (Sz×Val)}(hfs:∀ck,P ck->zh ck kind fs zs)(hcg:∀p∈zs,uj p.2)(hz:∀p∈zs,p.1.wide<=W/\p.1.deep<=D)(hzl:0<=mP zs)(hW:0<=W):
 Mx P (CU what base fs) ⟨2+W,if fs.length=0 then 0 else D+1,(if fs.length=0 then 1 else 3+Hx.kQ (jQ base) * (lT zs+2))+1,mP zs+25⟩ (λe v σ=>outcome v (if what.data.toList==[99,111,117,110,116]then 23 else 24) (uY (jQ base) fs zs e v σ) 0):=by
 have hl:0<=jQ base/\jQ base<3:=by unfold jQ;split<;>(try split)<;>omega
 refine⟨λe v σ τ h1=>?_,?_⟩
 .show outcome v _ (uY (jQ base) fs zs e v σ) 0=outcome v _ (uY (jQ base) fs zs e v τ) 0;rw[afi hcg e v σ τ h1]
 intro ck c into hf hP hw hi;have h8:=hf.free;have hw:c.free+(2+W)<=2008:=hw;have ho:rF (if what.data.toList==[99,111,117,110,116]then (23:Int)else 24):=by
  unfold rF;split<;>omega
 unfold CU;generalize (if what.data.toList==[99,111,117,110,116]then (23:Int)else 24)=o at ho⊢;obtain⟨fr,q1,q2,q3,q4,q5,q6,q7⟩:=aaU (ck:=ck) (kind:=kind) (W:=W) (D:=D) hk hl (hfs ck hP) hz hzl hW c hf hw;obtain⟨k,f2,e',e1,e2,e3,e4,e5⟩:=OE ((⟨c.code++jX fr.is,c.jA,c.free+1⟩:Co).jZ c.free) into (by show 0<=c.free;omega) (by show c.free<=1000000;omega) hi;have e1:=e1;have e2:f2<=c.free+1:=e2;have e5:=e5;obtain⟨hsh,o6,Nr,o3⟩:=ho.shape;have hins:qN ⟨o,[k,c.free]⟩:=⟨⟨by show 0<=o;omega,Nr⟩,by show IZ (Hx.shape o) _;rw[hsh];exact⟨k,[c.free],rfl,qV e3 (by omega),c.free,[],rfl,qV (by omega) (by omega),rfl⟩⟩;refine⟨fr.seq (Fr.ins ⟨o,[k,c.free]⟩),k,f2,?_,⟨e1,e2,e3,e4,jh (by show k<c.free+(2+W);omega),Fr.ug q2 (Fr.wW hins (ji o6) false),?_,?_,?_,?_⟩,?_⟩
 .rw[q1];simp only;rw[e'];simp only[Co.lay,Fr.seq,Fr.ins,nI,nk,l9,enc,aX,Co.jZ,bY]
 .show fr.jD+1<=_+1;omega
 .show max fr.deep 0<=if fs.length=0 then 0 else D+1;omega
 .have:=Jf o k c.free ⟨e3,by omega⟩ ⟨by omega,by omega⟩;show((jX (fr.is++[⟨o,[k,c.free]⟩])).length:Int)<=mP zs+25;rw[nI,aA];omega
 .refine q6.append (kY.one ?_);rw[show Hx.shape (⟨o,[k,c.free]⟩:I).o=[115,115]from hsh];exact⟨λ_=>by show k+1<=c.free+(2+W);omega,λ_=>by show c.free+1<=c.free+(2+W);omega,trivial⟩
 .intro v S jG kk lp m hv hS hd hll hlow ht;have hd:lp.length+max fr.deep 0<=8:=hd;obtain⟨m1,g1,g2,g3⟩:=q7 v S jG kk lp m hv hS.left (by omega) hll hlow.left ht;have hS2:=hS.right (q2.size kk lp);have hg:=yh (v:=v) (jG:=jG) (m:=m1) (i:=⟨o,[k,c.free]⟩) hS2.head o6 o3;rw[ho.work]at hg;refine⟨m1.put k (outcome v o (m1.get c.free) 0),g1.trans hg,?_,(g3.less (aV _) (jh (ji (by omega))) (aj _)).trans (xO e5 e3)⟩;have hlk:=hlow.right ⟨o,[k,c.free]⟩ (by simp[Fr.ins]);rw[show Hx.shape (⟨o,[k,c.free]⟩:I).o=[115,115]from hsh]at hlk;have:=hlk.1 rfl;rw[vG _ _ _ e3 (by rw[g3.len];omega),g2]
end
section
open Go.RowKit Hx
attribute [local go_sem ↓] Go.wp_at_zero Go.wp_at_succ
attribute [local go_sem] kL
section
variable {w w' w1 w2:jo}{C lo hi b S:Nat}{c:Co}{u:jr}{e l r:Ex}{a:Int}{T:jv}{x:Sx}
theorem anL{kind jy:Int}{us:List jr}(hb:w.heap[b]? =some (.cells (Im a::Im jy::Im kind::us).toArray 415)):
 Calls prog 397 #[Pt b 0] w λe w'=>e=.returned (Im (if kind=3\/kind=4 then -1 else 0))/\w'=w:=by
 have c2:=jJ 2 hb rfl;clear hb;by_cases h3:kind=3
 .subst h3;go_enter func397,ntmps397;go_wp2;go_ret;exact⟨rfl,rfl⟩
 .have b3:(kind==3)=false:=by simp[h3]
  by_cases h4:kind=4
  .subst h4;go_enter func397,ntmps397;go_wp2;go_ret;exact⟨rfl,rfl⟩
  .have b4:(kind==4)=false:=by simp[h4]
   rw[jk (by omega)];go_enter func397,ntmps397;go_wp2;go_ret;exact⟨rfl,rfl⟩
def Ak(what:List UInt8)(c:Co)(answer best one with':Int):Co:=
 if what==[109,105,110]then c.lay 25 [answer,best,one,with']else if what==[109,97,120]then c.lay 26 [answer,best,one,with']
 else if what==[115,117,109]then c.lay 10 [answer,answer,with']else if what==[97,110,121]then c.lay 20 [answer,answer,with']else c
theorem am3(what:List UInt8)(c:Co)(a b o i:Int):(Ak what c a b o i).jA=c.jA:=by
 unfold Ak;repeat' split
 all_goals rfl
theorem ada(what:List UInt8)(c:Co)(a b o i:Int):(Ak what c a b o i).code.length<=c.code.length+41:=by
 have h1:=oD c 25 [a,b,o,i];have h2:=oD c 26 [a,b,o,i];have h3:=oD c 10 [a,a,i];have h4:=oD c 20 [a,a,i];simp only[aF,bg]at h1 h2 h3 h4;unfold Ak;repeat' split
 all_goals omega
structure Ob(kind:Int)(x:Sx)(b:Wd×Ex)(c:Co)(c1 c2 c3 c4:Co)(answer best one is:Int):Prop where
 h1:c.hold=(c1,answer)
 h2:c1.hold=(c2,best)
 h3:(c2.lay 6 [answer,if kind=3\/kind=4 then -1 else 0]).jW (jQ x.base) x.jF=(c3,one)
 h4:c3.inside b.1.text b.2.does one=(c4,is)
theorem Qp{kind:Int}{what:jm}{b:Wd×Ex}{c1 c2 c3 c4:Co}{answer best one is:Int}(h:Ob kind x b c c1 c2 c3 c4 answer best one is)(into:Int):
 (yu kind what x b).give c into=(((Ak what.data.toList c4 answer best one is).lay 0 []).jZ (wrap64 (answer+1)),answer):=by
 show((_:Co),c.hold.2)=_;rw[h.h1];simp only;rw[h.h2];simp only;rw[h.h3];simp only;rw[h.h4]
 rfl
theorem Vs(kind:Int)(x:Sx)(b:Wd×Ex)(c:Co):∃c1 c2 c3 c4 answer best one is,Ob kind x b c c1 c2 c3 c4 answer best one is:=⟨_,_,_,_,_,_,_,_,rfl,rfl,rfl,rfl⟩
theorem Ob.good{kind:Int}{t:Wd}{c1 c2 c3 c4:Co}{answer best one is:Int}(h:Ob kind x (t,e) c c1 c2 c3 c4 answer best one is)(hs:wo x)(he:kE e)(hk:e.jy<=1000000):
 c1.code=c.code/\c1.jA=c.jA/\c2.code=c.code/\c2.jA=c.jA/\c3.jA=c.jA/\(c3.code.length:Int)<=c.code.length+73+200 * (x.jy-1)/\c4.jA=c.jA/\(c4.code.length:Int)<=c.code.length+123+200 * (x.jy-1)+200 * e.jy:=by
 have e1:c1=c.hold.1:=by rw[h.h1]
 have e2:c2=c1.hold.1:=by rw[h.h2]
 have e3:c3=((c2.lay 6 [answer,if kind=3\/kind=4 then -1 else 0]).jW (jQ x.base) x.jF).1:=by rw[h.h3]
 have e4:c4=(c3.inside t.text e.does one).1:=by have:=h.h4;simp only at this;rw[this]
 have k1:c1.code=c.code:=by rw[e1];rfl
 have n1:c1.jA=c.jA:=by rw[e1];rfl
 have k2:c2.code=c.code:=by rw[e2];exact k1
 have n2:c2.jA=c.jA:=by rw[e2];exact n1
 have n3:c3.jA=c.jA:=by rw[e3,aob hs];exact n2
 have k3:=VU (c:=c2.lay 6 [answer,if kind=3\/kind=4 then -1 else 0]) hs (jQ x.base);rw[<-e3]at k3;have k3':=oD c2 6 [answer,if kind=3\/kind=4 then -1 else 0];rw[k2]at k3';simp only[aF,bg]at k3';have n4:c4.jA=c.jA:=by rw[e4,UU he];exact n3
 have k4:=UR (c:=c3) he t.text one hk;rw[<-e4]at k4;exact⟨k1,n1,k2,n2,n3,by omega,n4,by omega⟩
theorem adb(hall:∀b∈x.jF,kE b.2)(hxs:0<=x.jy/\x.jy<=1000001)(kind a0 k:Int)(what:jm)(t:Wd)(he:kE e)(hk0:0<=k/\k<=1000001)(hsg:k<=1000000->wo x/\e.jy<=1000000/\2+x.jy+e.jy<=k)(dn:Dn)(hd:dn.give=(yu kind what x (t,e)).give):kE (uX 413 415 a0 k kind (Ai (AA x) (e.here e.at')) (λus=>.string what::(us.take 1++[.string t.text,Im t.at']++us.drop 1)) dn):=by
 have rO:=EL λb hb a=>(hall b hb).ok.law a;have ec:=he.ok.jy;refine⟨JL (by simp[lM]) (P6 rO (he.ok.law _)) hk0,λc into=>?_,λc into hk=>?_,?_⟩
 .obtain⟨c1,c2,c3,c4,answer,best,one,is,hm⟩:=Vs kind x (t,e) c;show(dn.give c into).1.jA=c.jA;rw[hd];rw[Qp hm];show(Ak what.data.toList c4 answer best one is).jA=c.jA;rw[am3];have e4:c4=(c3.inside t.text e.does one).1:=by have:=hm.h4;simp only at this;rw[this]
  have e3:c3=((c2.lay 6 [answer,if kind=3\/kind=4 then -1 else 0]).jW (jQ x.base) x.jF).1:=by rw[hm.h3]
  have e2:c2=c1.hold.1:=by rw[hm.h2]
  have e1:c1=c.hold.1:=by rw[hm.h1]
  have hfn:∀(fs:List (Wd×Ex))(c:Co)(one:Int),(∀b∈fs,kE b.2)->(Co.jF one fs c).jA=c.jA:=by
   intro fs;induction fs with
   |nil=>intro c one _;rfl
   |cons b fs ih=>
    intro c one hb;have e:Co.jF one (b::fs) c=Co.jF one fs (xG one c b):=rfl;rw[e,ih _ _ (λd hd=>hb d (aI _ hd)),TY one (hb b (aW ..))]
  rw[e4,UU he,e3];refine(hfn _ _ _ hall).trans ?_;rw[e2,e1]
  rfl
 .obtain⟨c1,c2,c3,c4,answer,best,one,is,hm⟩:=Vs kind x (t,e) c;obtain⟨hs,Jq,hp⟩:=hsg hk;have hg:=hm.good hs he Jq;show((dn.give c into).1.code.length:Int)<=c.code.length+200 * k+50;rw[hd];rw[Qp hm];have h1:=ada what.data.toList c4 answer best one is;have h2:=oD (Ak what.data.toList c4 answer best one is) 0 [];simp only[bg]at h2;show((((Ak what.data.toList c4 answer best one is).lay 0 []).code.length:Nat):Int)<=_;have:=hg.2.2.2.2.2.2.2;omega
 rintro a w lo hi T b C c into ⟨b',us,hv,h1,h2,⟨u,v,rfl,hu,hv2⟩,hb⟩ hC hc hr;cases hv;obtain⟨hs,Jq,hp⟩:=hsg hr.jy;have hr:Room c k:=hr;have hrc:=hr.code;have hrn:=hr.jA;have hrk:=hr.jy;obtain⟨c1,c2,c3,c4,answer,best,one,is,hm⟩:=Vs kind x (t,e) c;obtain⟨g1,g2,g3,g4,g5,g6,g7,g8⟩:=hm.good hs he Jq;obtain⟨S,fv,rfl,_⟩:=id hu;obtain⟨T2,b2,rfl,_⟩:=he.ok.head _ _ _ _ _ hv2;obtain⟨tt,ta⟩:=t;have hbC:b<C:=by omega
 have rE:=jB (λy (hy:Gk w y C)=>(hy.keep b hbC).trans hb);have GV:Hid (∀y,Gk w y C->kF y C (c2.lay 6 [answer,if kind=3\/kind=4 then -1 else 0])->Calls prog 350 #[Pt C 0,Pt S 0] y λen w'=>en=.returned (Im one)/\kF w' C c3/\Gk y w' C):=λy hy hg=>by
  have h3:=oD c2 6 [answer,if kind=3\/kind=4 then -1 else 0];simp only[aF,bg]at h3;rw[g3]at h3;have:=abb hs (rO.gk hu hy (by omega)) hC hg ⟨by omega,by omega,by show((c2.jA).length:Int)+_<=_;rw[g4];omega⟩;rw[hm.h3]at this;exact this
 have E8:Hid (∀y,Gk w y C->kF y C c3->Calls prog 352 #[Pt C 0,.agg #[.string tt,Im ta,.iface T2 (Pt b2 0)],Im one] y λen w'=>en=.returned (Im is)/\kF w' C c4/\Gk y w' C):=λy hy hg=>by
  have:=aa7 he ((he.ok.law _).gk hv2 hy (by omega)) hC hg ⟨by omega,by omega,by rw[g5];omega⟩ tt ta one;rw[hm.h4]at this;exact this
 have YX:Hid (Calls prog 306 #[Pt C 0] w λe w'=>e=.returned (Im answer)/\kF w' C c1/\Gk w w' C):=by
  have:=LP hc;rw[hm.h1]at this;exact this
 have YZ:Hid (∀y,kF y C c1->Calls prog 306 #[Pt C 0] y λe w'=>e=.returned (Im best)/\kF w' C c2/\Gk y w' C):=λy hy=>by
  have:=LP hy;rw[hm.h2]at this;exact this
 have HNo:=jB (λy (hy:Gk w y C)=>anL (rE.out y hy));have l2:c2.code.length<=850000000:=by rw[g3];omega
 have l4:c4.code.length<=850000000:=by omega
 refine⟨395,λw=>by kernel_rfl,λargs w=>by kernel_rfl,?_⟩;have nR:Hid (∀y,Gk w y C->kF y C ((Ak what.data.toList c4 answer best one is).lay 0 [])->((∃u,y.cell? (Ad C 2)=some u)/\∀j,y.frozen? (Ad C j)=false)/\kF (y.setCell (Ad C 2) (Im (wrap64 (answer+1)))) C (((yu kind what x (⟨tt,ta⟩,e)).give c into).1)/\Gk w (y.setCell (Ad C 2) (Im (wrap64 (answer+1)))) C):=λy hy hg=>by
  have e0:(yu kind what x (⟨tt,ta⟩,e)).give c into=_:=Qp hm into;rw[e0];obtain⟨v5,Nq,p5⟩:=hg;exact⟨⟨⟨_,jH p5.jL⟩,λj=>oh p5.jL⟩,⟨v5,Nq,p5.jZ _⟩,hy.trans (Gk.free _ _ _)⟩
 have hres:((yu kind what x (⟨tt,ta⟩,e)).give c into).2=answer:=by
  have e0:(yu kind what x (⟨tt,ta⟩,e)).give c into=_:=Qp hm into;rw[e0]
 show Calls prog 395 #[Pt b 0,Pt C 0,Im into] w λen w'=>en=.returned (Im (dn.give c into).2)/\kF w' C (dn.give c into).1/\Gk w w' C;rw[hd];rw[hres];clear hres hm hu hv2 hb hc hr hall rO ec hsg hs he Jq hp hrc hrn hrk g1 g2 g3 g4 g5 g6 g7 g8 hxs hd;generalize ((yu kind what x (⟨tt,ta⟩,e)).give c into).1=R at *;generalize (if kind=3\/kind=4 then (-1:Int)else 0)=zz at *;have qF:=jB (λy (hy:kF y C (Ak what.data.toList c4 answer best one is))=>FU hy 0 (by have:=ada what.data.toList c4 answer best one is;omega));obtain⟨m1,akq⟩:∃m1:Bool,(what.toList==[109,105,110])=m1:=⟨_,rfl⟩;obtain⟨m2,akr⟩:∃m2:Bool,(what.toList==[109,97,120])=m2:=⟨_,rfl⟩;obtain⟨m3,aks⟩:∃m3:Bool,(what.toList==[115,117,109])=m3:=⟨_,rfl⟩;obtain⟨m4,akt⟩:∃m4:Bool,(what.toList==[97,110,121])=m4:=⟨_,rfl⟩;have Y3:Hid (Ak what.data.toList c4 answer best one is=if m1 then c4.lay 25 [answer,best,one,is]else if m2 then c4.lay 26 [answer,best,one,is]else if m3 then c4.lay 10 [answer,answer,is]else if m4 then c4.lay 20 [answer,answer,is]else c4):=by
  unfold Ak;rw[<-aZ,akq,akr,aks,akt];exact jB rfl
 rw[Y3.out]at nR qF;clear Y3;go_enter func395,ntmps395;go_wp2_with fail;refine YX.out.mono ?_;rintro en w1 ⟨rfl,p1,q1⟩;have lZ:=jB (jg p1 q1);clear p1 q1 YX;go_wp2_with fail;refine(YZ.out _ lZ.out.1).mono ?_;rintro en w2 ⟨rfl,p2,q2⟩;have sH:=jB (Aa p2 6 answer zz (by omega));have lK:=jB (lZ.out.2.trans q2);clear p2 q2 YZ lZ;go_wp2_with fail;refine(HNo.out _ lK.out).mono ?_;rintro en w2' ⟨rfl,rfl⟩;go_wp2_with fail;refine sH.out.mono ?_;rintro en w3 ⟨rfl,p3,q3⟩;have hb3:=rE.out w3 (lK.out.trans q3);have d4:=jJ 4 hb3 rfl;have qm:=jB (jg p3 (lK.out.trans q3));clear p3 q3 hb3 sH lK;go_wp2_with fail;refine(GV.out _ qm.out.2 qm.out.1).mono ?_;rintro en w4 ⟨rfl,p4,q4⟩;have hb4:=rE.out w4 (qm.out.2.trans q4);have e5:=jJ 5 hb4 rfl;have e6:=jJ 6 hb4 rfl;have e7:=jJ 7 hb4 rfl;have sV:=jB (jg p4 (qm.out.2.trans q4));clear p4 q4 hb4 qm GV;go_wp2_with fail;refine(E8.out _ sV.out.2 sV.out.1).mono ?_;rintro en w5 ⟨rfl,p5,q5⟩;have hb5:=rE.out w5 (sV.out.2.trans q5);have f3:=jJ 3 hb5 rfl;have xw:=jB (jg p5 (sV.out.2.trans q5));clear p5 q5 hb5 sV E8 rE e5 e6 e7 d4;have IV:=jB (λo=>ajJ xw.out.1 o answer best one is (by omega));have wL:=jB (λo=>Pg xw.out.1 o answer answer is (by omega));cases m1 with
 |true=>
  simp only[dM]at nR qF;go_wp2_with fail;refine(IV.out _).mono ?_;rintro en w6 ⟨rfl,p6,q6⟩;have xU:=jB (jg p6 (xw.out.2.trans q6));clear p6 q6 IV wL xw;go_wp2_with fail;refine(qF.out _ xU.out.1).mono ?_;rintro en w7 ⟨rfl,p7,q7⟩;obtain⟨⟨⟨uu,d2⟩,fz⟩,z1,z2⟩:=nR.out w7 (xU.out.2.trans q7) p7;have HE:=jB (jg z1 z2);clear p7 q7 z1 z2 qF nR xU;go_wp2_with fail;go_ret;exact⟨rfl,HE.out⟩
 |false=>
  simp only[aH,cZ]at nR qF;cases m2 with
  |true=>
   simp only[dM]at nR qF;go_wp2_with fail;refine(IV.out _).mono ?_;rintro en w6 ⟨rfl,p6,q6⟩;have xU:=jB (jg p6 (xw.out.2.trans q6));clear p6 q6 IV wL xw;go_wp2_with fail;refine(qF.out _ xU.out.1).mono ?_;rintro en w7 ⟨rfl,p7,q7⟩;obtain⟨⟨⟨uu,d2⟩,fz⟩,z1,z2⟩:=nR.out w7 (xU.out.2.trans q7) p7;have HE:=jB (jg z1 z2);clear p7 q7 z1 z2 qF nR xU;go_wp2_with fail;go_ret;exact⟨rfl,HE.out⟩
  |false=>
   simp only[aH,cZ]at nR qF;cases m3 with
   |true=>
    simp only[dM]at nR qF;go_wp2_with fail;refine(wL.out _).mono ?_;rintro en w6 ⟨rfl,p6,q6⟩;have xU:=jB (jg p6 (xw.out.2.trans q6));clear p6 q6 IV wL xw;go_wp2_with fail;refine(qF.out _ xU.out.1).mono ?_;rintro en w7 ⟨rfl,p7,q7⟩;obtain⟨⟨⟨uu,d2⟩,fz⟩,z1,z2⟩:=nR.out w7 (xU.out.2.trans q7) p7;have HE:=jB (jg z1 z2);clear p7 q7 z1 z2 qF nR xU;go_wp2_with fail;go_ret;exact⟨rfl,HE.out⟩
   |false=>
    simp only[aH,cZ]at nR qF;cases m4 with
    |true=>
     simp only[dM]at nR qF;go_wp2_with fail;refine(wL.out _).mono ?_;rintro en w6 ⟨rfl,p6,q6⟩;have xU:=jB (jg p6 (xw.out.2.trans q6));clear p6 q6 IV wL xw;go_wp2_with fail;refine(qF.out _ xU.out.1).mono ?_;rintro en w7 ⟨rfl,p7,q7⟩;obtain⟨⟨⟨uu,d2⟩,fz⟩,z1,z2⟩:=nR.out w7 (xU.out.2.trans q7) p7;have HE:=jB (jg z1 z2);clear p7 q7 z1 z2 qF nR xU;go_wp2_with fail;go_ret;exact⟨rfl,HE.out⟩
    |false=>
     simp only[aH,cZ]at nR qF;go_wp2_with fail;refine(qF.out _ xw.out.1).mono ?_;rintro en w7 ⟨rfl,p7,q7⟩;obtain⟨⟨⟨uu,d2⟩,fz⟩,z1,z2⟩:=nR.out w7 (xw.out.2.trans q7) p7;have HE:=jB (jg z1 z2);clear p7 q7 z1 z2 qF nR xw;go_wp2_with fail;go_ret;exact⟨rfl,HE.out⟩
theorem ade{N:Nat}(hN:N<=100000)(h:qY N kE x)(kind:Int)(what:jm)(t:Wd)(he:kE e):kE (vK kind what x (t,e)):=by
 have hl:∀b∈x.jF,∀a,Lawful (b.2.here a):=λb hb a=>(h.all b hb).ok.law a;have rO:Lawful (oN x):=NM hl;have ec:=he.ok.jy;refine(adb h.all h.jy kind x.at' (jS [x.jy,x.round e.jy]) what t he (rC h.jy (uf ec)) (λhk=>?_) (yu kind what x (t,e)) rfl).of (vP (by simp[lM]) (wC rO (he.ok.law _)) (rC h.jy (uf ec))).base
  (λ_ _ _ _ _ hh=>JQ (λ_ _ _ _ _ ⟨m,u,v,e',h1,h2,hu,hv⟩ hb=>⟨u,v,e',(EL hl).wide _ _ _ _ _ _ (WE hl hu) (aj _) (by omega),(he.ok.law _).wide _ _ _ _ _ _ hv h1 hb⟩) hh) rfl rfl
 have hrb:=uf (x:=x) ec;have hp:=zJ h.jy.1 h.jy.2 hrb.1 hrb.2 hk;have hg:=NH (x:=x) ec.1 (by have:=h.jy;omega);exact⟨wo.of hN h (by omega),by have:=h.jy;omega,by omega⟩
theorem ajL(N:Nat)(hN:N<=100000):Ci N kE kE where
 jy:=λ_ h=>h.ok.jy
 number:=adB
 oI:=arq
 none:=adu
 register:=aeJ
 use:=agp
 widen:=λ_ a h=>agx h a
 isNone:=λa _ h=>acj h a
 minus:=λa sign _ _ h=>VK h a 1 sign
 not:=λa sign _ _ h=>VK h a 2 sign
 two:=λa sign _ _ h k=>agh h k a _ sign
 property:=λa _ t h=>aep h a _ _ t
 Qw:=λa _ _ h k=>adH h k a
 Lc:=λk what _ h=>Zt hN h k what
 Gf:=λk what _ b h hb=>ade hN h k what b.1 hb
theorem aju(s:jm)(hs:s.size<=4000)(d:Nat)(p:Ps):kE (vF s d p).1:=
 OT s (λ_=>kE) adu (λ_=>ajL (s.size+1) (by omega)) d p
end
end
section
open Go.RowKit Hx
def Ag(w:List UInt8):Bool:=w==[109,105,110]
def isMax(w:List UInt8):Bool:=w==[109,97,120]
def Jt(w:List UInt8):Bool:=w==[115,117,109]
def isAny(w:List UInt8):Bool:=w==[97,110,121]
def qh(w:List UInt8)(acc:Int×Int)(i x:Int):Int×Int:=
 if Ag w then (if decide (x<acc.2)||acc.1== -1 then (i,x)else acc)
 else if isMax w then (if decide (acc.2<x)||acc.1== -1 then (i,x)else acc)
 else if Jt w then (wrap64 (acc.1+x),acc.2)
 else if isAny w then (bits .or .i64 acc.1 x,acc.2)
 else acc
def sD(w:List UInt8)(answer best one is:Int):Fr:=
 if Ag w then Fr.ins ⟨25,[answer,best,one,is]⟩else if isMax w then Fr.ins ⟨26,[answer,best,one,is]⟩
 else if Jt w then Fr.ins ⟨10,[answer,answer,is]⟩else if isAny w then Fr.ins ⟨20,[answer,answer,is]⟩else Fr.nil
def BL(w:List UInt8)(init list:Int)(fs:List (Wd×Ex))(zs:List (Sz×Val))(t:jm)(f:Val):Val:=λe v σ=>
 ((Am v list).foldl (λacc i=>if ny fs zs e v σ i then qh w acc i (f (e++[(t,i)]) v σ)else acc) (init,0)).1
theorem am0{w:List UInt8}{init list:Int}{fs:List (Wd×Ex)}{zs:List (Sz×Val)}{t:jm}{f:Val}(h:∀p∈zs,uj p.2)(hf:uj f):uj (BL w init list fs zs t f):=λe v σ τ ha=>by
 unfold BL;have:(λ(acc:Int×Int)(i:Int)=>if ny fs zs e v σ i then qh w acc i (f (e++[(t,i)]) v σ)else acc)=(λacc i=>if ny fs zs e v τ i then qh w acc i (f (e++[(t,i)]) v τ)else acc):=by
  funext acc i
  rw[MJ fs zs h e v σ τ i ha,hf (e++[(t,i)]) v σ τ ha]
 rw[this]
theorem Qr(w:List UInt8)(h1:Ag w=false)(h2:isMax w=false)(kp:Int->Bool)(x:Int->Int):∀(l:List Int)(a b b':Int),
 (l.foldl (λacc i=>if kp i then qh w acc i (x i)else acc) ((a,b):Int×Int)).1=(l.foldl (λacc i=>if kp i then qh w acc i (x i)else acc) ((a,b'):Int×Int)).1
 |[],_,_,_=>rfl
 |i::l,a,b,b'=>by
  rw[bP,bP];cases hk:kp i with
  |false=>
   simp only[aH,cZ];exact Qr w h1 h2 kp x l a b b'
  |true=>
   simp only[dM];have e:∀b,qh w (a,b) i (x i)=((qh w (a,0) i (x i)).1,b):=λb=>by
    unfold qh;simp only[h1,h2,aH,cZ];split
    .rfl
    .split<;>rfl
   rw[e b,e b'];exact Qr w h1 h2 kp x l _ b b'
theorem VB(w:List UInt8)(kp:Int->Bool)(x:Int->Int):∀(l:List Int)(b b':Int),
 (l.foldl (λacc i=>if kp i then qh w acc i (x i)else acc) ((-1,b):Int×Int)).1=(l.foldl (λacc i=>if kp i then qh w acc i (x i)else acc) ((-1,b'):Int×Int)).1
 |[],_,_=>rfl
 |i::l,b,b'=>by
  by_cases h1:Ag w=true
  .rw[bP,bP];cases hk:kp i with
   |false=>
    simp only[aH,cZ];exact VB w kp x l b b'
   |true=>
    simp only[dM];have e:∀b,qh w (-1,b) i (x i)=(i,x i):=λb=>by simp[qh,h1]
    rw[e b,e b']
  .by_cases h2:isMax w=true
   .rw[bP,bP];cases hk:kp i with
    |false=>
     simp only[aH,cZ];exact VB w kp x l b b'
    |true=>
     simp only[dM];have e:∀b,qh w (-1,b) i (x i)=(i,x i):=λb=>by simp[qh,h1,h2]
     rw[e b,e b']
   .exact Qr w (by simpa using h1) (by simpa using h2) kp x (i::l) (-1) b b'
theorem am8{w:List UInt8}{answer best one is:Int}(ha:0<=answer/\answer<2008)(hb:0<=best/\best<2008)(ho:0<=one/\one<2008)(hi:0<=is/\is<2008)(x:Bool):
 (sD w answer best one is).Ok x/\(sD w answer best one is).jD<=1/\(sD w answer best one is).deep=0/\((jX (sD w answer best one is).is).length:Int)<=9/\∀b,answer<b->best<b->one<b->is<b->kY (sD w answer best one is).is b:=by
 have s4:∀o:Int,o=25\/o=26->qN ⟨o,[answer,best,one,is]⟩:=λo h=>⟨⟨by show 0<=o;omega,by show o<=36;omega⟩,by
  rcases h with rfl|rfl<;>exact⟨answer,[best,one,is],rfl,qV ha.1 ha.2,best,[one,is],rfl,qV hb.1 hb.2,one,[is],rfl,qV ho.1 ho.2,is,[],rfl,qV hi.1 hi.2,rfl⟩⟩
 have s3:∀o:Int,o=10\/o=20->qN ⟨o,[answer,answer,is]⟩:=λo h=>⟨⟨by show 0<=o;omega,by show o<=36;omega⟩,by
  rcases h with rfl|rfl<;>exact⟨answer,[answer,is],rfl,qV ha.1 ha.2,answer,[is],rfl,qV ha.1 ha.2,is,[],rfl,qV hi.1 hi.2,rfl⟩⟩
 have l4:∀o:Int,((jX [⟨o,[answer,best,one,is]⟩]).length:Int)<=9:=λo=>by
  have:=xq answer ha.1 ha.2;have:=xq best hb.1 hb.2;have:=xq one ho.1 ho.2;have:=xq is hi.1 hi.2;simp only[nk,l9,enc,aX,aF,c8,dJ,aA];omega
 have l3:∀o:Int,((jX [⟨o,[answer,answer,is]⟩]).length:Int)<=9:=λo=>by have:=aaH o answer answer is ha ha hi;omega
 have w4:∀(o b:Int),answer<b->best<b->one<b->is<b->kY [⟨o,[answer,best,one,is]⟩] b:=λo b h1 h2 h3 h4=>kY.one (Vm λn hn=>by
  simp only[dh,dU,or_false]at hn;rcases hn with rfl|rfl|rfl|rfl<;>omega)
 have w3:∀(o b:Int),answer<b->is<b->kY [⟨o,[answer,answer,is]⟩] b:=λo b h1 h4=>kY.one (Vm λn hn=>by
  simp only[dh,dU,or_false]at hn;rcases hn with rfl|rfl|rfl<;>omega)
 unfold sD;split
 .exact⟨Fr.wW (s4 25 (ji rfl)) (ji (by show(6:Int)<=25;omega)) x,aV _,rfl,l4 25,w4 25⟩
 .split
  .exact⟨Fr.wW (s4 26 (jh rfl)) (ji (by show(6:Int)<=26;omega)) x,aV _,rfl,l4 26,w4 26⟩
  .split
   .exact⟨Fr.wW (s3 10 (ji rfl)) (ji (by show(6:Int)<=10;omega)) x,aV _,rfl,l3 10,λb h1 _ _ h4=>w3 10 b h1 h4⟩
   .split
    .exact⟨Fr.wW (s3 20 (jh rfl)) (ji (by show(6:Int)<=20;omega)) x,aV _,rfl,l3 20,λb h1 _ _ h4=>w3 20 b h1 h4⟩
    .exact⟨Fr.Nj x,by show(0:Int)<=1;omega,rfl,by simp[Fr.nil,l9],λb _ _ _ _=>kY.nil _⟩
theorem am9{w:List UInt8}{answer best one is:Int}{v:Vw}{S:List St}{jG:List Int}{k:Nat}{lp:List Int}{m:Mc}(ha:0<=answer)(hb:0<=best)(hab:answer≠best)(hl:answer<m.jE.length)(hl2:best<m.jE.length)(hS:sK S k ((sD w answer best one is).jC k lp)){free:Int}(h1:free<=answer)(h2:free<=best)(d:Nat):
 ∃m',Reaches v S jG k m (k+(sD w answer best one is).size) m'/\oC free (-1) d m m'/\(m'.get answer,m'.get best)=qh w (m.get answer,m.get best) (m.get one) (m.get is):=by
 unfold sD at hS⊢;unfold qh;split at hS
 .rename_i hc;rw[jl hc,jl hc];have g0:=yh (v:=v) (jG:=jG) (m:=m) hS.head (by show(6:Int)<=25;omega) (by show(25:Int)≠36;omega);have hw:Hx.work v (stepOf ⟨25,[answer,best,one,is]⟩) m=if (decide (m.get is<m.get best)||m.get answer== -1)=true then (m.put answer (m.get one)).put best (m.get is)else m:=by
   unfold Hx.work;rw[jk (by show¬(25:Int)=6;omega),jk (by show¬(25:Int)=21;omega),jk (by show¬(25:Int)=22;omega),jl (by rfl)]
   rfl
  rw[hw]at g0;split at g0
  .rename_i hcc;refine⟨_,g0,(xO (jh h1) ha).trans (xO (jh h2) hb),?_⟩;rw[jl hcc,vG _ best _ hb (by rw[Du];exact hl2),BD _ answer best _ ha hb hab,vG _ _ _ ha hl]
  .rename_i hcc;refine⟨_,g0,oC.refl _ _ _ _,?_⟩;rw[jk hcc]
 .split at hS
  .rename_i hn hc;rw[jk hn,jl hc];have g0:=yh (v:=v) (jG:=jG) (m:=m) hS.head (by show(6:Int)<=26;omega) (by show(26:Int)≠36;omega);have hw:Hx.work v (stepOf ⟨26,[answer,best,one,is]⟩) m=if (decide (m.get best<m.get is)||m.get answer== -1)=true then (m.put answer (m.get one)).put best (m.get is)else m:=by
    unfold Hx.work;rw[jk (by show¬(26:Int)=6;omega),jk (by show¬(26:Int)=21;omega),jk (by show¬(26:Int)=22;omega),jk (by show¬(26:Int)=25;omega),jl (by rfl)]
    rfl
   rw[hw]at g0;rw[jk hn,jl hc];split at g0
   .rename_i hcc;refine⟨_,g0,(xO (jh h1) ha).trans (xO (jh h2) hb),?_⟩;rw[jl hcc,vG _ best _ hb (by rw[Du];exact hl2),BD _ answer best _ ha hb hab,vG _ _ _ ha hl]
   .rename_i hcc;refine⟨_,g0,oC.refl _ _ _ _,?_⟩;rw[jk hcc]
  .split at hS
   .rename_i hn hn2 hc;rw[jk hn,jk hn2,jl hc,jk hn,jk hn2,jl hc];have g0:=yh (v:=v) (jG:=jG) (m:=m) hS.head (by show(6:Int)<=10;omega) (by show(10:Int)≠36;omega);have ht:zV 10:=ji ⟨by omega,by omega⟩;rw[ht.work]at g0;refine⟨_,g0,xO (jh h1) ha,?_⟩;rw[vG _ _ _ ha hl,BD _ best answer _ hb ha (λe=>hab e.symm)]
    rfl
   .split at hS
    .rename_i hn hn2 hn3 hc;rw[jk hn,jk hn2,jk hn3,jl hc,jk hn,jk hn2,jk hn3,jl hc];have g0:=yh (v:=v) (jG:=jG) (m:=m) hS.head (by show(6:Int)<=20;omega) (by show(20:Int)≠36;omega);have ht:zV 20:=ji ⟨by omega,by omega⟩;rw[ht.work]at g0;refine⟨_,g0,xO (jh h1) ha,?_⟩;rw[vG _ _ _ ha hl,BD _ best answer _ hb ha (λe=>hab e.symm)]
     rfl
    .rename_i hn hn2 hn3 hn4;rw[jk hn,jk hn2,jk hn3,jk hn4,jk hn,jk hn2,jk hn3,jk hn4];exact⟨m,Reaches.refl _ _ _ _ _,oC.refl _ _ _ _,rfl⟩
theorem ana(w:List UInt8)(c:Co)(answer best one is:Int):(if w==[109,105,110]then c.lay 25 [answer,best,one,is]else if w==[109,97,120]then c.lay 26 [answer,best,one,is]else if w==[115,117,109]then c.lay 10 [answer,answer,is]else if w==[97,110,121]then c.lay 20 [answer,answer,is]else c)=⟨c.code++jX (sD w answer best one is).is,c.jA,c.free⟩:=by
 unfold sD Ag isMax Jt isAny;split
 .simp only[Co.lay,Fr.ins,nk,l9,enc,aX]
 .split
  .simp only[Co.lay,Fr.ins,nk,l9,enc,aX]
  .split
   .simp only[Co.lay,Fr.ins,nk,l9,enc,aX]
   .split
    .simp only[Co.lay,Fr.ins,nk,l9,enc,aX]
    .simp[Fr.nil,l9]
theorem ac9{P:Ck->Prop}{kind kd W:Int}{D:Nat}(hk:kind≠2)(what:jm){x:Sx}{zs:List (Sz×Val)}(hfs:∀ck,P ck->zh ck kind x.jF zs)(hcg:∀p∈zs,uj p.2)(hz:∀p∈zs,p.1.wide<=W/\p.1.deep<=D)(t:Wd){e:Ex}{ze:Sz}{fe:Val}(hce:uj fe)
 (he:∀ck,P ck->Mx (λwB=>wB=ck.add t.text kind false) e.does.give ze fe)(hze:ze.wide<=W/\ze.deep<=D)(hW:0<=W)(hmk:Ag what.data.toList=true\/isMax what.data.toList=true->kd=3\/kd=4):
 Mx P (yu kd what x (t,e)).give ⟨3+W,D+1,3+Hx.kQ (jQ x.base) * (lT zs+ze.jD+2),mP zs+ze.jM+24⟩ (BL what.data.toList (if kd=3\/kd=4 then -1 else 0) (jQ x.base) x.jF zs t.text fe):=by
 have hl:0<=jQ x.base/\jQ x.base<3:=by unfold jQ;split<;>(try split)<;>omega
 refine⟨am0 hcg hce,?_⟩;intro ck c into hf hP hw hi;have h8:=hf.free;have hw:c.free+(3+W)<=2008:=hw;obtain⟨init,hin⟩:∃init:Int,(if kd=3\/kd=4 then (-1:Int)else 0)=init:=⟨_,rfl⟩;have abJ:jO init/\(pK init).length<=1:=by
  subst hin;split
  .exact⟨by unfold jO;omega,by decide⟩
  .exact⟨by unfold jO;omega,by decide⟩
 rw[hin];obtain⟨asF,asG⟩:=hze;obtain⟨ft,q1,q2,q3,q4,q5,q6,q7⟩:=adZ (ck:=ck) (kind:=kind) (one:=c.free+2) (W:=W) (list:=jQ x.base) (D:=D) hk (⟨c.code++jX [⟨6,[c.free,init]⟩],c.jA,c.free+2⟩:Co) (hf.more (by omega)) rfl (hfs ck hP) hz hW (by omega);obtain⟨yT,is,f',e1,xs,wk⟩:=(he ck hP).lay (ck.add t.text kind false) ((⟨c.code++jX [⟨6,[c.free,init]⟩]++jX [⟨21,[c.free+2,jQ x.base]⟩]++enc ⟨4,[jQ x.base,c.free+2,c.free+2]⟩++jX ft.is,c.jA,c.free+2+1⟩:Co).know t.text (c.free+2)) (-1) ((hf.more (f':=c.free+2+1) (by omega)).know (by omega) (by show c.free+2<c.free+2+1;omega)) rfl (by show c.free+2+1+ze.wide<=2008;omega) (ji rfl);have x0:=xs.r0;have x1:=xs.r1;have x3:is<c.free+2+1\/is<c.free+2+1+ze.wide:=xs.r3;have his:is<c.free+(3+W):=by omega
 obtain⟨k1,k2,k3,k4,k5⟩:=am8 (w:=what.data.toList) (answer:=c.free) (best:=c.free+1) (one:=c.free+2) (is:=is) ⟨by omega,by omega⟩ ⟨by omega,by omega⟩ ⟨by omega,by omega⟩ ⟨x0,by omega⟩ true;have htl:=Fr.ug xs.ok.inside k1;have hset:=ae8 (list:=jQ x.base) (one:=c.free+2) (by omega) (by omega) hl q2 htl;have xn:=xs.jD;have xd:=xs.deep;have xl:=xs.jM;refine⟨(Fr.ins ⟨6,[c.free,init]⟩).seq (xP (jQ x.base) (c.free+2) ft (yT.seq (sD what.data.toList c.free (c.free+1) (c.free+2) is))),c.free,c.free+1,?_,⟨by omega,aV _,by omega,by omega,jh (by show c.free<c.free+(3+W);omega),Fr.ug (Fr.wW (ady ⟨by omega,by omega⟩ abJ.1) (ji (by show(6:Int)<=6;omega)) false) hset,?_,?_,?_,?_⟩,?_⟩
 .simp only[yu];rw[Me c (by omega) (by omega)];simp only;have hh:(c.jZ (c.free+1)).hold=(c.jZ (c.free+2),c.free+1):=by
   have:=Me (c.jZ (c.free+1)) (by show 0<=c.free+1;omega) (by show c.free+1<=1000000;omega);rw[this];show(c.jZ (c.free+1+1),c.free+1)=_;rw[show c.free+1+1=c.free+2 by omega]
  rw[hh,hin];simp only;have e0:(c.jZ (c.free+2)).lay 6 [c.free,init]=⟨c.code++jX [⟨6,[c.free,init]⟩],c.jA,c.free+2⟩:=by simp only[Co.lay,Co.jZ,nk,l9,enc,aX]
  rw[e0,q1];unfold Co.inside;simp only;rw[e1];simp only;rw[ana];have ew:wrap64 (c.free+1)=c.free+1:=NW _ (by unfold jO;omega);rw[ew];simp only[Co.lay,Co.jZ,Co.cut,Co.know,Fr.seq,Fr.ins,xP,Fr.loop,nI,nk,l9,aX,bY,bZ,enc,dP,dJ,iM]
 .show 1+(1+(1+Hx.kQ (jQ x.base) * (ft.jD+(yT.jD+(sD what.data.toList c.free (c.free+1) (c.free+2) is).jD)+1)))<=3+Hx.kQ (jQ x.base) * (lT zs+ze.jD+2);have hm:Hx.kQ (jQ x.base) * (ft.jD+(yT.jD+(sD what.data.toList c.free (c.free+1) (c.free+2) is).jD)+1)<=Hx.kQ (jQ x.base) * (lT zs+ze.jD+2):=fB (by omega) (by have:=Jy (jQ x.base);omega);omega
 .show max 0 (max 0 (max ft.deep (max yT.deep (sD what.data.toList c.free (c.free+1) (c.free+2) is).deep)+1))<=D+1;omega
 .have hsl:=ae6 (list:=jQ x.base) (one:=c.free+2) (ft:=ft) (tl:=yT.seq (sD what.data.toList c.free (c.free+1) (c.free+2) is)) (a:=mP zs) (b:=ze.jM+9) (by omega) (by omega) hl q5 (by
   show((jX (yT.is++(sD what.data.toList c.free (c.free+1) (c.free+2) is).is)).length:Int)<=_;rw[nI,aA];omega)
  have h6:((jX [⟨6,[c.free,init]⟩]).length:Int)<=4:=by
   have:=xq c.free (by omega) (by omega);have:=abJ.2;simp only[nk,l9,enc,aX,aF,c8,dJ,aA];omega
  show((jX ([⟨6,[c.free,init]⟩]++(xP (jQ x.base) (c.free+2) ft (yT.seq (sD what.data.toList c.free (c.free+1) (c.free+2) is))).is)).length:Int)<=mP zs+ze.jM+24;rw[nI,aA];omega
 .refine kY.append (kY.one ⟨λ_=>by show c.free+1<=c.free+(3+W);omega,(λe=>by cases e),trivial⟩) (ae7 (by show c.free+2+1<=c.free+(3+W);omega) (q6.wide (by show c.free+2+1+W<=c.free+(3+W);omega)) ((xs.low.wide ?_).append (k5 _ ?_ ?_ ?_ his)))
  .show c.free+2+1+ze.wide<=c.free+(3+W);omega
  .show c.free<c.free+(3+W);omega
  .show c.free+1<c.free+(3+W);omega
  .show c.free+2<c.free+(3+W);omega
 .intro v S jG k lp m hv hS hd hll hlow ht;have hd:lp.length+max 0 (max 0 (max ft.deep (max yT.deep (sD what.data.toList c.free (c.free+1) (c.free+2) is).deep)+1))<=8:=hd;have hS1:=hS.left.head;have hS2:=hS.right rfl;have abL:=hlow.right;have hone:c.free+2<m.jE.length:=by
   have:=(abL.left ⟨21,[c.free+2,jQ x.base]⟩ (by simp[Fr.ins])).1 rfl;omega
  have g0:=yh (v:=v) (jG:=jG) (m:=m) hS1 (by show(6:Int)<=6;omega) (by show(6:Int)≠36;omega);have hw:Hx.work v (stepOf ⟨6,[c.free,init]⟩) m=m.put c.free init:=by
   unfold Hx.work;rw[jl (by rfl)]
   rfl
  rw[hw]at g0;have hs0:oC c.free (-1) lp.length m (m.put c.free init):=xO (jh (aV _)) (by omega);have hacc:((m.put c.free init).get c.free,(m.put c.free init).get (c.free+1))=(init,m.get (c.free+1)):=by rw[vG _ _ _ (by omega) (by omega),BD _ _ _ _ (by omega) (by omega) (by omega)]
  obtain⟨m',p1,p2,p3⟩:=afk (ck:=ck) (c0:=c) (c1:=⟨c.code,c.jA,c.free+2+1⟩) (one:=c.free+2) (list:=jQ x.base) (ft:=ft) (tl:=yT.seq (sD what.data.toList c.free (c.free+1) (c.free+2) is)) (bs:=x.jF) (zs:=zs) (kind:=kind) (m0:=m.put c.free init) (jG:=jG) (S:=S) (k:=k+1) (lp:=lp)
   (λ(acc:Int×Int) m=>(m.get c.free,m.get (c.free+1))=acc) (λacc i=>qh what.data.toList acc i (fe (lu c (m.put c.free init).get++[(t.text,i)]) v (m.put c.free init).get)) hv hf rfl (by omega) (by show c.free+2<c.free+2+1;omega) (hfs ck hP) q2 htl (q7 _)
   (λacc m m' hlen hsl hr=>by
     have h1:=hsl c.free (aV _) (by omega);have h2:=hsl (c.free+1) (by omega) (by omega);show(m'.get c.free,m'.get (c.free+1))=acc;rw[h1,h2];exact hr) (Gx ht hs0 hf)
   (λS k lp m1 acc i hS hd akm hlow2 hsm UH i0 i1 hr=>by
     have hd:lp.length+max yT.deep (sD what.data.toList c.free (c.free+1) (c.free+2) is).deep<=8:=hd;have ty1:Ty ck c m1.get:=Gx (Gx ht hs0 hf) hsm hf;obtain⟨m2,y1,y2,y3⟩:=wk v S jG k lp m1 hv hS.left (by omega) akm hlow2.left (Ty.know (c:=⟨c.code++jX [⟨6,[c.free,init]⟩]++jX [⟨21,[c.free+2,jQ x.base]⟩]++enc ⟨4,[jQ x.base,c.free+2,c.free+2]⟩++jX ft.is,c.jA,c.free+2+1⟩) (hf.more (by omega)) (ty1.jA rfl) (by rw[UH];unfold jO;omega) (λe=>jq e hk));have y3:oC (c.free+2+1) (-1) lp.length m1 m2:=y3;rw[aaL]at y2;have henv:lu (⟨c.code++jX [⟨6,[c.free,init]⟩]++jX [⟨21,[c.free+2,jQ x.base]⟩]++enc ⟨4,[jQ x.base,c.free+2,c.free+2]⟩++jX ft.is,c.jA,c.free+2+1⟩:Co) m1.get=lu c (m.put c.free init).get:=BA (c:=c) hf hsm;rw[henv,UH,hce _ v m1.get (m.put c.free init).get λj j0 j1=>hsm.jE j j0 (by omega) (by omega)]at y2;have abM:m2.jE.length=m.jE.length:=by rw[y3.len,hsm.len,Du]
     obtain⟨m3,r1,r2,r3⟩:=am9 (w:=what.data.toList) (answer:=c.free) (best:=c.free+1) (one:=c.free+2) (is:=is) (v:=v) (S:=S) (jG:=jG) (k:=k+yT.size) (lp:=lp) (m:=m2) (by omega) (by omega) (by omega) (by rw[abM];omega) (by rw[abM];omega) (hS.right (xs.ok.size k lp)) (free:=c.free) (aV _) (by omega) lp.length;refine⟨m3,?_,(y3.less (by omega) (ji rfl) (aj _)).trans r2,?_⟩
     .show Reaches v S jG k m1 (k+(yT.size+(sD what.data.toList c.free (c.free+1) (c.free+2) is).size)) m3;rw[<-fE];exact y1.trans r1
     .show(m3.get c.free,m3.get (c.free+1))=qh what.data.toList acc i _;rw[r3,y2,y3.jE c.free (by omega) (by omega) (by omega),y3.jE (c.free+1) (by omega) (by omega) (by omega),y3.jE (c.free+2) (by omega) (by omega) (by omega),UH];have hr:(m1.get c.free,m1.get (c.free+1))=acc:=hr;rw[hr])
   hS2 (by show lp.length+max 0 (max ft.deep (max yT.deep (sD what.data.toList c.free (c.free+1) (c.free+2) is).deep)+1)<=8;omega) (by exact hll) (by rw[Du];exact abL) (acc0:=(init,m.get (c.free+1))) hacc
  refine⟨m',?_,?_,(hs0.trans p2).less (aV _) (jh (ji (by omega))) (aj _)⟩
  .show Reaches v S jG k m (k+(1+(xP (jQ x.base) (c.free+2) ft (yT.seq (sD what.data.toList c.free (c.free+1) (c.free+2) is))).size)) m';rw[<-fE];exact g0.trans p1
  .have p3:=p3;have hm:=congrArg Prod.fst p3;have hm:m'.get c.free=_:=hm;rw[hm,BA hf hs0];have hfun:(λ(acc:Int×Int)(i:Int)=>if ny x.jF zs (lu c m.get) v (m.put c.free init).get i then qh what.data.toList acc i (fe (lu c m.get++[(t.text,i)]) v (m.put c.free init).get)else acc)=(λacc i=>if ny x.jF zs (lu c m.get) v m.get i then qh what.data.toList acc i (fe (lu c m.get++[(t.text,i)]) v m.get)else acc):=by
    funext acc i
    rw[MJ x.jF zs hcg _ v (m.put c.free init).get m.get i λj j0 j1=>hs0.jE j j0 (by omega) (by omega),hce _ v (m.put c.free init).get m.get λj j0 j1=>hs0.jE j j0 (by omega) (by omega)]
   rw[hfun];unfold BL;by_cases hkd:kd=3\/kd=4
   .rw[jl hkd]at hin;subst hin;exact VB _ _ _ _ _ _
   .have hn:Ag what.data.toList=false/\isMax what.data.toList=false:=by
     constructor
     .cases hq:Ag what.data.toList with
      |false=>rfl
      |true=>exact jq (hmk (ji hq)) hkd
     .cases hq:isMax what.data.toList with
      |false=>rfl
      |true=>exact jq (hmk (jh hq)) hkd
    exact Qr _ hn.1 hn.2 _ _ _ _ _ _
end
end Go.Proofs.YthllhabjfchgiaaGreatDoor
