import Derived.Test.YthllhabjfchgiaaGreatDoorHb26
set_option maxRecDepth 100000
set_option maxHeartbeats 8000000
set_option linter.unusedSimpArgs false
namespace Go.Proofs.YthllhabjfchgiaaGreatDoor
open _root_.Go.Proofs.Tryz
section
open Go.RowKit Hx
theorem Fit.know{ck:Ck}{c:Co}(h:Fit ck c){t:jm}{kind one:Int}{iv:Bool}(h0:0<=one)(h1:one<c.free):Fit (ck.add t kind iv) (c.know t one):=by
 refine⟨h.en,?_,λn hn=>?_,h.free⟩
 .show(ck.jA++[(⟨t,kind,iv⟩:Kn)]).map (λk=>k.name.data.toList)=(c.jA++[(t,one)]).map (λn=>n.1.data.toList);rw[dF,dF,h.jA]
  rfl
 .rcases List.mem_append.1 (show n∈c.jA++[(t,one)]from hn)with hn|hn
  .exact h.jE n hn
  .rw[cO.1 hn];exact⟨h0,h1⟩
theorem Fit.lens{ck:Ck}{c:Co}(h:Fit ck c):ck.jA.length=c.jA.length:=by
 have:=congrArg List.length h.jA;simpa using this
theorem Ty.know{ck:Ck}{c:Co}{σ:Int->Int}(hf:Fit ck c)(h:Ty ck c σ){t:jm}{kind one:Int}{iv:Bool}(h1:jO (σ one))(hk:kind=2->σ one=0\/σ one=1):Ty (ck.add t kind iv) (c.know t one) σ:=by
 refine⟨h.jG,λn hn=>?_,λj k n hj hn hd=>?_⟩
 .rcases List.mem_append.1 (show n∈c.jA++[(t,one)]from hn)with hn|hn
  .exact h.num n hn
  .rw[cO.1 hn];exact h1
 .have hl:=hf.lens;have hj:(ck.jA++[⟨t,kind,iv⟩])[j]? =some k:=hj;have hn:(c.jA++[(t,one)])[j]? =some n:=hn;rcases dG j ck.jA.length with hlt|hge
  .rw[aT hlt]at hj;rw[aT (by omega)]at hn;exact h.oI j k n hj hn hd
  .rw[bW hge]at hj;rw[bW (by omega)]at hn;rcases gJ (j-ck.jA.length)with h0|h0
   .rw[h0]at hj;rw[show j-c.jA.length=0 by omega]at hn;simp only[dw,bJ]at hj hn;subst hj hn;exact hk hd
   .rw[bV (by simp;omega)]at hj;cases hj
def zh(ck:Ck)(kind:Int):List (Wd×Ex)->List (Sz×Val)->Prop
 |[],zs=>zs=[]
 |b::bs,zs=>∃z f zs',zs=(z,f)::zs'/\Mx (λwB=>wB=ck.add b.1.text kind false) b.2.does.give z f/\zh ck kind bs zs'
def ny:List (Wd×Ex)->List (Sz×Val)->List (jm×Int)->Vw->(Int->Int)->Int->Bool
 |b::bs,(_,f)::zs,ns,v,σ,i=>decide (f (ns++[(b.1.text,i)]) v σ≠0)&&ny bs zs ns v σ i
 |_,_,_,_,_,_=>true
def lT(zs:List (Sz×Val)):Int:=(zs.map λp=>p.1.jD+1).sum
def mP(zs:List (Sz×Val)):Int:=(zs.map λp=>p.1.jM+3).sum
theorem MJ:∀(bs:List (Wd×Ex))(zs:List (Sz×Val)),(∀p∈zs,uj p.2)->∀(ns:List (jm×Int))(v:Vw)(σ τ:Int->Int)(i:Int),(∀i,0<=i->i<8->σ i=τ i)->ny bs zs ns v σ i=ny bs zs ns v τ i
 |[],_,_,_,_,_,_,_,_=>by simp[ny]
 |_::_,[],_,_,_,_,_,_,_=>by simp[ny]
 |b::bs,(z,f)::zs,h,ns,v,σ,τ,i,ha=>by
  have e:f (ns++[(b.1.text,i)]) v σ=f (ns++[(b.1.text,i)]) v τ:=h (z,f) (aW ..) (ns++[(b.1.text,i)]) v σ τ ha;simp only[ny];rw[e,MJ bs zs (λp hp=>h p (aI _ hp)) ns v σ τ i ha]
theorem zh.pq{ck:Ck}{kind:Int}:∀{bs:List (Wd×Ex)}{zs:List (Sz×Val)},zh ck kind bs zs->∀p∈zs,uj p.2
 |[],_,h,p,hp=>by
  rw[show _=[]from h]at hp;simp at hp
 |_::_,_,⟨_,_,_,rfl,h1,h2⟩,p,hp=>by
  rcases dh.1 hp with rfl|hp
  .exact h1.pq
  .exact h2.pq p hp
theorem U3{ck:Ck}{kind:Int}{bs:List (Wd×Ex)}{zs:List (Sz×Val)}(h:zh ck kind bs zs)(ns:List (jm×Int))(v:Vw)(σ τ:Int->Int)(i:Int)(ha:∀i,0<=i->i<8->σ i=τ i):ny bs zs ns v σ i=ny bs zs ns v τ i:=MJ bs zs h.pq ns v σ τ i ha
theorem aaL(c:Co)(t:jm)(one:Int)(σ:Int->Int):lu (c.know t one) σ=lu c σ++[(t,σ one)]:=by
 unfold lu Co.know;rw[dF]
 rfl
def SX(ck:Ck)(c:Co)(one:Int)(fr:Fr)(bs:List (Wd×Ex))(zs:List (Sz×Val)):Prop:=
 ∀(v:Vw)(S:List St)(jG:List Int)(k kl lC:Nat)(lp:List Int)(list a b:Int)(m:Mc),nH v->sK S k (fr.jC k (lp++[(kl:Int)]))->S[kl]? =some (mg list a b lp.length lC)->lp.length+1+fr.deep<=8->m.left.length=8->kY fr.is m.jE.length->Ty ck c m.get->jO (m.get one)->
  ∃m',oC c.free (-1) (lp.length+1) m m'/\(if ny bs zs (lu c m.get) v m.get (m.get one)then Reaches v S jG k m (k+fr.size) m' else Reaches v S jG k m (kR (mg list a b lp.length lC) kl m').2.toNat (kR (mg list a b lp.length lC) kl m').1)
theorem ajd(r:Int)(h:0<=r/\r<2008):((jX [⟨5,[r]⟩]).length:Int)<=3:=by
 have:=xq r h.1 h.2;simp only[nk,l9,enc,aX,aF,c8,dJ];omega
theorem Fr.Ok.inside{fr:Fr}(h:fr.Ok false):fr.Ok true:=⟨h.jD,h.size,λp s bl t lp sl n h1 _ h3 h4=>h.load p s bl t lp sl n h1 (λe=>by cases e) h3 h4⟩
theorem aaW{ck:Ck}{kind one W:Int}{D:Nat}(hk:kind≠2):∀(bs:List (Wd×Ex))(zs:List (Sz×Val))(c:Co),Fit ck c->0<=one->one<c.free->zh ck kind bs zs->(∀p∈zs,p.1.wide<=W/\p.1.deep<=D)->0<=W->c.free+W<=2008->
 ∃fr:Fr,Co.jF one bs c=⟨c.code++jX fr.is,c.jA,c.free⟩/\fr.Ok true/\fr.jD<=lT zs/\fr.deep<=D/\((jX fr.is).length:Int)<=mP zs/\kY fr.is (c.free+W)/\SX ck c one fr bs zs
 |[],zs,c,hf,h0,h1,hz,hw,hW,hb=>by
  have hz:=hz;subst hz;refine⟨Fr.nil,?_,Fr.Nj true,aV _,bD _,by simp[Fr.nil,l9,mP],kY.nil _,?_⟩
  .simp[Co.jF,Fr.nil,l9]
  .intro v S jG k kl lC lp list a b m _ _ _ _ _ _ _ _;exact⟨m,oC.refl _ _ _ _,by simp only[ny,dM];exact Reaches.refl _ _ _ _ _⟩
 |b::bs,_,c,hf,h0,h1,⟨z,f,zs,rfl,hm,hr⟩,hw,hW,hb=>by
  have h8:=hf.free;obtain⟨hzw,hzd⟩:=hw (z,f) (aW ..);have hzw:z.wide<=W:=hzw;have hzd:z.deep<=D:=hzd;obtain⟨fr,r,f',e,x,w⟩:=hm.lay (ck.add b.1.text kind false) (c.know b.1.text one) (-1) (hf.know h0 h1) rfl (by show c.free+z.wide<=2008;omega) (ji rfl);have x1:=x.r1;have x0:=x.r0;have x2:=x.f2;have x3:r<c.free\/r<c.free+z.wide:=x.r3;have hins:qN ⟨5,[r]⟩:=⟨⟨by show(0:Int)<=5;omega,by show(5:Int)<=36;omega⟩,r,[],rfl,qV x0 (by omega),rfl⟩;have hstep:xG one c b=⟨c.code++jX (fr.seq (Fr.skip r)).is,c.jA,c.free⟩:=by
   unfold xG Co.inside;simp only;rw[e];simp only[Co.lay,Co.jZ,Co.cut,Co.know,Fr.seq,Fr.skip,nI,nk,l9,enc,aX,bY,iM]
  obtain⟨Ji,q1,q2,q3,q4,q5,q6,q7⟩:=aaW hk bs zs ⟨c.code++jX (fr.seq (Fr.skip r)).is,c.jA,c.free⟩ (hf.more (aV _)) h0 h1 hr (λp hp=>hw p (aI _ hp)) hW hb;have aj0:=x.deep;have asv:=x.jD;have hlong:=x.jM;refine⟨(fr.seq (Fr.skip r)).seq Ji,?_,Fr.ug (Fr.ug x.ok.inside (Fr.afr hins)) q2,?_,?_,?_,?_,?_⟩
  .have e0:Co.jF one (b::bs) c=Co.jF one bs (xG one c b):=rfl;rw[e0,hstep,q1];simp only[Fr.seq,nI,bY]
  .show fr.jD+1+Ji.jD<=lT ((z,f)::zs);have:lT ((z,f)::zs)=z.jD+1+lT zs:=by simp[lT]
   omega
  .show max (max fr.deep 0) Ji.deep<=D;omega
  .have:mP ((z,f)::zs)=z.jM+3+mP zs:=by simp[mP]
   have:=ajd r ⟨x0,by omega⟩;show((jX (fr.is++[⟨5,[r]⟩]++Ji.is)).length:Int)<=_;rw[nI,nI,aA,aA];omega
  .refine kY.append ((x.low.wide ?_).append (kY.one ⟨λ_=>?_,trivial⟩)) q6
   .show c.free+z.wide<=c.free+W;omega
   .show r+1<=c.free+W;omega
  .intro v S jG k kl lC lp list a bb m hv hS hL hd hll hl ht hone;have hd:lp.length+1+max (max fr.deep 0) Ji.deep<=8:=hd;have hSa:=hS.left;have hlen1:((fr.seq (Fr.skip r)).jC k (lp++[(kl:Int)])).length=fr.size+1:=(Fr.ug x.ok.inside (Fr.afr hins)).size _ _;have hSb:=hS.right hlen1;have hla:=hl.left;have hlb:=hl.right;obtain⟨m1,g1,g2,g3⟩:=w v S jG k (lp++[(kl:Int)]) m hv hSa.left (by rw[aA,eG];omega) hll hla.left (Ty.know hf ht hone λe=>jq e hk);have g3:oC c.free (-1) (lp.length+1) m m1:=by
    have:(lp++[(kl:Int)]).length=lp.length+1:=by simp
    rw[this]at g3;exact g3
   have g2:m1.get r=f (lu c m.get++[(b.1.text,m.get one)]) v m.get:=by rw[g2,aaL]
   have hsk:=(hSa.right (x.ok.size k (lp++[(kl:Int)]))).head;have hsk:S[k+fr.size]? =some (Rk r kl):=by
    simpa using hsk
   by_cases hz:f (lu c m.get++[(b.1.text,m.get one)]) v m.get=0
   .refine⟨m1,g3,?_⟩;have hkv:ny (b::bs) ((z,f)::zs) (lu c m.get) v m.get (m.get one)=false:=by simp[ny,hz]
    rw[hkv];simp only[aH,cZ];exact g1.trans (aqC hL hsk (by rw[g2,hz]))
   .have hon:=aqE (v:=v) (jG:=jG) (m:=m1) hsk (by rw[g2];exact hz);obtain⟨m2,p1,p2⟩:=q7 v S jG (k+(fr.size+1)) kl lC lp list a bb m1 hv hSb hL (by omega) (by rw[g3.uU];exact hll) (by rw[g3.len];exact hlb) ((Gx ht g3 hf).jA rfl) (by rw[g3.jE one h0 h1 (by omega)];exact hone);have p1:=p1;have hkc:ny bs zs (lu c m1.get) v m1.get (m1.get one)=ny bs zs (lu c m.get) v m.get (m.get one):=by
     rw[BA hf g3,g3.jE one h0 h1 (by omega)];exact U3 hr _ v m1.get m.get _ λi i0 i1=>g3.jE i i0 (by omega) (by omega)
    have hkv:ny (b::bs) ((z,f)::zs) (lu c m.get) v m.get (m.get one)=ny bs zs (lu c m.get) v m.get (m.get one):=by simp[ny,hz]
    have hpre:Reaches v S jG k m (k+(fr.size+1)) m1:=by
     rw[<-fE];exact g1.trans hon
    refine⟨m2,g3.trans p1,?_⟩;rw[hkv];have p2:if ny bs zs (lu c m1.get) v m1.get (m1.get one)=true then _ else _:=p2;rw[hkc]at p2;split at p2
    .rename_i hkt;rw[jl hkt];show Reaches v S jG k m (k+(fr.size+1+Ji.size)) m2;rw[<-fE];exact hpre.trans p2
    .rename_i hkt;rw[jk hkt];exact hpre.trans p2
def Am(v:Vw)(list:Int):List Int:=bitsOf (pU (bits .and .i64 (v.all list) (v.all list)))
def xP(list one:Int)(ft tl:Fr):Fr:=(Fr.ins ⟨21,[one,list]⟩).seq (Fr.loop list one one (ft.seq tl))
theorem Zp{one list:Int}(h0:0<=one)(h1:one<2008)(hl:0<=list/\list<3):qN ⟨21,[one,list]⟩:=
 ⟨⟨by show(0:Int)<=21;omega,by show(21:Int)<=36;omega⟩,one,[list],rfl,qV h0 h1,list,[],rfl,⟨by unfold jO;omega,(λh=>by cases h),λ_=>hl⟩,rfl⟩
theorem acW{a b list:Int}(h0:0<=a)(h1:a<2008)(h2:0<=b)(h3:b<2008)(hl:0<=list/\list<3):qN ⟨4,[list,a,b]⟩:=
 ⟨⟨by show(0:Int)<=4;omega,by show(4:Int)<=36;omega⟩,list,[a,b],rfl,⟨by unfold jO;omega,(λh=>by cases h),λ_=>hl⟩,a,[b],rfl,qV h0 h1,b,[],rfl,qV h2 h3,rfl⟩
def agI{α:Type}(Rel:α->Mc->Prop)(lo hi:Int):Prop:=∀(acc:α)(m m':Mc),m'.jE.length=m.jE.length->(∀i,lo<=i->i<hi->m'.get i=m.get i)->Rel acc m->Rel acc m'
theorem afk{ck:Ck}{c0 c1:Co}{one list:Int}{ft tl:Fr}{bs:List (Wd×Ex)}{zs:List (Sz×Val)}{kind:Int}{α:Type}(Rel:α->Mc->Prop)(step:α->Int->α){v:Vw}(hv:nH v)(hf:Fit ck c0)(hn:c1.jA=c0.jA)(h1:c0.free<=one)(h2:one<c1.free)
 (hfs:zh ck kind bs zs)(hok:ft.Ok true)(htk:tl.Ok true)(hsift:SX ck c1 one ft bs zs)(Um:agI Rel c0.free one){m0:Mc}{jG:List Int}(ht:Ty ck c0 m0.get)
 (htail:∀(S:List St)(k:Nat)(lp:List Int)(m:Mc)(acc:α)(i:Int),sK S k (tl.jC k lp)->lp.length+tl.deep<=8->m.left.length=8->kY tl.is m.jE.length->oC c0.free (-1) 0 m0 m->m.get one=i->0<=i->i<64->Rel acc m->∃m',Reaches v S jG k m (k+tl.size) m'/\oC c0.free (-1) lp.length m m'/\Rel (step acc i) m')
 {S:List St}{k:Nat}{lp:List Int}(hS:sK S k ((xP list one ft tl).jC k lp))(hd:lp.length+(xP list one ft tl).deep<=8)(hll:m0.left.length=8)(hlow:kY (xP list one ft tl).is m0.jE.length){acc0:α}(hacc:Rel acc0 m0):
 ∃m',Reaches v S jG k m0 (k+(xP list one ft tl).size) m'/\oC c0.free (-1) lp.length m0 m'/\Rel ((Am v list).foldl (λacc i=>if ny bs zs (lu c0 m0.get) v m0.get i then step acc i else acc) acc0) m':=by
 have h8:=hf.free;have hd:lp.length+max 0 (max ft.deep tl.deep+1)<=8:=hd;have hone:one<m0.jE.length:=by
  have:=(hlow.left ⟨21,[one,list]⟩ (by simp[Fr.ins])).1 rfl;omega
 have hS1:=hS.left.head;have hS2:=hS.right rfl;have hL:=hS2.head;have hSb:=hS2.tail.left;have rM:=(hS2.tail.right ((Fr.ug hok htk).size _ _)).head;have hSf:=hSb.left;have hSt:=hSb.right (hok.size _ _);have ako:=hlow.right;have PL:kY (ft.is++tl.is) m0.jE.length:=λi hi=>ako i (eP _ (aI _ hi));have g0:=yh (v:=v) (jG:=jG) (m:=m0) hS1 (by show(6:Int)<=21;omega) (by show(21:Int)≠36;omega);have hw:Hx.work v (stepOf ⟨21,[one,list]⟩) m0=m0.put one (v.all list):=by
  unfold Hx.work;rw[jk (by show¬(21:Int)=6;omega),jl (by rfl)]
  rfl
 rw[hw]at g0;have hgo:(m0.put one (v.all list)).get one=v.all list:=vG _ _ _ (by omega) hone;have hgoes:=amH (v:=v) (jG:=jG) (S:=S) (k:=k+1) (m:=m0.put one (v.all list)) hL (by omega)
  (λrest m=>∃acc,oC c0.free (-1) lp.length m0 m/\Rel acc m/\rest.foldl (λacc i=>if ny bs zs (lu c0 m0.get) v m0.get i then step acc i else acc) acc=(Am v list).foldl (λacc i=>if ny bs zs (lu c0 m0.get) v m0.get i then step acc i else acc) acc0)
  (by exact hll) ?hb ?hi
 .obtain⟨m',q1,acc,q2,q3,q4⟩:=hgoes;refine⟨m',?_,q2,by rw[eF]at q4;rw[<-q4];exact q3⟩;have hsz:k+(xP list one ft tl).size=k+1+1+(ft.size+tl.size)+1:=by
   show k+(1+(1+(ft.size+tl.size)+1))=_;omega
  rw[hsz];exact g0.trans q1
 case hb=>
  rintro i x rest m i0 i1 ⟨acc,s1,s2,s3⟩;have hb:oC c0.free (-1) lp.length m0 ((m.put one i).lU (lp.length:Nat) x):=by
   refine s1.trans ⟨by simp[Mc.lU,Mc.put],by simp[Mc.lU,Mc.put],rfl,λj j0 j1 _=>?_,λj hj=>Qa _ _ _ _ (by omega)⟩;exact BD m j one i j0 (by omega) (by omega)
  have hmo:((m.put one i).lU (lp.length:Nat) x).get one=i:=vG _ _ _ (by omega) (by rw[s1.len];exact hone);have hml:((m.put one i).lU (lp.length:Nat) x).mV (lp.length:Nat)=x:=Qb _ _ _ (by show lp.length<m.left.length;rw[s1.uU];omega);have hr1:Rel acc ((m.put one i).lU (lp.length:Nat) x):=Um acc m _ (Du _ _ _) (λj j0 j1=>BD m j one i (by omega) (by omega) (by omega)) s2;generalize (m.put one i).lU (lp.length:Nat) x=mb at hb hmo hml hr1;have tyb:=(Gx ht hb hf).jA hn;obtain⟨m1,p1,p2⟩:=hsift v S jG (k+1+1) (k+1) _ lp list one one mb hv hSf hL (by omega) (by rw[hb.uU];exact hll) (by rw[hb.len];exact PL.left) tyb (by rw[hmo];unfold jO;omega);have hkeep:ny bs zs (lu c1 mb.get) v mb.get (mb.get one)=ny bs zs (lu c0 m0.get) v m0.get i:=by
   have he:lu c1 mb.get=lu c0 mb.get:=by unfold lu;rw[hn]
   rw[he,BA hf hb,hmo];exact U3 hfs _ v _ _ i λj j0 j1=>hb.jE j j0 (by omega) (by omega)
  have hs1:=hb.trans (p1.less (by omega) (ji rfl) (by omega));have hr2:=Um acc mb m1 p1.len (λj j0 j1=>p1.jE j (by omega) (by omega) (by omega)) hr1;have hl1:=(p1.left lp.length (by omega)).trans hml;rw[hkeep]at p2;rw[bP]at s3;split at p2
  .rename_i hkt;rw[jl hkt]at s3;have akB:=(p1.jE one (by omega) h2 (by omega)).trans hmo;obtain⟨m2,y1,y2,y3⟩:=htail S (k+1+1+ft.size) (lp++[((k+1:Nat):Int)]) m1 acc i hSt (by rw[aA,eG];omega) (by rw[hs1.uU];exact hll) (by rw[hs1.len];exact PL.right) (hs1.less (aV _) (ji rfl) (bD _)) akB i0 i1 hr2;have y2:oC c0.free (-1) (lp.length+1) m1 m2:=by
    rw[aA,eG]at y2;exact y2
   refine⟨m2,?_,(y2.left lp.length (by omega)).trans hl1,step acc i,hs1.trans (y2.less (aV _) (ji rfl) (by omega)),y3,s3⟩;refine(p2.trans y1).trans ?_;rw[fE (k+1+1)];exact aaJ hL rM
  .rename_i hkt;rw[jk hkt]at s3;exact⟨m1,p2,hl1,acc,hs1,hr2,s3⟩
 case hi=>
  intro x;refine⟨acc0,?_,?_,?_⟩
  .refine⟨by simp[Mc.lU,Mc.put],by simp[Mc.lU,Mc.put],rfl,λj j0 j1 _=>BD m0 j one _ j0 (by omega) (by omega),λj hj=>Qa _ _ _ _ (by omega)⟩
  .exact Um acc0 m0 _ (Du _ _ _) (λj j0 j1=>BD m0 j one _ (by omega) (by omega) (by omega)) hacc
  .rw[hgo]
   rfl
end
section
open Go.RowKit Hx
attribute [local go_sem ↓] Go.wp_at_zero Go.wp_at_succ
attribute [local go_sem] kL
section
variable {w w' w1 w2:jo}{C lo hi b S:Nat}{c:Co}{u:jr}{e l r:Ex}{a:Int}{T:jv}{x:Sx}
def ag8(x:Sx)(w:jo)(lo hi:Nat)(fv:jr):Prop:=
 (x.jF=[]/\fv=Nl)\/
 ∃g cap arr,fv=.slice (some (Ad g 0)) x.jF.length cap/\lo<=g/\g<hi/\w.heap[g]? =some (.cells arr 361)/\
  ∀(k:Nat)(b:Wd×Ex),x.jF[k]? =some b->∃u,arr[k * 3]? =some (.string b.1.text)/\arr[k * 3+1]? =some (Im b.1.at')/\arr[k * 3+2]? =some u/\b.2.here b.2.at' w lo hi u
def AA(x:Sx):Hx.sJ:=λw lo hi v=>∃S fv,v=Pt S 0/\lo<=S/\S<hi/\w.heap[S]? =some (.cells #[Im x.at',Im x.jy,.string x.base,Im x.of,fv] 348)/\ag8 x w lo hi fv
theorem EL(h:∀b∈x.jF,∀a,Lawful (b.2.here a)):Lawful (AA x):=by
 constructor
 .rintro w w' lo hi v ⟨S,fv,hv,h1,h2,h3,h4⟩ hk;refine⟨S,fv,hv,h1,h2,(hk S h1 h2).trans h3,?_⟩;rcases h4 with h4|⟨g,cap,arr,k1,k2,k3,k4,k5⟩
  .exact ji h4
  .refine jh ⟨g,cap,arr,k1,k2,k3,(hk g k2 k3).trans k4,λk b hb=>?_⟩;obtain⟨u,e1,e2,e3,e4⟩:=k5 k b hb;exact⟨u,e1,e2,e3,(h b (bT hb) _).loc _ _ _ _ _ e4 hk⟩
 .rintro w lo hi lo' hi' v ⟨S,fv,hv,h1,h2,h3,h4⟩ l1 l2;refine⟨S,fv,hv,by omega,by omega,h3,?_⟩;rcases h4 with h4|⟨g,cap,arr,k1,k2,k3,k4,k5⟩
  .exact ji h4
  .refine jh ⟨g,cap,arr,k1,by omega,by omega,k4,λk b hb=>?_⟩;obtain⟨u,e1,e2,e3,e4⟩:=k5 k b hb;exact⟨u,e1,e2,e3,(h b (bT hb) _).wide _ _ _ _ _ _ e4 l1 l2⟩
theorem WE(h:∀b∈x.jF,∀a,Lawful (b.2.here a)){v:jr}(hh:oN x w lo hi v):AA x w lo hi v:=by
 obtain⟨S,fv,hv,h1,h2,h3,h4⟩:=hh;refine⟨S,fv,hv,h1,h2,h3,?_⟩;rcases h4 with h4|⟨g,cap,m,us,arr,e1,g1,g2,m1,m2,hbr,hg,harr⟩
 .exact ji h4
 .refine jh ⟨g,cap,arr,e1,by omega,g2,hg,λk b hb=>?_⟩;obtain⟨l',m',u',e0,e1,e2,e3,e4,e5,e6⟩:=TB h hbr hb;obtain⟨z0,z1,z2⟩:=Oz _ us k _ u' hb e0;exact⟨u',harr _ _ z0,harr _ _ z1,harr _ _ z2,(h b (bT hb) _).wide _ _ _ _ _ _ e5 (by omega) (by omega)⟩
theorem aoc(h:wo x)(list:Int)(k:Nat):(Co.jF c.hold.2 (x.jF.take k) ((c.hold.1.lay 21 [c.hold.2,list]).lay 4 [list,c.hold.2,c.hold.2])).jA=c.jA/\((Co.jF c.hold.2 (x.jF.take k) ((c.hold.1.lay 21 [c.hold.2,list]).lay 4 [list,c.hold.2,c.hold.2])).code.length:Int)<=c.code.length+52+200 * ((x.jF.take k).map λb=>1+b.2.jy).sum:=by
 have h1:=OW c.hold.2 (x.jF.take k) ((c.hold.1.lay 21 [c.hold.2,list]).lay 4 [list,c.hold.2,c.hold.2]) (λb hb=>h.all b (dS hb)) (λb hb=>h.each b (dS hb));have h2:=oD (c.hold.1.lay 21 [c.hold.2,list]) 4 [list,c.hold.2,c.hold.2];have h3:=oD c.hold.1 21 [c.hold.2,list];have h5:c.hold.1.code.length=c.code.length:=rfl;simp only[aF,bg]at h2 h3;refine⟨h1.1,?_⟩;have:=h1.2;omega
theorem abb(h:wo x)(hh:AA x w lo hi u)(hC:hi<=C)(hc:kF w C c)(hr:Room c x.jy):
 Calls prog 350 #[Pt C 0,u] w λen w'=>en=.returned (Im (c.jW (jQ x.base) x.jF).2)/\kF w' C (c.jW (jQ x.base) x.jF).1/\Gk w w' C:=by
 obtain⟨S,fv,rfl,h1,h2,hS,hrow⟩:=hh;have HP:Hid (∀k,k<=x.jF.length->(Co.jF c.hold.2 (x.jF.take k) ((c.hold.1.lay 21 [c.hold.2,jQ x.base]).lay 4 [jQ x.base,c.hold.2,c.hold.2])).jA=c.jA/\((Co.jF c.hold.2 (x.jF.take k) ((c.hold.1.lay 21 [c.hold.2,jQ x.base]).lay 4 [jQ x.base,c.hold.2,c.hold.2])).code.length:Int)<=c.code.length+52+200 * ((x.jF.take k).map λb=>1+b.2.jy).sum):=λk _=>aoc h _ k;have IW:=jB (λy (hy:Gk w y C)=>Uf ((hy.keep S (by omega)).trans hS));have KG:Hid (∀y,Gk w y C->y.cell? (Ad S 4)=some fv):=λy hy=>(hy.cell (by omega)).trans (jH hS);have HH:=jB (LP hc);have hcl:c.hold.1.code.length<=800000000:=by have:=hr.code;have:=h.sum;have:=IE h.pos;have:c.hold.1.code.length=c.code.length:=rfl;omega
 have asj:(c.hold.1.lay 21 [c.hold.2,jQ x.base]).code.length<=800000100:=by have:=oD c.hold.1 21 [c.hold.2,jQ x.base];simp only[aF,bg]at this;omega
 obtain⟨fa,fc,hfv⟩:∃fa fc,fv=.slice fa x.jF.length fc:=by
  rcases hrow with⟨hf,rfl⟩|⟨g,cap,arr,rfl,_⟩
  .exact⟨none,0,by rw[hf];rfl⟩
  .exact⟨_,_,rfl⟩
 subst hfv;have agR:Hid (∀(k:Nat)(y:jo)(hk:k<x.jF.length),Gk w y C->kF y C (Co.jF c.hold.2 (x.jF.take k) ((c.hold.1.lay 21 [c.hold.2,jQ x.base]).lay 4 [jQ x.base,c.hold.2,c.hold.2]))->
  ∃g u',fa=some (Ad g 0)/\y.cell? (Ad g (k * 3))=some (.string x.jF[k].1.text)/\y.cell? (Ad g (k * 3+1))=some (Im x.jF[k].1.at')/\y.cell? (Ad g (k * 3+2))=some u'/\(∃T b,u'=.iface T (Pt b 0))/\
   ∀o,Calls prog 352 #[Pt C 0,.agg #[.string x.jF[k].1.text,Im x.jF[k].1.at',u'],Im c.hold.2] (y.alloc o) λen w'=>en=.returned (Im ((Co.jF c.hold.2 (x.jF.take k) ((c.hold.1.lay 21 [c.hold.2,jQ x.base]).lay 4 [jQ x.base,c.hold.2,c.hold.2])).inside x.jF[k].1.text x.jF[k].2.does c.hold.2).2)/\kF w' C ((Co.jF c.hold.2 (x.jF.take k) ((c.hold.1.lay 21 [c.hold.2,jQ x.base]).lay 4 [jQ x.base,c.hold.2,c.hold.2])).inside x.jF[k].1.text x.jF[k].2.does c.hold.2).1/\Gk w w' C):=by
  intro k y hk hy hgc;rcases hrow with⟨hf,_⟩|⟨g,cap,arr,e1,g1,g2,hg,harr⟩
  .rw[hf]at hk;simp at hk
  cases e1;have hget:x.jF[k]? =some x.jF[k]:=by simp
  have hQ:=h.all x.jF[k] (fG hk);obtain⟨u',z0,z1,z2,e5⟩:=harr k _ hget;obtain⟨T1,b1,hu',_⟩:=hQ.ok.head _ _ _ _ _ e5;refine⟨g,u',rfl,(hy.cell (by omega)).trans ((jH hg).trans z0),(hy.cell (by omega)).trans ((jH hg).trans z1),(hy.cell (by omega)).trans ((jH hg).trans z2),⟨T1,b1,hu'⟩,λo=>?_⟩;have gy:=ah y o none;have ky:=hy.trans (Gk.grown gy hgc.lt);obtain⟨q1,q2⟩:=HP.out k (by omega);have q3:=WQ h.pos k _ hget;have q4:=h.sum;have q5:=h.max;have q6:=IE (fs:=x.jF.take k) λc hc=>h.pos c (dS hc);have q7:=hr.code;have q8:=hr.jA;refine(aa7 hQ ((hQ.ok.law _).gk e5 ky (by omega)) (by omega) (hgc.grow gy) ⟨by omega,by omega,by rw[q1];omega⟩ x.jF[k].1.text x.jF[k].1.at' c.hold.2).mono ?_;rintro en w' ⟨r1,r2,r3⟩;exact⟨r1,r2,ky.trans r3⟩
 have HIl:Hid (∀(k:Nat)(hk:k<x.jF.length),((Co.jF c.hold.2 (x.jF.take k) ((c.hold.1.lay 21 [c.hold.2,jQ x.base]).lay 4 [jQ x.base,c.hold.2,c.hold.2])).inside x.jF[k].1.text x.jF[k].2.does c.hold.2).1.code.length<=850000000):=λk hk=>by
  have hget:x.jF[k]? =some x.jF[k]:=by simp
  have hm:=fG hk;have q0:=UR (c:=Co.jF c.hold.2 (x.jF.take k) ((c.hold.1.lay 21 [c.hold.2,jQ x.base]).lay 4 [jQ x.base,c.hold.2,c.hold.2])) (h.all _ hm) x.jF[k].1.text c.hold.2 (h.each _ hm);obtain⟨_,q2⟩:=HP.out k (by omega);have q3:=WQ h.pos k _ hget;have q4:=h.sum;have q5:=h.max;have q6:=IE (fs:=x.jF.take k) λc hc=>h.pos c (dS hc);have q7:=hr.code;omega
 have HTk:Hid (∀(k:Nat)(hk:k<x.jF.length),Co.jF c.hold.2 (x.jF.take (k+1)) ((c.hold.1.lay 21 [c.hold.2,jQ x.base]).lay 4 [jQ x.base,c.hold.2,c.hold.2])=xG c.hold.2 (Co.jF c.hold.2 (x.jF.take k) ((c.hold.1.lay 21 [c.hold.2,jQ x.base]).lay 4 [jQ x.base,c.hold.2,c.hold.2])) x.jF[k]):=λk hk=>ajy _ _ _ _ _ (by simp);have HZ:Hid (∀y,kF y C (Co.jF c.hold.2 (x.jF.take x.jF.length) ((c.hold.1.lay 21 [c.hold.2,jQ x.base]).lay 4 [jQ x.base,c.hold.2,c.hold.2]))->kF y C (c.jW (jQ x.base) x.jF).1):=λy hy=>by
  rw[eU (aj _)]at hy;exact hy
 have hlen:=h.len;clear hS hrow hc hr HP h;show Calls prog 350 #[Pt C 0,Pt S 0] w λen w'=>en=.returned (Im c.hold.2)/\kF w' C (c.jW (jQ x.base) x.jF).1/\Gk w w' C;generalize (c.jW (jQ x.base) x.jF).1=R at *;generalize hho:c.hold=ho at *;clear hho;obtain⟨c0,one⟩:=ho;simp only at *;generalize hls:jQ x.base=ls at *;clear hls;go_enter func350,ntmps350;go_wp2_with fail;refine HH.out.mono ?_;rintro en w1 ⟨rfl,p1,q1⟩;have sH:=jB (Aa p1 21 one ls (by omega));have lZ:=jB q1;clear p1 q1 HH;go_wp2_with fail;refine(IW.out _ lZ.out).mono ?_;rintro en w1' ⟨rfl,rfl⟩;go_wp2_with fail;refine sH.out.mono ?_;rintro en w2 ⟨rfl,p2,q2⟩;have lK:=jB (lZ.out.trans q2);have HL2:=jB (Pg p2 4 ls one one (by omega));clear p2 q2 sH lZ;go_wp2_with fail;refine(IW.out _ lK.out).mono ?_;rintro en w2' ⟨rfl,rfl⟩;go_wp2_with fail;refine HL2.out.mono ?_;rintro en w3 ⟨rfl,p3,q3⟩;have c4:=KG.out w3 (lK.out.trans q3);have qm:=jB (jg p3 (lK.out.trans q3));clear p3 q3 HL2 lK;generalize (c0.lay 21 [one,ls]).lay 4 [ls,one,one]=cb at *;go_wp2_with fail;go_loopg [30] (x.jF.length+1) (λgg i wr=>Hid (∃k:Nat,k+gg=x.jF.length+1/\k<=x.jF.length/\i=Im k/\kF wr C (Co.jF one (x.jF.take k) cb)/\Gk w wr C))
 case atStart=>exact⟨0,by omega,bD _,rfl,qm.out⟩
 case round=>
  obtain⟨k,hk1,hk2,rfl,hI,hG⟩:=hrel.out;clear hrel qm c4;by_cases hlt:k<x.jF.length
  .have d1:decide ((k:Int)<(x.jF.length:Int))=true:=by simp;omega
   have i0:(0:Int)<=(k:Int):=by omega
   have i1:(k:Int)<(x.jF.length:Int):=by omega
   obtain⟨g,u',hfa,k0,k1,k2,⟨T1,b1,hu'⟩,E8⟩:=agR.out k wr hlt hG hI;subst hfa hu';have hil:=HIl.out k hlt;have HT:=HTk.out k hlt;unfold xG at HT;obtain⟨va,na,hAt⟩:=hI;have f2:=jJ 2 hAt.jL rfl;have yU:=hAt.lt;have nC:¬C=wr.heap.size:=by omega
   have HT:=jB HT;have E8:=jB E8;obtain⟨g',hg'⟩:∃g',gk=g'+1:=⟨gk-1,by omega⟩;clear hG hAt;generalize (Co.jF one (x.jF.take k) cb).inside x.jF[k].1.text x.jF[k].2.does one=ins at *;obtain⟨ic,is⟩:=ins;simp only at hil HT E8;generalize (Co.jF one (x.jF.take k) cb).free=fr at *;generalize x.jF[k].1.text=ft at *;generalize x.jF[k].1.at'=fat at *;go_wp2_with fail;refine(E8.out _).mono ?_;rintro en w4 ⟨rfl,p4,q4⟩;have HL:=jB (aa9 p4 5 is (by omega));have sV:=jB q4;clear p4 q4 E8;go_wp2_with fail;refine HL.out.mono ?_;rintro en w5 ⟨rfl,⟨v5,Nq,p5⟩,q5⟩;have d2:=jJ 2 p5.jL rfl;have fz:=qJ p5.jL;have HE:Hid (kF (w5.setCell (Ad C 2) (Im fr)) C (Co.jF one (x.jF.take (k+1)) cb)/\Gk w (w5.setCell (Ad C 2) (Im fr)) C):=by
    rw[HT.out];exact⟨⟨v5,Nq,p5.jZ fr⟩,(sV.out.trans q5).trans (Gk.free _ _ _)⟩
   clear p5 q5 HL sV;go_wp2_with fail;go_roundg g'
   case measure=>omega
   case rel=>exact⟨k+1,by omega,by omega,by go_num,HE.out⟩
  .have d1:decide ((k:Int)<(x.jF.length:Int))=false:=by simp;omega
   have hke:k=x.jF.length:=by omega
   have HE:Hid (kF wr C R/\Gk w wr C):=⟨HZ.out wr (by rw[hke]at hI;exact hI),hG⟩;clear hI hG hke;go_wp2_with fail;go_ret;exact⟨rfl,HE.out⟩
end
section
variable {w w' w1 w2 w3 w4:jo}{C lo hi b d m k:Nat}{c:Ck}{u v:jr}{e l r:Ex}{a:Int}{T:jv}{o:Obj}{x:Sx}
theorem qY.ok(h:qY 100000 (l7 d) x):oU x:=⟨h.jy,h.of,λb hb=>(h.all b hb).ok⟩
theorem qY.law(h:qY 100000 (l7 d) x):Lawful (oN x):=NM λb hb a=>(h.all b hb).ok.law a
theorem ahy(h:qY 100000 (l7 d) x)(kind:Int)(what:jm):l7 (d+1) (xW kind what x):=by
 refine⟨Zu kind what h.ok,λc=>?_,?_⟩
 .show(nM x.of x.jF c).jA=c.jA;exact MW _ _ _ λb hb=>(h.all b hb).jA
 rintro a w lo hi T b C c ⟨b',us,hv,h1,h2,⟨u,rfl,hu⟩,hb⟩ hC hc hn;cases hv;obtain⟨S,fv,rfl,_⟩:=wJ hu;have c4:=jJ 4 hb rfl;have HS:=jB (TK h hu (by omega) hc hn);have HB:=jB hb;refine⟨393,λw=>by kernel_rfl,λargs w=>by kernel_rfl,?_⟩;clear hu hb hc hn h;go_enter func393,ntmps393;go_wp2_with fail;refine HS.out.mono ?_;rintro en w1 ⟨rfl,q1,q2,q3⟩;have HE:Hid (nT (xW kind what x) a w w1 lo hi (.iface 410 (Pt b 0)) b C c):=by
  have hb2:=(q3.keep b (by omega) (jh (aj _))).trans HB.out;exact⟨⟨b,_,rfl,h1,h2,⟨_,rfl,q1⟩,hb2⟩,jH hb2,q2,q3.wide (aj _) (by omega)⟩
 clear q1 q2 q3 HS;go_wp2_with fail;go_end0;exact⟨rfl,HE.out⟩
theorem am6(h:qY 100000 (l7 d) x)(kind:Int)(what:jm)(t:Wd)(he:l7 d e):l7 (d+1) (vK kind what x (t,e)):=by
 obtain⟨tt,ta⟩:=t;have hnm:∀c,(nM x.of x.jF c).jA=c.jA:=λc=>MW _ _ _ λb hb=>(h.all b hb).jA;refine⟨adf kind what h.ok (b:=(⟨tt,ta⟩,e)) he.ok,λc=>?_,?_⟩
 .show((nM x.of x.jF c).bracket tt ta e.does e.at' x.of (if what.data.toList==[97,110,121]then 2 else 1)).jA=c.jA;rw[ZP _ _ _ _ _ _ _ he.jA,hnm]
 rintro a w lo hi T b C c ⟨b',us,hv,h1,h2,⟨m,u,v,rfl,hm1,hm2,hu,hv2⟩,hb⟩ hC hc hn;cases hv;obtain⟨S,fv,rfl,s1,s2,s3⟩:=wJ hu;obtain⟨T2,b2,rfl,_⟩:=he.ok.head _ _ _ _ _ hv2;have c4:=jJ 4 hb rfl;have HS:=jB (TK h hu (by omega) hc hn);have HB:=jB hb;have HC:=jB (jg he (jg hv2 (jg hn (jg h.law hnm))));refine⟨396,λw=>by kernel_rfl,λargs w=>by kernel_rfl,?_⟩;clear hu hb hc hn h hv2 he s3 hnm;obtain⟨wn,hwn⟩:∃wn:Int,wn=if what.data.toList==[97,110,121]then 2 else 1:=⟨_,rfl⟩;have Oa:=jB hwn;have hcase:((what.toList==[97,110,121])=true/\wn=2)\/((what.toList==[97,110,121])=false/\wn=1):=by
  rw[aZ,hwn];cases (what.data.toList==[97,110,121])
  .exact jh ⟨rfl,rfl⟩
  .exact ji ⟨rfl,rfl⟩
 clear hwn;go_enter func396,ntmps396;go_wp2_with fail;refine HS.out.mono ?_;rintro en w1 ⟨rfl,q1,q2,q3⟩;have hb1:=(q3.keep b (by omega) (jh hm2)).trans HB.out;have e3:=jJ 3 hb1 rfl;have e4:=jJ 4 hb1 rfl;have e5:=jJ 5 hb1 rfl;have e6:=jJ 6 hb1 rfl;have e7:=jJ 7 hb1 rfl;obtain⟨S',CW,hS',_,_,s3⟩:=wJ q1;cases hS';have eS:=jJ 3 s3 rfl;have HK:=jB (jg q1 (jg q2 q3));have GR:Hid (∀n,Calls prog 351 #[Pt C 0,.agg #[.string tt,Im ta,.iface T2 (Pt b2 0)],Im x.of,Im wn] (w1.drewN n) λen w'=>en=.returned (.tuple #[])/\e.here e.at' w' m b (.iface T2 (Pt b2 0))/\kX w' C ((nM x.of x.jF c).bracket tt ta e.does e.at' x.of wn)/\Lk w1 w' m b C):=λn=>by
  have Md:=Lk.grown (lH w1 n) q2.lt;have hh1:=(HC.out.1.ok.law _).lk ((HC.out.1.ok.law _).lk HC.out.2.1 q3 (by omega) (jh (aj _))) Md (by omega) (jh (bD _));refine(aal HC.out.1 hh1 (by omega) (q2.grow (lH w1 n)) (by rw[HC.out.2.2.2.2];exact HC.out.2.2.1) tt ta x.of wn).mono ?_;rintro en w' ⟨r1,r2,r3,r4⟩;exact⟨r1,r2,r3,(Md.all _ _).trans r4⟩
 have nR:Hid (∀w2,e.here e.at' w2 m b (.iface T2 (Pt b2 0))->kX w2 C ((nM x.of x.jF c).bracket tt ta e.does e.at' x.of wn)->Lk w1 w2 m b C->nT (vK kind what x (⟨tt,ta⟩,e)) a w w2 lo hi (.iface 413 (Pt b 0)) b C c):=λw2 r1 r2 r3=>by
  have kk:=(HK.out.2.2.wide (aj _) hm2).trans (r3.wide hm1 (aj _));have hb2:=(kk.keep b (by omega) (jh (aj _))).trans HB.out;rw[Oa.out]at r2;exact⟨⟨b,_,rfl,h1,h2,⟨m,_,_,rfl,hm1,hm2,HC.out.2.2.2.1.lk HK.out.1 r3 (by omega) (ji (aj _)),r1⟩,hb2⟩,jH hb2,r2,kk.wide (aj _) (by omega)⟩
 clear q1 q2 q3 hb1 s3 HS;rcases hcase with⟨t1,rfl⟩|⟨t1,rfl⟩;all_goals
  go_wp2_with fail;refine nJ 13 (by kernel_rfl) (by kernel_rfl) ?_;simp only[aC,aO,aG,aQ];repeat (go_big_quiet_step (fail))
  refine bF ?_;intro _ hw';obtain⟨n3,hw''⟩:=hw';subst hw'';go_wp2_with fail;refine(GR.out _).mono ?_;rintro en w2 ⟨rfl,r1,r2,r3⟩;have HE:=nR.out w2 r1 r2 r3;have HE:=jB HE;clear r1 r2 r3;go_wp2_with fail;go_end0;exact⟨rfl,HE.out⟩
theorem l7.up(h:l7 d e):l7 (d+1) e:=⟨h.ok,h.jA,λa w lo hi T b C c hh hC hc hn=>h.look a w lo hi T b C c hh hC hc (by omega)⟩
theorem amB(N:Nat)(hN:N<=100000)(d:Nat):Ci N (l7 d) (l7 (d+1)) where
 jy:=λ_ h=>h.ok.jy
 number:=λa n=>anF _ a n
 oI:=λa b=>ars _ a b
 none:=adv _
 register:=λa i=>apF _ a i
 use:=λa t=>arM _ a t
 widen:=λ_ a h=>(arS h a).up
 isNone:=λa _ h=>(ali h a).up
 minus:=λa sign _ _ h=>adN h a 1 sign
 not:=λa sign _ _ h=>adN h a 2 sign
 two:=λa sign _ _ h k=>arz h k a _ sign
 property:=λa _ t h=>aoM h a _ _ t
 Qw:=λa _ _ h k=>anQ h k.up a
 Lc:=λk what _ h=>ahy ⟨h.of,h.all,dH h.len hN,h.jy,h.sum⟩ k what
 Gf:=λk what _ b h hb=>am6 ⟨h.of,h.all,dH h.len hN,h.jy,h.sum⟩ k what b.1 hb
theorem ajv(s:jm)(hs:s.size<=4000)(d:Nat)(p:Ps):l7 d (vF s d p).1:=
 OT s l7 (adv 0) (λd=>amB (s.size+1) (by omega) d) d p
end
section
variable {w w' w1 w2:jo}{C lo hi b S:Nat}{c:Co}{u:jr}{e l r:Ex}{a:Int}{T:jv}{x:Sx}
theorem aa6(h:wo x)(rO:Lawful (AA x))(hh:AA x w lo hi u)(hC:hi<=C)(hc:kF w C c)(hr:Room c x.jy)(hr2:(c.code.length:Int)+200 * x.jy<=799999900):
 Calls prog 347 #[Pt C 0,u] w λen w'=>en=.returned (Im (c.mW (jQ x.base) x.jF).2)/\kF w' C (c.mW (jQ x.base) x.jF).1/\Gk w w' C:=by
 obtain⟨S,fv,rfl,h1,h2,hS,hrow⟩:=hh;have hh:AA x w lo hi (Pt S 0):=⟨S,fv,rfl,h1,h2,hS,hrow⟩;have IW:=jB (λy (hy:Gk w y C)=>Uf ((hy.keep S (by omega)).trans hS));have KG:Hid (∀y,Gk w y C->y.cell? (Ad S 4)=some fv):=λy hy=>(hy.cell (by omega)).trans (jH hS);have HH:=jB (LP hc);have hsn:=IE h.pos;have hsm:=h.sum;have hcl:c.hold.1.code.length<=800000000:=by have:=hr.code;have:c.hold.1.code.length=c.code.length:=rfl;omega
 obtain⟨fa,fc,hfv⟩:∃fa fc,fv=.slice fa x.jF.length fc:=by
  rcases hrow with⟨hf,rfl⟩|⟨g,cap,arr,rfl,_⟩
  .exact⟨none,0,by rw[hf];rfl⟩
  .exact⟨_,_,rfl⟩
 subst hfv;have GV:Hid (∀y,Gk w y C->kF y C (c.hold.1.lay 6 [c.hold.2,0])->Calls prog 350 #[Pt C 0,Pt S 0] y λen w'=>en=.returned (Im ((c.hold.1.lay 6 [c.hold.2,0]).jW (jQ x.base) x.jF).2)/\kF w' C ((c.hold.1.lay 6 [c.hold.2,0]).jW (jQ x.base) x.jF).1/\Gk y w' C):=λy hy hg=>by
  have h3:=oD c.hold.1 6 [c.hold.2,0];have h5:c.hold.1.code.length=c.code.length:=rfl;simp only[aF,bg]at h3;exact abb h (rO.gk hh hy hC) hC hg ⟨hr.jy,by omega,hr.jA⟩
 have hol:((c.hold.1.lay 6 [c.hold.2,0]).jW (jQ x.base) x.jF).1.code.length<=800000000:=by
  have h1:=VU (c:=c.hold.1.lay 6 [c.hold.2,0]) h (jQ x.base);have h3:=oD c.hold.1 6 [c.hold.2,0];have h5:c.hold.1.code.length=c.code.length:=rfl;simp only[aF,bg]at h3;omega
 have hlen:=h.len;clear hS hrow hc hr h hh hr2;unfold Co.mW;by_cases hf:x.jF.length=0
 .rw[jl hf];rw[hf]at KG;clear GV hol;simp only;generalize hho:c.hold=ho at *;clear hho;obtain⟨c0,slot⟩:=ho;simp only at *;generalize jQ x.base=ls at *;go_enter func347,ntmps347;go_wp2_with fail;refine HH.out.mono ?_;rintro en w1 ⟨rfl,p1,q1⟩;have c4:=KG.out w1 q1;have sH:=jB (Aa p1 21 slot ls (by omega));have lZ:=jB q1;clear p1 q1 HH;go_wp2_with fail;refine(IW.out _ lZ.out).mono ?_;rintro en w1' ⟨rfl,rfl⟩;go_wp2_with fail;refine sH.out.mono ?_;rintro en w2 ⟨rfl,p2,q2⟩;have HE:=jB (jg p2 (lZ.out.trans q2));clear p2 q2;go_wp2_with fail;go_ret;exact⟨rfl,HE.out⟩
 .rw[jk hf];have hb:((x.jF.length:Int)==0)=false:=by rw[beq_eq_false_iff_ne];omega
  simp only;generalize hho:c.hold=ho at *;clear hho;obtain⟨c0,slot⟩:=ho;simp only at *;generalize jQ x.base=ls at *;generalize hoo:(c0.lay 6 [slot,0]).jW ls x.jF=oo at *;clear hoo;obtain⟨oc,os⟩:=oo;simp only at GV hol⊢;generalize x.jF.length=nf at *;go_enter func347,ntmps347;go_wp2_with fail;refine HH.out.mono ?_;rintro en w1 ⟨rfl,p1,q1⟩;have c4:=KG.out w1 q1;have sH:=jB (Aa p1 6 slot 0 (by omega));have lZ:=jB q1;clear p1 q1 HH;go_wp2_with fail;refine sH.out.mono ?_;rintro en w2 ⟨rfl,p2,q2⟩;have Y6:=jB (GV.out w2 (lZ.out.trans q2) p2);have lK:=jB (lZ.out.trans q2);clear p2 q2 sH lZ GV;go_wp2_with fail;refine Y6.out.mono ?_;rintro en w3 ⟨rfl,p3,q3⟩;have HL2:=jB (Aa p3 22 slot os (by omega));have qm:=jB (lK.out.trans q3);clear p3 q3 Y6 lK;go_wp2_with fail;refine HL2.out.mono ?_;rintro en w4 ⟨rfl,p4,q4⟩;have wL:=jB (FU p4 0 (by have:=oD oc 22 [slot,os];simp only[aF,bg]at this;omega));have sV:=jB (qm.out.trans q4);clear p4 q4 HL2 qm;go_wp2_with fail;refine wL.out.mono ?_;rintro en w5 ⟨rfl,⟨v5,Nq,p5⟩,q5⟩;have d2:=jJ 2 p5.jL rfl;have fz:=qJ p5.jL;have HE:Hid (kF (w5.setCell (Ad C 2) (Im (wrap64 (slot+1)))) C (((oc.lay 22 [slot,os]).lay 0 []).jZ (wrap64 (slot+1)))/\Gk w (w5.setCell (Ad C 2) (Im (wrap64 (slot+1)))) C):=⟨⟨v5,Nq,p5.jZ _⟩,(sV.out.trans q5).trans (Gk.free _ _ _)⟩;clear p5 q5 wL sV;go_wp2_with fail;go_ret;exact⟨rfl,HE.out⟩
def CU(what base:jm)(fs:List (Wd×Ex))(c:Co)(into:Int):Co×Int:=
 ((((c.mW (jQ base) fs).1.jZ c.free).choose into).1.lay (if what.data.toList==[99,111,117,110,116]then 23 else 24) [(((c.mW (jQ base) fs).1.jZ c.free).choose into).2,(c.mW (jQ base) fs).2],(((c.mW (jQ base) fs).1.jZ c.free).choose into).2)
theorem Tj(hall:∀b∈x.jF,kE b.2)(kind a0 k:Int)(what:jm)(hk0:0<=k/\k<=1000001)(hsg:k<=1000000->wo x/\1+x.jy<=k)(dn:Dn)(hd:dn.give=CU what x.base x.jF):kE (uX 410 412 a0 k kind (nX (AA x)) (λus=>.string what::us) dn):=by
 have rO:=EL λb hb a=>(hall b hb).ok.law a;refine⟨JL (by simp[lM]) (qO rO) hk0,λc into=>?_,λc into hk=>?_,?_⟩
 .show(dn.give c into).1.jA=c.jA;rw[hd];show((((c.mW (jQ x.base) x.jF).1.jZ c.free).choose into).1.lay _ _).jA=c.jA;rw[Ia,Je,Q5];unfold Co.mW;have hfn:∀(fs:List (Wd×Ex))(c:Co)(one:Int),(∀b∈fs,kE b.2)->(Co.jF one fs c).jA=c.jA:=by
   intro fs;induction fs with
   |nil=>intro c one _;rfl
   |cons b fs ih=>
    intro c one hb;have e:Co.jF one (b::fs) c=Co.jF one fs (xG one c b):=rfl;rw[e,ih _ _ (λd hd=>hb d (aI _ hd)),TY one (hb b (aW ..))]
  split
  .rfl
  .exact hfn _ _ _ hall
 .show((dn.give c into).1.code.length:Int)<=c.code.length+200 * k+50;rw[hd];show((((((c.mW (jQ x.base) x.jF).1.jZ c.free).choose into).1.lay (if what.data.toList==[99,111,117,110,116]then 23 else 24) [_,_]).code.length:Nat):Int)<=c.code.length+200 * k+50;obtain⟨hs,hp⟩:=hsg hk;have h1:=oD ((((c.mW (jQ x.base) x.jF).1.jZ c.free).choose into).1) (if what.data.toList==[99,111,117,110,116]then 23 else 24) [(((c.mW (jQ x.base) x.jF).1.jZ c.free).choose into).2,(c.mW (jQ x.base) x.jF).2];rw[CV,EM]at h1;have h2:=OV (c:=c) hs (jQ x.base);simp only[aF,bg]at h1;omega
 rintro a w lo hi T b C c into ⟨b',us,hv,h1,h2,⟨u,rfl,hu⟩,hb⟩ hC hc hr;cases hv;obtain⟨hs,hp⟩:=hsg hr.jy;have hr:Room c k:=hr;obtain⟨S,fv,rfl,_⟩:=id hu;have c3:=jJ 3 hb rfl;have c4:=jJ 4 hb rfl;refine⟨392,λw=>by kernel_rfl,λargs w=>by kernel_rfl,?_⟩;have hrc:=hr.code;have HF:=jB (aa6 hs rO hu (by omega) hc (hr.less (by omega)) (by omega));have hfl:(c.mW (jQ x.base) x.jF).1.code.length<=850000000:=by
  have:=OV (c:=c) hs (jQ x.base);have:=hs.max;omega
 have rE:=jB (hb);obtain⟨v0,JU,h0⟩:=hc;have c2:=jJ 2 h0.jL rfl;have hbC:b<C:=by omega
 clear hu hb h0 hr hs hall hrc rO hsg hp;show Calls prog 392 #[Pt b 0,Pt C 0,Im into] w λen w'=>en=.returned (Im (dn.give c into).2)/\kF w' C (dn.give c into).1/\Gk w w' C;rw[hd];clear hd;show Calls prog 392 #[Pt b 0,Pt C 0,Im into] w λen w'=>en=.returned (Im (((c.mW (jQ x.base) x.jF).1.jZ c.free).choose into).2)/\kF w' C ((((c.mW (jQ x.base) x.jF).1.jZ c.free).choose into).1.lay (if what.data.toList==[99,111,117,110,116]then 23 else 24) [(((c.mW (jQ x.base) x.jF).1.jZ c.free).choose into).2,(c.mW (jQ x.base) x.jF).2])/\Gk w w' C;generalize c.mW (jQ x.base) x.jF=ff at *;obtain⟨fc,fs⟩:=ff;simp only at HF hfl⊢;generalize hfr:c.free=fr at *;have hl2:((fc.jZ fr).choose into).1.code.length<=900000000:=by rw[CV,EM];omega
 generalize hk:(fc.jZ fr).choose into=k at *;have Kz:=jB hk;clear hk;obtain⟨k1,k2⟩:=k;simp only at hl2⊢;have hcase:((what.toList==[99,111,117,110,116])=true/\(if what.data.toList==[99,111,117,110,116]then (23:Int)else 24)=23)\/((what.toList==[99,111,117,110,116])=false/\(if what.data.toList==[99,111,117,110,116]then (23:Int)else 24)=24):=by
  rw[aZ];cases (what.data.toList==[99,111,117,110,116])
  .exact jh ⟨rfl,rfl⟩
  .exact ji ⟨rfl,rfl⟩
 rcases hcase with⟨t1,t2⟩|⟨t1,t2⟩;all_goals
  rw[t2];clear t2;go_enter func392,ntmps392;go_wp2_with fail;refine HF.out.mono ?_;rintro e1 w1 ⟨rfl,⟨v1,zI,p1⟩,q1⟩;have d2:=jJ 2 p1.jL rfl;have fz:=qJ p1.jL;have HC:Hid (Calls prog 364 #[Pt C 0,Im into] (w1.setCell (Ad C 2) (Im fr)) λe w'=>e=.returned (Im k2)/\kF w' C k1/\Gk (w1.setCell (Ad C 2) (Im fr)) w' C):=by
   have:=LM ⟨v1,zI,p1.jZ fr⟩ into;rw[Kz.out]at this;exact this
  have lZ:Hid (Gk w (w1.setCell (Ad C 2) (Im fr)) C):=q1.trans (Gk.free _ _ _);clear p1 q1 HF;go_wp2_with fail;refine HC.out.mono ?_;rintro e2 w2 ⟨rfl,p2,q2⟩;have a3:=((lZ.out.trans q2).cell hbC).trans c3;have HL:=λo=>Aa p2 o k2 fs hl2;have HL:=jB (HL);have lK:=jB (lZ.out.trans q2);clear p2 q2 HC lZ d2 fz;go_wp2_with fail;refine(HL.out _).mono ?_;rintro e3 w3 ⟨rfl,p3,q3⟩;have HE:=jB (jg p3 (lK.out.trans q3));clear p3 q3 HL;go_wp2_with fail;go_ret;exact⟨rfl,HE.out⟩
theorem Zt{N:Nat}(hN:N<=100000)(h:qY N kE x)(kind:Int)(what:jm):kE (xW kind what x):=by
 have hl:∀b∈x.jF,∀a,Lawful (b.2.here a):=λb hb a=>(h.all b hb).ok.law a;have rO:Lawful (oN x):=NM hl;refine(Tj h.all kind x.at' (jS [x.jy]) what (pW h.jy) (λhk=>?_) (Zr kind what x) rfl).of (vP (by simp[lM]) (qO rO) (pW h.jy)).base (λ_ _ _ _ _ hh=>JQ (λ_ _ _ _ _ ⟨u,e,hu⟩ hb=>⟨u,e,(EL hl).wide _ _ _ _ _ _ (WE hl hu) (aj _) hb⟩) hh) rfl rfl;have hp:=yA h.jy.1 h.jy.2 hk;exact⟨wo.of hN h (by omega),by omega⟩
end
end
end Go.Proofs.YthllhabjfchgiaaGreatDoor
