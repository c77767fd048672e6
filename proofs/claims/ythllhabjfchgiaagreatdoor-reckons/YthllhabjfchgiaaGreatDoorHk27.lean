import Derived.Test.YthllhabjfchgiaaGreatDoorHk26
set_option maxRecDepth 100000
set_option maxHeartbeats 8000000
set_option linter.unusedSimpArgs false
namespace Go.Proofs.YthllhabjfchgiaaGreatDoor
open _root_.Go.Proofs.Tryz
section
open Go.RowKit Hx
theorem Fit.know{ck:Ck}{c:Co}(h:Fit ck c){t:ji}{kind one:Int}{iv:Bool}(h0:0<=one)(h1:one<c.free):Fit (ck.add t kind iv) (c.know t one):=by
 refine⟨h.en,?_,λn hn=>?_,h.free⟩
 .show(ck.jy++[(⟨t,kind,iv⟩:Kn)]).map (λk=>k.name.data.toList)=(c.jy++[(t,one)]).map (λn=>n.1.data.toList);rw[dF,dF,h.jy]
  rfl
 .rcases List.mem_append.1 (show n∈c.jy++[(t,one)]from hn)with hn|hn
  .exact h.jD n hn
  .rw[cO.1 hn];exact⟨h0,h1⟩
theorem Fit.lens{ck:Ck}{c:Co}(h:Fit ck c):ck.jy.length=c.jy.length:=by
 have:=congrArg List.length h.jy;simpa using this
theorem Ty.know{ck:Ck}{c:Co}{σ:Int->Int}(hf:Fit ck c)(h:Ty ck c σ){t:ji}{kind one:Int}{iv:Bool}(h1:jJ (σ one))(hk:kind=2->σ one=0\/σ one=1):Ty (ck.add t kind iv) (c.know t one) σ:=by
 refine⟨h.jF,λn hn=>?_,λj k n hj hn hd=>?_⟩
 .rcases List.mem_append.1 (show n∈c.jy++[(t,one)]from hn)with hn|hn
  .exact h.num n hn
  .rw[cO.1 hn];exact h1
 .have hl:=hf.lens;have hj:(ck.jy++[⟨t,kind,iv⟩])[j]? =some k:=hj;have hn:(c.jy++[(t,one)])[j]? =some n:=hn;rcases dG j ck.jy.length with hlt|hge
  .rw[aT hlt]at hj;rw[aT (by omega)]at hn;exact h.kW j k n hj hn hd
  .rw[bW hge]at hj;rw[bW (by omega)]at hn;rcases gJ (j-ck.jy.length)with h0|h0
   .rw[h0]at hj;rw[show j-c.jy.length=0 by omega]at hn;simp only[dw,bJ]at hj hn;subst hj hn;exact hk hd
   .rw[bV (by simp;omega)]at hj;cases hj
def zq(ck:Ck)(kind:Int):List (Wd×Ex)->List (Sz×Val)->Prop
 |[],zs=>zs=[]
 |b::bs,zs=>∃z f zs',zs=(z,f)::zs'/\Mx (λwI=>wI=ck.add b.1.text kind false) b.2.does.give z f/\zq ck kind bs zs'
def nI:List (Wd×Ex)->List (Sz×Val)->List (ji×Int)->Vw->(Int->Int)->Int->Bool
 |b::bs,(_,f)::zs,ns,v,σ,i=>decide (f (ns++[(b.1.text,i)]) v σ≠0)&&nI bs zs ns v σ i
 |_,_,_,_,_,_=>true
def lW(zs:List (Sz×Val)):Int:=(zs.map λp=>p.1.jC+1).sum
def mX(zs:List (Sz×Val)):Int:=(zs.map λp=>p.1.jL+3).sum
theorem MO:∀(bs:List (Wd×Ex))(zs:List (Sz×Val)),(∀p∈zs,uy p.2)->∀(ns:List (ji×Int))(v:Vw)(σ τ:Int->Int)(i:Int),(∀i,0<=i->i<8->σ i=τ i)->nI bs zs ns v σ i=nI bs zs ns v τ i
 |[],_,_,_,_,_,_,_,_=>by simp[nI]
 |_::_,[],_,_,_,_,_,_,_=>by simp[nI]
 |b::bs,(z,f)::zs,h,ns,v,σ,τ,i,ha=>by
  have e:f (ns++[(b.1.text,i)]) v σ=f (ns++[(b.1.text,i)]) v τ:=h (z,f) (aW ..) (ns++[(b.1.text,i)]) v σ τ ha;simp only[nI];rw[e,MO bs zs (λp hp=>h p (aI _ hp)) ns v σ τ i ha]
theorem zq.pJ{ck:Ck}{kind:Int}:∀{bs:List (Wd×Ex)}{zs:List (Sz×Val)},zq ck kind bs zs->∀p∈zs,uy p.2
 |[],_,h,p,hp=>by
  rw[show _=[]from h]at hp;simp at hp
 |_::_,_,⟨_,_,_,rfl,h1,h2⟩,p,hp=>by
  rcases dh.1 hp with rfl|hp
  .exact h1.pJ
  .exact h2.pJ p hp
theorem UL{ck:Ck}{kind:Int}{bs:List (Wd×Ex)}{zs:List (Sz×Val)}(h:zq ck kind bs zs)(ns:List (ji×Int))(v:Vw)(σ τ:Int->Int)(i:Int)(ha:∀i,0<=i->i<8->σ i=τ i):nI bs zs ns v σ i=nI bs zs ns v τ i:=MO bs zs h.pJ ns v σ τ i ha
theorem aaW(c:Co)(t:ji)(one:Int)(σ:Int->Int):lS (c.know t one) σ=lS c σ++[(t,σ one)]:=by
 unfold lS Co.know;rw[dF]
 rfl
def SA(ck:Ck)(c:Co)(one:Int)(fr:Fr)(bs:List (Wd×Ex))(zs:List (Sz×Val)):Prop:=
 ∀(v:Vw)(S:List St)(jF:List Int)(k kl lD:Nat)(lp:List Int)(list a b:Int)(m:Mc),nM v->uz S k (fr.jB k (lp++[(kl:Int)]))->S[kl]? =some (mP list a b lp.length lD)->lp.length+1+fr.deep<=8->m.left.length=8->lG fr.is m.jD.length->Ty ck c m.get->jJ (m.get one)->
  ∃m',oP c.free (-1) (lp.length+1) m m'/\(if nI bs zs (lS c m.get) v m.get (m.get one)then Reaches v S jF k m (k+fr.size) m' else Reaches v S jF k m (kS (mP list a b lp.length lD) kl m').2.toNat (kS (mP list a b lp.length lD) kl m').1)
theorem akc(r:Int)(h:0<=r/\r<2008):((jU [⟨5,[r]⟩]).length:Int)<=3:=by
 have:=xI r h.1 h.2;simp only[ny,mF,enc,aX,aF,c8,dJ];omega
theorem Fr.Ok.inside{fr:Fr}(h:fr.Ok false):fr.Ok true:=⟨h.jC,h.size,λp s bl t lp sl n h1 _ h3 h4=>h.load p s bl t lp sl n h1 (λe=>by cases e) h3 h4⟩
theorem aa7{ck:Ck}{kind one W:Int}{D:Nat}(hk:kind≠2):∀(bs:List (Wd×Ex))(zs:List (Sz×Val))(c:Co),Fit ck c->0<=one->one<c.free->zq ck kind bs zs->(∀p∈zs,p.1.wide<=W/\p.1.deep<=D)->0<=W->c.free+W<=2008->
 ∃fr:Fr,Co.jE one bs c=⟨c.code++jU fr.is,c.jy,c.free⟩/\fr.Ok true/\fr.jC<=lW zs/\fr.deep<=D/\((jU fr.is).length:Int)<=mX zs/\lG fr.is (c.free+W)/\SA ck c one fr bs zs
 |[],zs,c,hf,h0,h1,hz,hw,hW,hb=>by
  have hz:=hz;subst hz;refine⟨Fr.nil,?_,Fr.Nq true,aV _,bD _,by simp[Fr.nil,mF,mX],lG.nil _,?_⟩
  .simp[Co.jE,Fr.nil,mF]
  .intro v S jF k kl lD lp list a b m _ _ _ _ _ _ _ _;exact⟨m,oP.refl _ _ _ _,by simp only[nI,dM];exact Reaches.refl _ _ _ _ _⟩
 |b::bs,_,c,hf,h0,h1,⟨z,f,zs,rfl,hm,hr⟩,hw,hW,hb=>by
  have h8:=hf.free;obtain⟨hzw,hzd⟩:=hw (z,f) (aW ..);have hzw:z.wide<=W:=hzw;have hzd:z.deep<=D:=hzd;obtain⟨fr,r,f',e,x,w⟩:=hm.lay (ck.add b.1.text kind false) (c.know b.1.text one) (-1) (hf.know h0 h1) rfl (by show c.free+z.wide<=2008;omega) (jf rfl);have x1:=x.r1;have x0:=x.r0;have x2:=x.f2;have x3:r<c.free\/r<c.free+z.wide:=x.r3;have hins:rC ⟨5,[r]⟩:=⟨⟨by show(0:Int)<=5;omega,by show(5:Int)<=36;omega⟩,r,[],rfl,rb x0 (by omega),rfl⟩;have hstep:xW one c b=⟨c.code++jU (fr.seq (Fr.skip r)).is,c.jy,c.free⟩:=by
   unfold xW Co.inside;simp only;rw[e];simp only[Co.lay,Co.jX,Co.cut,Co.know,Fr.seq,Fr.skip,nN,ny,mF,enc,aX,bY,iK]
  obtain⟨Jh,q1,q2,q3,q4,q5,q6,q7⟩:=aa7 hk bs zs ⟨c.code++jU (fr.seq (Fr.skip r)).is,c.jy,c.free⟩ (hf.more (aV _)) h0 h1 hr (λp hp=>hw p (aI _ hp)) hW hb;have ak2:=x.deep;have auK:=x.jC;have hlong:=x.jL;refine⟨(fr.seq (Fr.skip r)).seq Jh,?_,Fr.uq (Fr.uq x.ok.inside (Fr.af0 hins)) q2,?_,?_,?_,?_,?_⟩
  .have e0:Co.jE one (b::bs) c=Co.jE one bs (xW one c b):=rfl;rw[e0,hstep,q1];simp only[Fr.seq,nN,bY]
  .show fr.jC+1+Jh.jC<=lW ((z,f)::zs);have:lW ((z,f)::zs)=z.jC+1+lW zs:=by simp[lW]
   omega
  .show max (max fr.deep 0) Jh.deep<=D;omega
  .have:mX ((z,f)::zs)=z.jL+3+mX zs:=by simp[mX]
   have:=akc r ⟨x0,by omega⟩;show((jU (fr.is++[⟨5,[r]⟩]++Jh.is)).length:Int)<=_;rw[nN,nN,aA,aA];omega
  .refine lG.append ((x.low.wide ?_).append (lG.one ⟨λ_=>?_,trivial⟩)) q6
   .show c.free+z.wide<=c.free+W;omega
   .show r+1<=c.free+W;omega
  .intro v S jF k kl lD lp list a bb m hv hS hL hd hll hl ht hone;have hd:lp.length+1+max (max fr.deep 0) Jh.deep<=8:=hd;have hSa:=hS.left;have hlen1:((fr.seq (Fr.skip r)).jB k (lp++[(kl:Int)])).length=fr.size+1:=(Fr.uq x.ok.inside (Fr.af0 hins)).size _ _;have hSb:=hS.right hlen1;have hla:=hl.left;have hlb:=hl.right;obtain⟨m1,g1,g2,g3⟩:=w v S jF k (lp++[(kl:Int)]) m hv hSa.left (by rw[aA,eG];omega) hll hla.left (Ty.know hf ht hone λe=>jl e hk);have g3:oP c.free (-1) (lp.length+1) m m1:=by
    have:(lp++[(kl:Int)]).length=lp.length+1:=by simp
    rw[this]at g3;exact g3
   have g2:m1.get r=f (lS c m.get++[(b.1.text,m.get one)]) v m.get:=by rw[g2,aaW]
   have hsk:=(hSa.right (x.ok.size k (lp++[(kl:Int)]))).head;have hsk:S[k+fr.size]? =some (Q7 r kl):=by
    simpa using hsk
   by_cases hz:f (lS c m.get++[(b.1.text,m.get one)]) v m.get=0
   .refine⟨m1,g3,?_⟩;have hkv:nI (b::bs) ((z,f)::zs) (lS c m.get) v m.get (m.get one)=false:=by simp[nI,hz]
    rw[hkv];simp only[aH,cZ];exact g1.trans (asI hL hsk (by rw[g2,hz]))
   .have hon:=asK (v:=v) (jF:=jF) (m:=m1) hsk (by rw[g2];exact hz);obtain⟨m2,p1,p2⟩:=q7 v S jF (k+(fr.size+1)) kl lD lp list a bb m1 hv hSb hL (by omega) (by rw[g3.uV];exact hll) (by rw[g3.len];exact hlb) ((Gn ht g3 hf).jy rfl) (by rw[g3.jD one h0 h1 (by omega)];exact hone);have p1:=p1;have hkc:nI bs zs (lS c m1.get) v m1.get (m1.get one)=nI bs zs (lS c m.get) v m.get (m.get one):=by
     rw[BP hf g3,g3.jD one h0 h1 (by omega)];exact UL hr _ v m1.get m.get _ λi i0 i1=>g3.jD i i0 (by omega) (by omega)
    have hkv:nI (b::bs) ((z,f)::zs) (lS c m.get) v m.get (m.get one)=nI bs zs (lS c m.get) v m.get (m.get one):=by simp[nI,hz]
    have hpre:Reaches v S jF k m (k+(fr.size+1)) m1:=by
     rw[<-fE];exact g1.trans hon
    refine⟨m2,g3.trans p1,?_⟩;rw[hkv];have p2:if nI bs zs (lS c m1.get) v m1.get (m1.get one)=true then _ else _:=p2;rw[hkc]at p2;split at p2
    .rename_i hkt;rw[jh hkt];show Reaches v S jF k m (k+(fr.size+1+Jh.size)) m2;rw[<-fE];exact hpre.trans p2
    .rename_i hkt;rw[jg hkt];exact hpre.trans p2
def Ce(v:Vw)(list:Int):List Int:=bitsOf (pY (bits .and .i64 (v.all list) (v.all list)))
def yt(list one:Int)(ft tl:Fr):Fr:=(Fr.ins ⟨21,[one,list]⟩).seq (Fr.loop list one one (ft.seq tl))
theorem ZF{one list:Int}(h0:0<=one)(h1:one<2008)(hl:0<=list/\list<3):rC ⟨21,[one,list]⟩:=
 ⟨⟨by show(0:Int)<=21;omega,by show(21:Int)<=36;omega⟩,one,[list],rfl,rb h0 h1,list,[],rfl,⟨by unfold jJ;omega,(λh=>by cases h),λ_=>hl⟩,rfl⟩
theorem adh{a b list:Int}(h0:0<=a)(h1:a<2008)(h2:0<=b)(h3:b<2008)(hl:0<=list/\list<3):rC ⟨4,[list,a,b]⟩:=
 ⟨⟨by show(0:Int)<=4;omega,by show(4:Int)<=36;omega⟩,list,[a,b],rfl,⟨by unfold jJ;omega,(λh=>by cases h),λ_=>hl⟩,a,[b],rfl,rb h0 h1,b,[],rfl,rb h2 h3,rfl⟩
def ahk{α:Type}(Rel:α->Mc->Prop)(lo hi:Int):Prop:=∀(acc:α)(m m':Mc),m'.jD.length=m.jD.length->(∀i,lo<=i->i<hi->m'.get i=m.get i)->Rel acc m->Rel acc m'
theorem afT{ck:Ck}{c0 c1:Co}{one list:Int}{ft tl:Fr}{bs:List (Wd×Ex)}{zs:List (Sz×Val)}{kind:Int}{α:Type}(Rel:α->Mc->Prop)(step:α->Int->α){v:Vw}(hv:nM v)(hf:Fit ck c0)(hn:c1.jy=c0.jy)(h1:c0.free<=one)(h2:one<c1.free)
 (hfs:zq ck kind bs zs)(hok:ft.Ok true)(htk:tl.Ok true)(hsift:SA ck c1 one ft bs zs)(TY:ahk Rel c0.free one){m0:Mc}{jF:List Int}(ht:Ty ck c0 m0.get)
 (htail:∀(S:List St)(k:Nat)(lp:List Int)(m:Mc)(acc:α)(i:Int),uz S k (tl.jB k lp)->lp.length+tl.deep<=8->m.left.length=8->lG tl.is m.jD.length->oP c0.free (-1) 0 m0 m->m.get one=i->0<=i->i<64->Rel acc m->∃m',Reaches v S jF k m (k+tl.size) m'/\oP c0.free (-1) lp.length m m'/\Rel (step acc i) m')
 {S:List St}{k:Nat}{lp:List Int}(hS:uz S k ((yt list one ft tl).jB k lp))(hd:lp.length+(yt list one ft tl).deep<=8)(hll:m0.left.length=8)(hlow:lG (yt list one ft tl).is m0.jD.length){acc0:α}(hacc:Rel acc0 m0):
 ∃m',Reaches v S jF k m0 (k+(yt list one ft tl).size) m'/\oP c0.free (-1) lp.length m0 m'/\Rel ((Ce v list).foldl (λacc i=>if nI bs zs (lS c0 m0.get) v m0.get i then step acc i else acc) acc0) m':=by
 have h8:=hf.free;have hd:lp.length+max 0 (max ft.deep tl.deep+1)<=8:=hd;have hone:one<m0.jD.length:=by
  have:=(hlow.left ⟨21,[one,list]⟩ (by simp[Fr.ins])).1 rfl;omega
 have hS1:=hS.left.head;have hS2:=hS.right rfl;have hL:=hS2.head;have hSb:=hS2.tail.left;have rV:=(hS2.tail.right ((Fr.uq hok htk).size _ _)).head;have hSf:=hSb.left;have hSt:=hSb.right (hok.size _ _);have alp:=hlow.right;have Pz:lG (ft.is++tl.is) m0.jD.length:=λi hi=>alp i (eP _ (aI _ hi));have g0:=yB (v:=v) (jF:=jF) (m:=m0) hS1 (by show(6:Int)<=21;omega) (by show(21:Int)≠36;omega);have hw:Hx.work v (stepOf ⟨21,[one,list]⟩) m0=m0.put one (v.all list):=by
  unfold Hx.work;rw[jg (by show¬(21:Int)=6;omega),jh (by rfl)]
  rfl
 rw[hw]at g0;have hgo:(m0.put one (v.all list)).get one=v.all list:=vN _ _ _ (by omega) hone;have hgoes:=anc (v:=v) (jF:=jF) (S:=S) (k:=k+1) (m:=m0.put one (v.all list)) hL (by omega)
  (λrest m=>∃acc,oP c0.free (-1) lp.length m0 m/\Rel acc m/\rest.foldl (λacc i=>if nI bs zs (lS c0 m0.get) v m0.get i then step acc i else acc) acc=(Ce v list).foldl (λacc i=>if nI bs zs (lS c0 m0.get) v m0.get i then step acc i else acc) acc0)
  (by exact hll) ?hb ?hi
 .obtain⟨m',q1,acc,q2,q3,q4⟩:=hgoes;refine⟨m',?_,q2,by rw[eF]at q4;rw[<-q4];exact q3⟩;have hsz:k+(yt list one ft tl).size=k+1+1+(ft.size+tl.size)+1:=by
   show k+(1+(1+(ft.size+tl.size)+1))=_;omega
  rw[hsz];exact g0.trans q1
 case hb=>
  rintro i x rest m i0 i1 ⟨acc,s1,s2,s3⟩;have hb:oP c0.free (-1) lp.length m0 ((m.put one i).lX (lp.length:Nat) x):=by
   refine s1.trans ⟨by simp[Mc.lX,Mc.put],by simp[Mc.lX,Mc.put],rfl,λj j0 j1 _=>?_,λj hj=>PZ _ _ _ _ (by omega)⟩;exact BQ m j one i j0 (by omega) (by omega)
  have hmo:((m.put one i).lX (lp.length:Nat) x).get one=i:=vN _ _ _ (by omega) (by rw[s1.len];exact hone);have hml:((m.put one i).lX (lp.length:Nat) x).ni (lp.length:Nat)=x:=P5 _ _ _ (by show lp.length<m.left.length;rw[s1.uV];omega);have hr1:Rel acc ((m.put one i).lX (lp.length:Nat) x):=TY acc m _ (Dx _ _ _) (λj j0 j1=>BQ m j one i (by omega) (by omega) (by omega)) s2;generalize (m.put one i).lX (lp.length:Nat) x=mb at hb hmo hml hr1;have tyb:=(Gn ht hb hf).jy hn;obtain⟨m1,p1,p2⟩:=hsift v S jF (k+1+1) (k+1) _ lp list one one mb hv hSf hL (by omega) (by rw[hb.uV];exact hll) (by rw[hb.len];exact Pz.left) tyb (by rw[hmo];unfold jJ;omega);have hkeep:nI bs zs (lS c1 mb.get) v mb.get (mb.get one)=nI bs zs (lS c0 m0.get) v m0.get i:=by
   have he:lS c1 mb.get=lS c0 mb.get:=by unfold lS;rw[hn]
   rw[he,BP hf hb,hmo];exact UL hfs _ v _ _ i λj j0 j1=>hb.jD j j0 (by omega) (by omega)
  have hs1:=hb.trans (p1.less (by omega) (jf rfl) (by omega));have hr2:=TY acc mb m1 p1.len (λj j0 j1=>p1.jD j (by omega) (by omega) (by omega)) hr1;have hl1:=(p1.left lp.length (by omega)).trans hml;rw[hkeep]at p2;rw[bP]at s3;split at p2
  .rename_i hkt;rw[jh hkt]at s3;have alE:=(p1.jD one (by omega) h2 (by omega)).trans hmo;obtain⟨m2,y1,y2,y3⟩:=htail S (k+1+1+ft.size) (lp++[((k+1:Nat):Int)]) m1 acc i hSt (by rw[aA,eG];omega) (by rw[hs1.uV];exact hll) (by rw[hs1.len];exact Pz.right) (hs1.less (aV _) (jf rfl) (bD _)) alE i0 i1 hr2;have y2:oP c0.free (-1) (lp.length+1) m1 m2:=by
    rw[aA,eG]at y2;exact y2
   refine⟨m2,?_,(y2.left lp.length (by omega)).trans hl1,step acc i,hs1.trans (y2.less (aV _) (jf rfl) (by omega)),y3,s3⟩;refine(p2.trans y1).trans ?_;rw[fE (k+1+1)];exact aaU hL rV
  .rename_i hkt;rw[jg hkt]at s3;exact⟨m1,p2,hl1,acc,hs1,hr2,s3⟩
 case hi=>
  intro x;refine⟨acc0,?_,?_,?_⟩
  .refine⟨by simp[Mc.lX,Mc.put],by simp[Mc.lX,Mc.put],rfl,λj j0 j1 _=>BQ m0 j one _ j0 (by omega) (by omega),λj hj=>PZ _ _ _ _ (by omega)⟩
  .exact TY acc0 m0 _ (Dx _ _ _) (λj j0 j1=>BQ m0 j one _ (by omega) (by omega) (by omega)) hacc
  .rw[hgo]
   rfl
end
section
open Go.RowKit Hx
attribute [local go_sem ↓] Go.wp_at_zero Go.wp_at_succ
attribute [local go_sem] kP
section
variable {w w' w1 w2:jk}{C lo hi b S:Nat}{c:Co}{u:jm}{e l r:Ex}{a:Int}{T:jo}{x:Sx}
def ahL(x:Sx)(w:jk)(lo hi:Nat)(fv:jm):Prop:=
 (x.jE=[]/\fv=Nl)\/
 ∃g cap arr,fv=.slice (some (Ad g 0)) x.jE.length cap/\lo<=g/\g<hi/\w.heap[g]? =some (.cells arr 361)/\
  ∀(k:Nat)(b:Wd×Ex),x.jE[k]? =some b->∃u,arr[k * 3]? =some (.string b.1.text)/\arr[k * 3+1]? =some (Im b.1.at')/\arr[k * 3+2]? =some u/\b.2.here b.2.at' w lo hi u
def Bd(x:Sx):Hx.sV:=λw lo hi v=>∃S fv,v=Pt S 0/\lo<=S/\S<hi/\w.heap[S]? =some (.cells #[Im x.at',Im x.jw,.string x.base,Im x.of,fv] 348)/\ahL x w lo hi fv
theorem Gf(h:∀b∈x.jE,∀a,Lawful (b.2.here a)):Lawful (Bd x):=by
 constructor
 .rintro w w' lo hi v ⟨S,fv,hv,h1,h2,h3,h4⟩ hk;refine⟨S,fv,hv,h1,h2,(hk S h1 h2).trans h3,?_⟩;rcases h4 with h4|⟨g,cap,arr,k1,k2,k3,k4,k5⟩
  .exact jf h4
  .refine je ⟨g,cap,arr,k1,k2,k3,(hk g k2 k3).trans k4,λk b hb=>?_⟩;obtain⟨u,e1,e2,e3,e4⟩:=k5 k b hb;exact⟨u,e1,e2,e3,(h b (bT hb) _).loc _ _ _ _ _ e4 hk⟩
 .rintro w lo hi lo' hi' v ⟨S,fv,hv,h1,h2,h3,h4⟩ l1 l2;refine⟨S,fv,hv,by omega,by omega,h3,?_⟩;rcases h4 with h4|⟨g,cap,arr,k1,k2,k3,k4,k5⟩
  .exact jf h4
  .refine je ⟨g,cap,arr,k1,by omega,by omega,k4,λk b hb=>?_⟩;obtain⟨u,e1,e2,e3,e4⟩:=k5 k b hb;exact⟨u,e1,e2,e3,(h b (bT hb) _).wide _ _ _ _ _ _ e4 l1 l2⟩
theorem WJ(h:∀b∈x.jE,∀a,Lawful (b.2.here a)){v:jm}(hh:oW x w lo hi v):Bd x w lo hi v:=by
 obtain⟨S,fv,hv,h1,h2,h3,h4⟩:=hh;refine⟨S,fv,hv,h1,h2,h3,?_⟩;rcases h4 with h4|⟨g,cap,m,us,arr,e1,g1,g2,m1,m2,hbr,hg,harr⟩
 .exact jf h4
 .refine je ⟨g,cap,arr,e1,by omega,g2,hg,λk b hb=>?_⟩;obtain⟨l',m',u',e0,e1,e2,e3,e4,e5,e6⟩:=SX h hbr hb;obtain⟨z0,z1,z2⟩:=Ot _ us k _ u' hb e0;exact⟨u',harr _ _ z0,harr _ _ z1,harr _ _ z2,(h b (bT hb) _).wide _ _ _ _ _ _ e5 (by omega) (by omega)⟩
theorem ao4(h:wG x)(list:Int)(k:Nat):(Co.jE c.hold.2 (x.jE.take k) ((c.hold.1.lay 21 [c.hold.2,list]).lay 4 [list,c.hold.2,c.hold.2])).jy=c.jy/\((Co.jE c.hold.2 (x.jE.take k) ((c.hold.1.lay 21 [c.hold.2,list]).lay 4 [list,c.hold.2,c.hold.2])).code.length:Int)<=c.code.length+52+200 * ((x.jE.take k).map λb=>1+b.2.jw).sum:=by
 have h1:=OO c.hold.2 (x.jE.take k) ((c.hold.1.lay 21 [c.hold.2,list]).lay 4 [list,c.hold.2,c.hold.2]) (λb hb=>h.all b (dS hb)) (λb hb=>h.each b (dS hb));have h2:=oO (c.hold.1.lay 21 [c.hold.2,list]) 4 [list,c.hold.2,c.hold.2];have h3:=oO c.hold.1 21 [c.hold.2,list];have h5:c.hold.1.code.length=c.code.length:=rfl;simp only[aF,bg]at h2 h3;refine⟨h1.1,?_⟩;have:=h1.2;omega
theorem abn(h:wG x)(hh:Bd x w lo hi u)(hC:hi<=C)(hc:kD w C c)(hr:Room c x.jw):
 Calls prog 350 #[Pt C 0,u] w λen w'=>en=.returned (Im (c.jZ (jP x.base) x.jE).2)/\kD w' C (c.jZ (jP x.base) x.jE).1/\Gk w w' C:=by
 obtain⟨S,fv,rfl,h1,h2,hS,hrow⟩:=hh;have HP:Hid (∀k,k<=x.jE.length->(Co.jE c.hold.2 (x.jE.take k) ((c.hold.1.lay 21 [c.hold.2,jP x.base]).lay 4 [jP x.base,c.hold.2,c.hold.2])).jy=c.jy/\((Co.jE c.hold.2 (x.jE.take k) ((c.hold.1.lay 21 [c.hold.2,jP x.base]).lay 4 [jP x.base,c.hold.2,c.hold.2])).code.length:Int)<=c.code.length+52+200 * ((x.jE.take k).map λb=>1+b.2.jw).sum):=λk _=>ao4 h _ k;have IG:=jA (λy (hy:Gk w y C)=>TR ((hy.keep S (by omega)).trans hS));have KL:Hid (∀y,Gk w y C->y.cell? (Ad S 4)=some fv):=λy hy=>(hy.cell (by omega)).trans (jI hS);have HH:=jA (LV hc);have hcl:c.hold.1.code.length<=800000000:=by have:=hr.code;have:=h.sum;have:=Iu h.pos;have:c.hold.1.code.length=c.code.length:=rfl;omega
 have auC:(c.hold.1.lay 21 [c.hold.2,jP x.base]).code.length<=800000100:=by have:=oO c.hold.1 21 [c.hold.2,jP x.base];simp only[aF,bg]at this;omega
 obtain⟨fa,fc,hfv⟩:∃fa fc,fv=.slice fa x.jE.length fc:=by
  rcases hrow with⟨hf,rfl⟩|⟨g,cap,arr,rfl,_⟩
  .exact⟨none,0,by rw[hf];rfl⟩
  .exact⟨_,_,rfl⟩
 subst hfv;have ahs:Hid (∀(k:Nat)(y:jk)(hk:k<x.jE.length),Gk w y C->kD y C (Co.jE c.hold.2 (x.jE.take k) ((c.hold.1.lay 21 [c.hold.2,jP x.base]).lay 4 [jP x.base,c.hold.2,c.hold.2]))->
  ∃g u',fa=some (Ad g 0)/\y.cell? (Ad g (k * 3))=some (.string x.jE[k].1.text)/\y.cell? (Ad g (k * 3+1))=some (Im x.jE[k].1.at')/\y.cell? (Ad g (k * 3+2))=some u'/\(∃T b,u'=.iface T (Pt b 0))/\
   ∀o,Calls prog 352 #[Pt C 0,.agg #[.string x.jE[k].1.text,Im x.jE[k].1.at',u'],Im c.hold.2] (y.alloc o) λen w'=>en=.returned (Im ((Co.jE c.hold.2 (x.jE.take k) ((c.hold.1.lay 21 [c.hold.2,jP x.base]).lay 4 [jP x.base,c.hold.2,c.hold.2])).inside x.jE[k].1.text x.jE[k].2.does c.hold.2).2)/\kD w' C ((Co.jE c.hold.2 (x.jE.take k) ((c.hold.1.lay 21 [c.hold.2,jP x.base]).lay 4 [jP x.base,c.hold.2,c.hold.2])).inside x.jE[k].1.text x.jE[k].2.does c.hold.2).1/\Gk w w' C):=by
  intro k y hk hy hgc;rcases hrow with⟨hf,_⟩|⟨g,cap,arr,e1,g1,g2,hg,harr⟩
  .rw[hf]at hk;simp at hk
  cases e1;have hget:x.jE[k]? =some x.jE[k]:=by simp
  have hQ:=h.all x.jE[k] (fG hk);obtain⟨u',z0,z1,z2,e5⟩:=harr k _ hget;obtain⟨T1,b1,hu',_⟩:=hQ.ok.head _ _ _ _ _ e5;refine⟨g,u',rfl,(hy.cell (by omega)).trans ((jI hg).trans z0),(hy.cell (by omega)).trans ((jI hg).trans z1),(hy.cell (by omega)).trans ((jI hg).trans z2),⟨T1,b1,hu'⟩,λo=>?_⟩;have gy:=ah y o none;have ky:=hy.trans (Gk.grown gy hgc.lt);obtain⟨q1,q2⟩:=HP.out k (by omega);have q3:=WW h.pos k _ hget;have q4:=h.sum;have q5:=h.max;have q6:=Iu (fs:=x.jE.take k) λc hc=>h.pos c (dS hc);have q7:=hr.code;have q8:=hr.jy;refine(abk hQ ((hQ.ok.law _).gk e5 ky (by omega)) (by omega) (hgc.grow gy) ⟨by omega,by omega,by rw[q1];omega⟩ x.jE[k].1.text x.jE[k].1.at' c.hold.2).mono ?_;rintro en w' ⟨r1,r2,r3⟩;exact⟨r1,r2,ky.trans r3⟩
 have HIl:Hid (∀(k:Nat)(hk:k<x.jE.length),((Co.jE c.hold.2 (x.jE.take k) ((c.hold.1.lay 21 [c.hold.2,jP x.base]).lay 4 [jP x.base,c.hold.2,c.hold.2])).inside x.jE[k].1.text x.jE[k].2.does c.hold.2).1.code.length<=850000000):=λk hk=>by
  have hget:x.jE[k]? =some x.jE[k]:=by simp
  have hm:=fG hk;have q0:=UC (c:=Co.jE c.hold.2 (x.jE.take k) ((c.hold.1.lay 21 [c.hold.2,jP x.base]).lay 4 [jP x.base,c.hold.2,c.hold.2])) (h.all _ hm) x.jE[k].1.text c.hold.2 (h.each _ hm);obtain⟨_,q2⟩:=HP.out k (by omega);have q3:=WW h.pos k _ hget;have q4:=h.sum;have q5:=h.max;have q6:=Iu (fs:=x.jE.take k) λc hc=>h.pos c (dS hc);have q7:=hr.code;omega
 have HTk:Hid (∀(k:Nat)(hk:k<x.jE.length),Co.jE c.hold.2 (x.jE.take (k+1)) ((c.hold.1.lay 21 [c.hold.2,jP x.base]).lay 4 [jP x.base,c.hold.2,c.hold.2])=xW c.hold.2 (Co.jE c.hold.2 (x.jE.take k) ((c.hold.1.lay 21 [c.hold.2,jP x.base]).lay 4 [jP x.base,c.hold.2,c.hold.2])) x.jE[k]):=λk hk=>aky _ _ _ _ _ (by simp);have HZ:Hid (∀y,kD y C (Co.jE c.hold.2 (x.jE.take x.jE.length) ((c.hold.1.lay 21 [c.hold.2,jP x.base]).lay 4 [jP x.base,c.hold.2,c.hold.2]))->kD y C (c.jZ (jP x.base) x.jE).1):=λy hy=>by
  rw[eU (aj _)]at hy;exact hy
 have hlen:=h.len;clear hS hrow hc hr HP h;show Calls prog 350 #[Pt C 0,Pt S 0] w λen w'=>en=.returned (Im c.hold.2)/\kD w' C (c.jZ (jP x.base) x.jE).1/\Gk w w' C;generalize (c.jZ (jP x.base) x.jE).1=R at *;generalize hho:c.hold=ho at *;clear hho;obtain⟨c0,one⟩:=ho;simp only at *;generalize hls:jP x.base=ls at *;clear hls;go_enter func350,ntmps350;go_wp2_with fail;refine HH.out.mono ?_;rintro en w1 ⟨rfl,p1,q1⟩;have xM:=jA (Au p1 21 one ls (by omega));have mg:=jA q1;clear p1 q1 HH;go_wp2_with fail;refine(IG.out _ mg.out).mono ?_;rintro en w1' ⟨rfl,rfl⟩;go_wp2_with fail;refine xM.out.mono ?_;rintro en w2 ⟨rfl,p2,q2⟩;have lT:=jA (mg.out.trans q2);have HL2:=jA (O5 p2 4 ls one one (by omega));clear p2 q2 xM mg;go_wp2_with fail;refine(IG.out _ lT.out).mono ?_;rintro en w2' ⟨rfl,rfl⟩;go_wp2_with fail;refine HL2.out.mono ?_;rintro en w3 ⟨rfl,p3,q3⟩;have c4:=KL.out w3 (lT.out.trans q3);have qA:=jA (jd p3 (lT.out.trans q3));clear p3 q3 HL2 lT;generalize (c0.lay 21 [one,ls]).lay 4 [ls,one,one]=cb at *;go_wp2_with fail;go_loopg [30] (x.jE.length+1) (λgg i wr=>Hid (∃k:Nat,k+gg=x.jE.length+1/\k<=x.jE.length/\i=Im k/\kD wr C (Co.jE one (x.jE.take k) cb)/\Gk w wr C))
 case atStart=>exact⟨0,by omega,bD _,rfl,qA.out⟩
 case round=>
  obtain⟨k,hk1,hk2,rfl,hI,hG⟩:=hrel.out;clear hrel qA c4;by_cases hlt:k<x.jE.length
  .have d1:decide ((k:Int)<(x.jE.length:Int))=true:=by simp;omega
   have i0:(0:Int)<=(k:Int):=by omega
   have i1:(k:Int)<(x.jE.length:Int):=by omega
   obtain⟨g,u',hfa,k0,k1,k2,⟨T1,b1,hu'⟩,ES⟩:=ahs.out k wr hlt hG hI;subst hfa hu';have hil:=HIl.out k hlt;have HT:=HTk.out k hlt;unfold xW at HT;obtain⟨va,na,hAt⟩:=hI;have f2:=jK 2 hAt.jM rfl;have zM:=hAt.lt;have nC:¬C=wr.heap.size:=by omega
   have HT:=jA HT;have ES:=jA ES;obtain⟨g',hg'⟩:∃g',gk=g'+1:=⟨gk-1,by omega⟩;clear hG hAt;generalize (Co.jE one (x.jE.take k) cb).inside x.jE[k].1.text x.jE[k].2.does one=ins at *;obtain⟨ic,is⟩:=ins;simp only at hil HT ES;generalize (Co.jE one (x.jE.take k) cb).free=fr at *;generalize x.jE[k].1.text=ft at *;generalize x.jE[k].1.at'=fat at *;go_wp2_with fail;refine(ES.out _).mono ?_;rintro en w4 ⟨rfl,p4,q4⟩;have HL:=jA (abm p4 5 is (by omega));have tJ:=jA q4;clear p4 q4 ES;go_wp2_with fail;refine HL.out.mono ?_;rintro en w5 ⟨rfl,⟨v5,Nu,p5⟩,q5⟩;have d2:=jK 2 p5.jM rfl;have fz:=qV p5.jM;have HE:Hid (kD (w5.setCell (Ad C 2) (Im fr)) C (Co.jE one (x.jE.take (k+1)) cb)/\Gk w (w5.setCell (Ad C 2) (Im fr)) C):=by
    rw[HT.out];exact⟨⟨v5,Nu,p5.jX fr⟩,(tJ.out.trans q5).trans (Gk.free _ _ _)⟩
   clear p5 q5 HL tJ;go_wp2_with fail;go_roundg g'
   case measure=>omega
   case rel=>exact⟨k+1,by omega,by omega,by go_num,HE.out⟩
  .have d1:decide ((k:Int)<(x.jE.length:Int))=false:=by simp;omega
   have hke:k=x.jE.length:=by omega
   have HE:Hid (kD wr C R/\Gk w wr C):=⟨HZ.out wr (by rw[hke]at hI;exact hI),hG⟩;clear hI hG hke;go_wp2_with fail;go_ret;exact⟨rfl,HE.out⟩
end
section
variable {w w' w1 w2 w3 w4:jk}{C lo hi b d m k:Nat}{c:Ck}{u v:jm}{e l r:Ex}{a:Int}{T:jo}{o:Obj}{x:Sx}
theorem rD.ok(h:rD 100000 (mD d) x):pq x:=⟨h.jw,h.of,λb hb=>(h.all b hb).ok⟩
theorem rD.law(h:rD 100000 (mD d) x):Lawful (oW x):=NJ λb hb a=>(h.all b hb).ok.law a
theorem aic(h:rD 100000 (mD d) x)(kind:Int)(what:ji):mD (d+1) (xR kind what x):=by
 refine⟨ZJ kind what h.ok,λc=>?_,?_⟩
 .show(oz x.of x.jE c).jy=c.jy;exact Nc _ _ _ λb hb=>(h.all b hb).jy
 rintro a w lo hi T b C c ⟨b',us,hv,h1,h2,⟨u,rfl,hu⟩,hb⟩ hC hc hn;cases hv;obtain⟨S,fv,rfl,_⟩:=wR hu;have c4:=jK 4 hb rfl;have HS:=jA (Ti h hu (by omega) hc hn);have HB:=jA hb;refine⟨393,λw=>by kernel_rfl,λargs w=>by kernel_rfl,?_⟩;clear hu hb hc hn h;go_enter func393,ntmps393;go_wp2_with fail;refine HS.out.mono ?_;rintro en w1 ⟨rfl,q1,q2,q3⟩;have HE:Hid (nU (xR kind what x) a w w1 lo hi (.iface 410 (Pt b 0)) b C c):=by
  have hb2:=(q3.keep b (by omega) (je (aj _))).trans HB.out;exact⟨⟨b,_,rfl,h1,h2,⟨_,rfl,q1⟩,hb2⟩,jI hb2,q2,q3.wide (aj _) (by omega)⟩
 clear q1 q2 q3 HS;go_wp2_with fail;go_end0;exact⟨rfl,HE.out⟩
theorem an6(h:rD 100000 (mD d) x)(kind:Int)(what:ji)(t:Wd)(he:mD d e):mD (d+1) (uY kind what x (t,e)):=by
 obtain⟨tt,ta⟩:=t;have hnm:∀c,(oz x.of x.jE c).jy=c.jy:=λc=>Nc _ _ _ λb hb=>(h.all b hb).jy;refine⟨adA kind what h.ok (b:=(⟨tt,ta⟩,e)) he.ok,λc=>?_,?_⟩
 .show((oz x.of x.jE c).bracket tt ta e.does e.at' x.of (if what.data.toList==[97,110,121]then 2 else 1)).jy=c.jy;rw[aad _ _ _ _ _ _ _ he.jy,hnm]
 rintro a w lo hi T b C c ⟨b',us,hv,h1,h2,⟨m,u,v,rfl,hm1,hm2,hu,hv2⟩,hb⟩ hC hc hn;cases hv;obtain⟨S,fv,rfl,s1,s2,s3⟩:=wR hu;obtain⟨T2,b2,rfl,_⟩:=he.ok.head _ _ _ _ _ hv2;have c4:=jK 4 hb rfl;have HS:=jA (Ti h hu (by omega) hc hn);have HB:=jA hb;have HC:=jA (jd he (jd hv2 (jd hn (jd h.law hnm))));refine⟨396,λw=>by kernel_rfl,λargs w=>by kernel_rfl,?_⟩;clear hu hb hc hn h hv2 he s3 hnm;obtain⟨wn,hwn⟩:∃wn:Int,wn=if what.data.toList==[97,110,121]then 2 else 1:=⟨_,rfl⟩;have N8:=jA hwn;have hcase:((what.toList==[97,110,121])=true/\wn=2)\/((what.toList==[97,110,121])=false/\wn=1):=by
  rw[aZ,hwn];cases (what.data.toList==[97,110,121])
  .exact je ⟨rfl,rfl⟩
  .exact jf ⟨rfl,rfl⟩
 clear hwn;go_enter func396,ntmps396;go_wp2_with fail;refine HS.out.mono ?_;rintro en w1 ⟨rfl,q1,q2,q3⟩;have hb1:=(q3.keep b (by omega) (je hm2)).trans HB.out;have e3:=jK 3 hb1 rfl;have e4:=jK 4 hb1 rfl;have e5:=jK 5 hb1 rfl;have e6:=jK 6 hb1 rfl;have e7:=jK 7 hb1 rfl;obtain⟨S',Dh,hS',_,_,s3⟩:=wR q1;cases hS';have eS:=jK 3 s3 rfl;have HK:=jA (jd q1 (jd q2 q3));have Gv:Hid (∀n,Calls prog 351 #[Pt C 0,.agg #[.string tt,Im ta,.iface T2 (Pt b2 0)],Im x.of,Im wn] (w1.drewN n) λen w'=>en=.returned (.tuple #[])/\e.here e.at' w' m b (.iface T2 (Pt b2 0))/\kY w' C ((oz x.of x.jE c).bracket tt ta e.does e.at' x.of wn)/\Lk w1 w' m b C):=λn=>by
  have MF:=Lk.grown (lK w1 n) q2.lt;have hh1:=(HC.out.1.ok.law _).lk ((HC.out.1.ok.law _).lk HC.out.2.1 q3 (by omega) (je (aj _))) MF (by omega) (je (bD _));refine(aaA HC.out.1 hh1 (by omega) (q2.grow (lK w1 n)) (by rw[HC.out.2.2.2.2];exact HC.out.2.2.1) tt ta x.of wn).mono ?_;rintro en w' ⟨r1,r2,r3,r4⟩;exact⟨r1,r2,r3,(MF.all _ _).trans r4⟩
 have nT:Hid (∀w2,e.here e.at' w2 m b (.iface T2 (Pt b2 0))->kY w2 C ((oz x.of x.jE c).bracket tt ta e.does e.at' x.of wn)->Lk w1 w2 m b C->nU (uY kind what x (⟨tt,ta⟩,e)) a w w2 lo hi (.iface 413 (Pt b 0)) b C c):=λw2 r1 r2 r3=>by
  have kk:=(HK.out.2.2.wide (aj _) hm2).trans (r3.wide hm1 (aj _));have hb2:=(kk.keep b (by omega) (je (aj _))).trans HB.out;rw[N8.out]at r2;exact⟨⟨b,_,rfl,h1,h2,⟨m,_,_,rfl,hm1,hm2,HC.out.2.2.2.1.lk HK.out.1 r3 (by omega) (jf (aj _)),r1⟩,hb2⟩,jI hb2,r2,kk.wide (aj _) (by omega)⟩
 clear q1 q2 q3 hb1 s3 HS;rcases hcase with⟨t1,rfl⟩|⟨t1,rfl⟩;all_goals
  go_wp2_with fail;refine nP 13 (by kernel_rfl) (by kernel_rfl) ?_;simp only[aC,aO,aG,aQ];repeat (go_big_quiet_step (fail))
  refine bF ?_;intro _ hw';obtain⟨n3,hw''⟩:=hw';subst hw'';go_wp2_with fail;refine(Gv.out _).mono ?_;rintro en w2 ⟨rfl,r1,r2,r3⟩;have HE:=nT.out w2 r1 r2 r3;have HE:=jA HE;clear r1 r2 r3;go_wp2_with fail;go_end0;exact⟨rfl,HE.out⟩
theorem mD.up(h:mD d e):mD (d+1) e:=⟨h.ok,h.jy,λa w lo hi T b C c hh hC hc hn=>h.look a w lo hi T b C c hh hC hc (by omega)⟩
theorem am6(N:Nat)(hN:N<=100000)(d:Nat):CV N (mD d) (mD (d+1)) where
 jw:=λ_ h=>h.ok.jw
 number:=λa n=>aoy _ a n
 kW:=λa b=>atw _ a b
 none:=adN _
 register:=λa i=>aqO _ a i
 use:=λa t=>atP _ a t
 widen:=λ_ a h=>(atW h a).up
 isNone:=λa _ h=>(amk h a).up
 minus:=λa sign _ _ h=>ad7 h a 1 sign
 not:=λa sign _ _ h=>ad7 h a 2 sign
 two:=λa sign _ _ h k=>atC h k a _ sign
 property:=λa _ t h=>apM h a _ _ t
 Qp:=λa _ _ h k=>aoI h k.up a
 Le:=λk what _ h=>aic ⟨h.of,h.all,dH h.len hN,h.jw,h.sum⟩ k what
 FX:=λk what _ b h hb=>an6 ⟨h.of,h.all,dH h.len hN,h.jw,h.sum⟩ k what b.1 hb
theorem akv(s:ji)(hs:s.size<=4000)(d:Nat)(p:Ps):mD d (kT s d p).1:=
 OJ s mD (adN 0) (λd=>am6 (s.size+1) (by omega) d) d p
end
section
variable {w w' w1 w2:jk}{C lo hi b S:Nat}{c:Co}{u:jm}{e l r:Ex}{a:Int}{T:jo}{x:Sx}
theorem abj(h:wG x)(rW:Lawful (Bd x))(hh:Bd x w lo hi u)(hC:hi<=C)(hc:kD w C c)(hr:Room c x.jw)(hr2:(c.code.length:Int)+200 * x.jw<=799999900):
 Calls prog 347 #[Pt C 0,u] w λen w'=>en=.returned (Im (c.nk (jP x.base) x.jE).2)/\kD w' C (c.nk (jP x.base) x.jE).1/\Gk w w' C:=by
 obtain⟨S,fv,rfl,h1,h2,hS,hrow⟩:=hh;have hh:Bd x w lo hi (Pt S 0):=⟨S,fv,rfl,h1,h2,hS,hrow⟩;have IG:=jA (λy (hy:Gk w y C)=>TR ((hy.keep S (by omega)).trans hS));have KL:Hid (∀y,Gk w y C->y.cell? (Ad S 4)=some fv):=λy hy=>(hy.cell (by omega)).trans (jI hS);have HH:=jA (LV hc);have hsn:=Iu h.pos;have hsm:=h.sum;have hcl:c.hold.1.code.length<=800000000:=by have:=hr.code;have:c.hold.1.code.length=c.code.length:=rfl;omega
 obtain⟨fa,fc,hfv⟩:∃fa fc,fv=.slice fa x.jE.length fc:=by
  rcases hrow with⟨hf,rfl⟩|⟨g,cap,arr,rfl,_⟩
  .exact⟨none,0,by rw[hf];rfl⟩
  .exact⟨_,_,rfl⟩
 subst hfv;have Gx:Hid (∀y,Gk w y C->kD y C (c.hold.1.lay 6 [c.hold.2,0])->Calls prog 350 #[Pt C 0,Pt S 0] y λen w'=>en=.returned (Im ((c.hold.1.lay 6 [c.hold.2,0]).jZ (jP x.base) x.jE).2)/\kD w' C ((c.hold.1.lay 6 [c.hold.2,0]).jZ (jP x.base) x.jE).1/\Gk y w' C):=λy hy hg=>by
  have h3:=oO c.hold.1 6 [c.hold.2,0];have h5:c.hold.1.code.length=c.code.length:=rfl;simp only[aF,bg]at h3;exact abn h (rW.gk hh hy hC) hC hg ⟨hr.jw,by omega,hr.jy⟩
 have hol:((c.hold.1.lay 6 [c.hold.2,0]).jZ (jP x.base) x.jE).1.code.length<=800000000:=by
  have h1:=VH (c:=c.hold.1.lay 6 [c.hold.2,0]) h (jP x.base);have h3:=oO c.hold.1 6 [c.hold.2,0];have h5:c.hold.1.code.length=c.code.length:=rfl;simp only[aF,bg]at h3;omega
 have hlen:=h.len;clear hS hrow hc hr h hh hr2;unfold Co.nk;by_cases hf:x.jE.length=0
 .rw[jh hf];rw[hf]at KL;clear Gx hol;simp only;generalize hho:c.hold=ho at *;clear hho;obtain⟨c0,slot⟩:=ho;simp only at *;generalize jP x.base=ls at *;go_enter func347,ntmps347;go_wp2_with fail;refine HH.out.mono ?_;rintro en w1 ⟨rfl,p1,q1⟩;have c4:=KL.out w1 q1;have xM:=jA (Au p1 21 slot ls (by omega));have mg:=jA q1;clear p1 q1 HH;go_wp2_with fail;refine(IG.out _ mg.out).mono ?_;rintro en w1' ⟨rfl,rfl⟩;go_wp2_with fail;refine xM.out.mono ?_;rintro en w2 ⟨rfl,p2,q2⟩;have HE:=jA (jd p2 (mg.out.trans q2));clear p2 q2;go_wp2_with fail;go_ret;exact⟨rfl,HE.out⟩
 .rw[jg hf];have hb:((x.jE.length:Int)==0)=false:=by rw[beq_eq_false_iff_ne];omega
  simp only;generalize hho:c.hold=ho at *;clear hho;obtain⟨c0,slot⟩:=ho;simp only at *;generalize jP x.base=ls at *;generalize hoo:(c0.lay 6 [slot,0]).jZ ls x.jE=oo at *;clear hoo;obtain⟨oc,os⟩:=oo;simp only at Gx hol⊢;generalize x.jE.length=nf at *;go_enter func347,ntmps347;go_wp2_with fail;refine HH.out.mono ?_;rintro en w1 ⟨rfl,p1,q1⟩;have c4:=KL.out w1 q1;have xM:=jA (Au p1 6 slot 0 (by omega));have mg:=jA q1;clear p1 q1 HH;go_wp2_with fail;refine xM.out.mono ?_;rintro en w2 ⟨rfl,p2,q2⟩;have Zj:=jA (Gx.out w2 (mg.out.trans q2) p2);have lT:=jA (mg.out.trans q2);clear p2 q2 xM mg Gx;go_wp2_with fail;refine Zj.out.mono ?_;rintro en w3 ⟨rfl,p3,q3⟩;have HL2:=jA (Au p3 22 slot os (by omega));have qA:=jA (lT.out.trans q3);clear p3 q3 Zj lT;go_wp2_with fail;refine HL2.out.mono ?_;rintro en w4 ⟨rfl,p4,q4⟩;have wV:=jA (FM p4 0 (by have:=oO oc 22 [slot,os];simp only[aF,bg]at this;omega));have tJ:=jA (qA.out.trans q4);clear p4 q4 HL2 qA;go_wp2_with fail;refine wV.out.mono ?_;rintro en w5 ⟨rfl,⟨v5,Nu,p5⟩,q5⟩;have d2:=jK 2 p5.jM rfl;have fz:=qV p5.jM;have HE:Hid (kD (w5.setCell (Ad C 2) (Im (wrap64 (slot+1)))) C (((oc.lay 22 [slot,os]).lay 0 []).jX (wrap64 (slot+1)))/\Gk w (w5.setCell (Ad C 2) (Im (wrap64 (slot+1)))) C):=⟨⟨v5,Nu,p5.jX _⟩,(tJ.out.trans q5).trans (Gk.free _ _ _)⟩;clear p5 q5 wV tJ;go_wp2_with fail;go_ret;exact⟨rfl,HE.out⟩
def Dc(what base:ji)(fs:List (Wd×Ex))(c:Co)(into:Int):Co×Int:=
 ((((c.nk (jP base) fs).1.jX c.free).choose into).1.lay (if what.data.toList==[99,111,117,110,116]then 23 else 24) [(((c.nk (jP base) fs).1.jX c.free).choose into).2,(c.nk (jP base) fs).2],(((c.nk (jP base) fs).1.jX c.free).choose into).2)
theorem SH(hall:∀b∈x.jE,kC b.2)(kind a0 k:Int)(what:ji)(hk0:0<=k/\k<=1000001)(hsg:k<=1000000->wG x/\1+x.jw<=k)(dn:Dn)(hd:dn.give=Dc what x.base x.jE):kC (uZ 410 412 a0 k kind (og (Bd x)) (λus=>.string what::us) dn):=by
 have rW:=Gf λb hb a=>(hall b hb).ok.law a;refine⟨JK (by simp[lU]) (qW rW) hk0,λc into=>?_,λc into hk=>?_,?_⟩
 .show(dn.give c into).1.jy=c.jy;rw[hd];show((((c.nk (jP x.base) x.jE).1.jX c.free).choose into).1.lay _ _).jy=c.jy;rw[Hr,Jd,QO];unfold Co.nk;have hfn:∀(fs:List (Wd×Ex))(c:Co)(one:Int),(∀b∈fs,kC b.2)->(Co.jE one fs c).jy=c.jy:=by
   intro fs;induction fs with
   |nil=>intro c one _;rfl
   |cons b fs ih=>
    intro c one hb;have e:Co.jE one (b::fs) c=Co.jE one fs (xW one c b):=rfl;rw[e,ih _ _ (λd hd=>hb d (aI _ hd)),TJ one (hb b (aW ..))]
  split
  .rfl
  .exact hfn _ _ _ hall
 .show((dn.give c into).1.code.length:Int)<=c.code.length+200 * k+50;rw[hd];show((((((c.nk (jP x.base) x.jE).1.jX c.free).choose into).1.lay (if what.data.toList==[99,111,117,110,116]then 23 else 24) [_,_]).code.length:Nat):Int)<=c.code.length+200 * k+50;obtain⟨hs,hp⟩:=hsg hk;have h1:=oO ((((c.nk (jP x.base) x.jE).1.jX c.free).choose into).1) (if what.data.toList==[99,111,117,110,116]then 23 else 24) [(((c.nk (jP x.base) x.jE).1.jX c.free).choose into).2,(c.nk (jP x.base) x.jE).2];rw[Df,EH]at h1;have h2:=OM (c:=c) hs (jP x.base);simp only[aF,bg]at h1;omega
 rintro a w lo hi T b C c into ⟨b',us,hv,h1,h2,⟨u,rfl,hu⟩,hb⟩ hC hc hr;cases hv;obtain⟨hs,hp⟩:=hsg hr.jw;have hr:Room c k:=hr;obtain⟨S,fv,rfl,_⟩:=id hu;have c3:=jK 3 hb rfl;have c4:=jK 4 hb rfl;refine⟨392,λw=>by kernel_rfl,λargs w=>by kernel_rfl,?_⟩;have hrc:=hr.code;have HF:=jA (abj hs rW hu (by omega) hc (hr.less (by omega)) (by omega));have hfl:(c.nk (jP x.base) x.jE).1.code.length<=850000000:=by
  have:=OM (c:=c) hs (jP x.base);have:=hs.max;omega
 have rJ:=jA (hb);obtain⟨v0,JR,h0⟩:=hc;have c2:=jK 2 h0.jM rfl;have hbC:b<C:=by omega
 clear hu hb h0 hr hs hall hrc rW hsg hp;show Calls prog 392 #[Pt b 0,Pt C 0,Im into] w λen w'=>en=.returned (Im (dn.give c into).2)/\kD w' C (dn.give c into).1/\Gk w w' C;rw[hd];clear hd;show Calls prog 392 #[Pt b 0,Pt C 0,Im into] w λen w'=>en=.returned (Im (((c.nk (jP x.base) x.jE).1.jX c.free).choose into).2)/\kD w' C ((((c.nk (jP x.base) x.jE).1.jX c.free).choose into).1.lay (if what.data.toList==[99,111,117,110,116]then 23 else 24) [(((c.nk (jP x.base) x.jE).1.jX c.free).choose into).2,(c.nk (jP x.base) x.jE).2])/\Gk w w' C;generalize c.nk (jP x.base) x.jE=ff at *;obtain⟨fc,fs⟩:=ff;simp only at HF hfl⊢;generalize hfr:c.free=fr at *;have hl2:((fc.jX fr).choose into).1.code.length<=900000000:=by rw[Df,EH];omega
 generalize hk:(fc.jX fr).choose into=k at *;have KE:=jA hk;clear hk;obtain⟨k1,k2⟩:=k;simp only at hl2⊢;have hcase:((what.toList==[99,111,117,110,116])=true/\(if what.data.toList==[99,111,117,110,116]then (23:Int)else 24)=23)\/((what.toList==[99,111,117,110,116])=false/\(if what.data.toList==[99,111,117,110,116]then (23:Int)else 24)=24):=by
  rw[aZ];cases (what.data.toList==[99,111,117,110,116])
  .exact je ⟨rfl,rfl⟩
  .exact jf ⟨rfl,rfl⟩
 rcases hcase with⟨t1,t2⟩|⟨t1,t2⟩;all_goals
  rw[t2];clear t2;go_enter func392,ntmps392;go_wp2_with fail;refine HF.out.mono ?_;rintro e1 w1 ⟨rfl,⟨v1,zT,p1⟩,q1⟩;have d2:=jK 2 p1.jM rfl;have fz:=qV p1.jM;have HC:Hid (Calls prog 364 #[Pt C 0,Im into] (w1.setCell (Ad C 2) (Im fr)) λe w'=>e=.returned (Im k2)/\kD w' C k1/\Gk (w1.setCell (Ad C 2) (Im fr)) w' C):=by
   have:=LU ⟨v1,zT,p1.jX fr⟩ into;rw[KE.out]at this;exact this
  have mg:Hid (Gk w (w1.setCell (Ad C 2) (Im fr)) C):=q1.trans (Gk.free _ _ _);clear p1 q1 HF;go_wp2_with fail;refine HC.out.mono ?_;rintro e2 w2 ⟨rfl,p2,q2⟩;have a3:=((mg.out.trans q2).cell hbC).trans c3;have HL:=λo=>Au p2 o k2 fs hl2;have HL:=jA (HL);have lT:=jA (mg.out.trans q2);clear p2 q2 HC mg d2 fz;go_wp2_with fail;refine(HL.out _).mono ?_;rintro e3 w3 ⟨rfl,p3,q3⟩;have HE:=jA (jd p3 (lT.out.trans q3));clear p3 q3 HL;go_wp2_with fail;go_ret;exact⟨rfl,HE.out⟩
theorem ZI{N:Nat}(hN:N<=100000)(h:rD N kC x)(kind:Int)(what:ji):kC (xR kind what x):=by
 have hl:∀b∈x.jE,∀a,Lawful (b.2.here a):=λb hb a=>(h.all b hb).ok.law a;have rW:Lawful (oW x):=NJ hl;refine(SH h.all kind x.at' (jR [x.jw]) what (qj h.jw) (λhk=>?_) (ZH kind what x) rfl).of (vV (by simp[lU]) (qW rW) (qj h.jw)).base (λ_ _ _ _ _ hh=>JO (λ_ _ _ _ _ ⟨u,e,hu⟩ hb=>⟨u,e,(Gf hl).wide _ _ _ _ _ _ (WJ hl hu) (aj _) hb⟩) hh) rfl rfl;have hp:=yG h.jw.1 h.jw.2 hk;exact⟨wG.of hN h (by omega),by omega⟩
end
end
end Go.Proofs.YthllhabjfchgiaaGreatDoor
