import Derived.Test.YthllhabjfchgiaaGreatDoorHb41
set_option maxRecDepth 100000
set_option maxHeartbeats 8000000
set_option linter.unusedSimpArgs false
namespace Go.Proofs.YthllhabjfchgiaaGreatDoor
open _root_.Go.Proofs.Tryz
section
open Go.RowKit Hx
attribute [local go_sem ↓] Go.wp_at_zero Go.wp_at_succ
attribute [local go_sem] kL
section
variable {w w' w1 w2 w3 wr W:jo}{lo hi m b H S g l k:Nat}{u v fv:jr}{e:Ex}{a:Int}{T:jv}{c:Co}{x:Sx}
theorem ahw{fs fs':List (Wd×Ex)}(h:yL fs fs')(what base:jm):CU what base fs=CU what base fs':=by
 funext c into
 unfold CU;rw[aaT h]
theorem am4{fs:List (Wd×Ex)}{e':Ex}(h:yL fs x.fold)(hg:e'.does.give=e.does.fd.give)(kind:Int)(what:jm)(t:Wd):(yu kind what x (t,e)).fd.give=(yu kind what {x with jF:=fs} (t,e')).give:=by
 funext c into
 simp only[yu];rw[ad1 h,ab6 (d:=e'.does) (d':=e.does.fd.dn) rfl hg]
theorem Uk{N:Nat}(h:qY N nN x):qY N kE x:=⟨h.of,λb hb=>(h.all b hb).lW,h.len,h.jy,h.sum⟩
theorem Uc{N:Nat}(hN:N<=100000)(h:qY N nN x)(hk:x.jy<=1000000){fs:List (Wd×Ex)}(h2:∀b∈fs,kE b.2)(h3:(fs.map λb=>1+b.2.jy).sum<=(x.jF.map λb=>1+b.2.jy).sum)(h4:fs.length<=x.jF.length):wo {x with jF:=fs}:=
 ⟨h2,λb hb=>(h2 b hb).ok.jy.1,by have:=h.sum hk;show 1+(fs.map λb=>1+b.2.jy).sum<=x.jy;omega,hk,by have:=h.len;show fs.length<=100000;omega⟩
theorem ahx{N:Nat}(hN:N<=100000)(h:qY N nN x)(kind:Int)(what:jm):nN (xW kind what x):=by
 refine⟨Zt hN (Uk h) kind what,?_⟩;rintro a w lo hi T b ⟨b',us,hv,h1,h2,⟨u,rfl,hu⟩,hb⟩ hH;cases hv;obtain⟨S,fv,rfl,_⟩:=id hu;have c4:w.cell? (Ad b 4)=some (Pt S 0):=jH hb;have H1:=jB (WG h.all (by have:=h.len;omega) hu (by omega));have HB:=jB hb;refine⟨391,λw=>by kernel_rfl,λargs w=>by kernel_rfl,?_⟩;clear hu hb;go_enter func391,ntmps391;go_wp2_with fail;refine H1.out.mono ?_;rintro en w1 ⟨rfl,hF,hK⟩;have HE:Hid (mQ (xW kind what x).does.fd (xW kind what x).jy w1 lo hi w.heap.size w1.heap.size (.iface 410 (Pt b 0))/\Fk w w1 lo hi):=by
  have hb1:=(hK.keep b (by omega) (jh (aj _))).trans HB.out;have s1:=hK.size;obtain⟨fs,e1,e2,e3,e4,e5,e6,e7⟩:=hF;refine⟨⟨_,_,b,qR,0,0,rfl,by simp[lM],ji ⟨h1,h2⟩,Tj (x:={x with jF:=fs}) e2 kind a (jS [x.jy]) what (pW h.jy) (λhk=>?_) {give:=(xW kind what x).does.fd.give} ?_,rfl,aV _,λh=>jq h (by show¬(0:Int)=3;decide),λw' ha=>⟨?_,Il rfl (by unfold yJ;decide)⟩⟩,hK.wide (aj _) (by omega)⟩
  .have hp:=yA h.jy.1 h.jy.2 hk;exact⟨Uc hN h (by omega) e2 e3 e4,by show 1+x.jy<=_;omega⟩
  .show CU what x.base x.fold=CU what x.base fs;exact(ahw e1 _ _).symm
  .exact⟨b,_,rfl,h1,by omega,⟨_,rfl,e7 w' (ha.less (aj _) (by omega) (aj _) (aj _))⟩,(ha b (ji ⟨h1,h2⟩)).trans hb1⟩
 clear hF hK H1 HB;go_wp2_with fail;go_ret;exact⟨_,rfl,HE.out⟩
theorem am5{N:Nat}(hN:N<=100000)(h:qY N nN x)(kind:Int)(what:jm)(t:Wd)(he:nN e):nN (vK kind what x (t,e)):=by
 have ec:=he.lW.ok.jy;refine⟨ade hN (Uk h) kind what t he.lW,?_⟩;rintro a w lo hi T b ⟨b',us,hv,h1,h2,⟨m,u,v,rfl,m1,m2,hu,hv2⟩,hb⟩ hH;cases hv;obtain⟨S,fv,rfl,_⟩:=id hu;obtain⟨T1,b1,rfl,hT1,l1,l2,_⟩:=he.lW.ok.head _ _ _ _ _ hv2;obtain⟨tt,ta⟩:=t;have c4:w.cell? (Ad b 4)=some (Pt S 0):=jH hb;have H1:=jB (WG h.all (by have:=h.len;omega) hu (by omega));have HB:=jB hb;have HV:=jB hv2;refine⟨394,λw=>by kernel_rfl,λargs w=>by kernel_rfl,?_⟩;have hbw:b<w.heap.size:=by omega
 clear hu hb hv2;go_enter func394,ntmps394;go_wp2_with fail;refine H1.out.mono ?_;rintro en w1 ⟨rfl,hF,hK⟩;have s1:=hK.size;have hb1:=(hK.keep b hbw (jh (by omega))).trans HB.out;have d7:w1.cell? (Ad b 7)=some (.iface T1 (Pt b1 0)):=jH hb1;obtain⟨f1,Gh,kK,H2⟩:=he.fold _ w1 m b T1 b1 ((he.lW.ok.law _).loc _ _ _ _ _ HV.out λj j1 j2=>hK.keep j (by omega) (jh j1)) (by omega);have kK:∀args w,(callFunc f1 args).run prog w=.ok (.enter f1 args) w:=kK;have H2:=jB H2;have HS:=jB (jg hF (jg hK hb1));clear hF hK hb1 HB HV H1;go_wp2_with fail;refine H2.out.mono ?_;rintro en w2 ⟨v',rfl,hF2,hK2⟩;obtain⟨hF,hK,hb1⟩:=HS.out;have s2:=hK2.size;have hb2:=(hK2.keep b (by omega) (jh (aj _))).trans hb1;have e7:w2.cell? (Ad b 7)=some (.iface T1 (Pt b1 0)):=jH hb2;have fz:∀j,w2.frozen? (Ad b j)=false:=λj=>oh hb2;obtain⟨e',T2,b2,_,_,_,hv2,q1,q2,q3,q4,q5,_,q6⟩:=hF2;subst hv2;have HE:Hid (mQ (vK kind what x (⟨tt,ta⟩,e)).does.fd (vK kind what x (⟨tt,ta⟩,e)).jy (w2.setCell (Ad b 7) (.iface T2 (Pt b2 0))) lo hi w.heap.size (w2.setCell (Ad b 7) (.iface T2 (Pt b2 0))).heap.size (.iface 413 (Pt b 0))/\Fk w (w2.setCell (Ad b 7) (.iface T2 (Pt b2 0))) lo hi):=by
  have hb3:=aK w2 _ 7 _ _ (.iface T2 (Pt b2 0)) hb2;have g3:=mX w2 b 7 (.iface T2 (Pt b2 0));have s3:(w2.setCell (Ad b 7) (.iface T2 (Pt b2 0))).heap.size=w2.heap.size:=dI ..;have rc:=uf (x:=x) ec;obtain⟨fs,e1,e2,e3,e4,e5,e6,e7⟩:=hF;refine⟨⟨_,_,b,qR,0,0,rfl,by simp[lM],ji ⟨h1,h2⟩,adb (x:={x with jF:=fs}) e2 h.jy kind a (jS [x.jy,x.round e.jy]) what ⟨tt,ta⟩ q3 (rC h.jy rc) (λhk=>?_) {give:=(vK kind what x (⟨tt,ta⟩,e)).does.fd.give} ?_,rfl,aV _,λh=>jq h (by show¬(0:Int)=3;decide),λw' ha=>⟨?_,Il rfl (by unfold yJ;decide)⟩⟩,((hK.wide (aj _) (by omega)).trans (hK2.wide (by omega) (by omega))).trans (Fk.set h1 h2)⟩
  .have hp:=zJ h.jy.1 h.jy.2 rc.1 rc.2 hk;have hg:=NH (x:=x) ec.1 (by have:=h.jy;omega);exact⟨Uc hN h (by have:=h.jy;omega) e2 e3 e4,by have:=h.jy;omega,by show 2+x.jy+_<=_;omega⟩
  .exact am4 e1 q4 kind what ⟨tt,ta⟩
  .have hag:∀j,j≠b->(lo<=j/\j<hi)\/(w.heap.size<=j/\j<w2.heap.size)->w'.heap[j]? =w2.heap[j]? :=λj hj hk=>(ha j (by omega)).trans (qU j hj);refine⟨b,_,rfl,h1,by omega,⟨_,_,rfl,?_,?_⟩,(ha b (ji ⟨h1,h2⟩)).trans hb3⟩
   .refine(EL λb hb a=>(e2 b hb).ok.law a).wide _ _ _ _ _ _ (e7 w' λj hj=>?_) (aj _) (by omega);exact(hag j (by omega) (by omega)).trans (hK2.keep j (by omega) (by omega))
   .exact(q3.ok.law _).wide _ _ _ _ _ _ (q6 w' λj hj=>hag j (by omega) (by omega)).1 (by omega) (by omega)
 clear hF hK hb1 hb2 hK2 q1 q2 q3 q4 q5 q6 H2 HS;go_wp2_with fail;go_ret;exact⟨_,rfl,HE.out⟩
theorem ajE(N:Nat)(hN:N<=100000):Ci N nN nN where
 jy:=λ_ h=>h.lW.ok.jy
 number:=anE
 oI:=λa b=>WX (RD a 2 b)
 none:=WX Gj
 register:=apE
 use:=arL
 widen:=λ_ a h=>arR h a
 isNone:=λa _ h=>alh h a
 minus:=λa sign _ _ h=>adM h a 1 sign
 not:=λa sign _ _ h=>adM h a 2 sign
 two:=λa sign _ _ h k=>arx h k a _ sign
 property:=λa _ t h=>aoL h a _ _ t
 Qw:=λa _ _ h k=>anP h k a
 Lc:=λk what _ h=>ahx hN h k what
 Gf:=λk what _ b h hb=>am5 hN h k what b.1 hb
theorem ajt(s:jm)(hs:s.size<=4000)(d:Nat)(p:Ps):nN (vF s d p).1:=
 OT s (λ_=>nN) (WX Gj) (λ_=>ajE (s.size+1) (by omega)) d p
end
section
variable {w w' w1 w2 w3 wr W:jo}{lo hi m b H S g l k:Nat}{u v fv:jr}{e f:Ex}{a:Int}{T:jv}{c:Co}{x:Sx}
def FC(meth:String)(T:jv)(b:Nat)(w:jo)(r:Bool):Prop:=
 ∃f,(∀w,(method 576 T (Pt b 0) meth).run prog w=.ok (f,Pt b 0) w)/\Enters f/\
  Calls prog f #[Pt b 0] w λen w'=>en=.returned (.bool r)/\w'=w
def GK(fs:IQ)(k:Int)(w:jo)(lo m H hi:Nat)(T:jv)(b:Nat):Prop:=
 ∃s:jK,pV s/\s.does={lay:=fs.lay,fs:=fs}/\s.jy=k/\
  ∀w',o8 w w' lo m H hi->s.here w' lo hi (.iface T (Pt b 0))/\FC "helm/lang.idle" T b w' fs.idle/\FC "helm/lang.ends" T b w' fs.ends
theorem GK.later{fs:IQ}{k:Int}(h:GK fs k w lo m H hi T b)(ha:o8 w w' lo m H hi):GK fs k w' lo m H hi T b:=by
 obtain⟨s,h1,h2,h3,h4⟩:=h;exact⟨s,h1,h2,h3,λw2 hw=>h4 w2 (ha.trans hw)⟩
structure Cj(s:jK):Prop where
 wE:pV s
 fold:∀w lo hi T b,s.here w lo hi (.iface T (Pt b 0))->hi<=w.heap.size->s.jy<=1000000->
  ∃f,(∀w,(method 576 T (Pt b 0) "helm/lang.fold").run prog w=.ok (f,Pt b 0) w)/\Enters f/\
   Calls prog f #[Pt b 0] w λen w'=>en=.returned (.tuple #[])/\GK s.does.fs s.jy w' lo hi w.heap.size w'.heap.size T b/\Fk w w' lo hi
theorem aoB(b:Nat)(w:jo):Calls prog 309 #[Pt b 0] w λen w'=>en=.returned (.bool false)/\w'=w:=by
 go_enter func309,ntmps309;go_wp2_with fail;go_ret;exact⟨rfl,rfl⟩
theorem aoA(b:Nat)(w:jo):Calls prog 307 #[Pt b 0] w λen w'=>en=.returned (.bool false)/\w'=w:=by
 go_enter func307,ntmps307;go_wp2_with fail;go_ret;exact⟨rfl,rfl⟩
theorem apO(b:Nat)(w:jo):Calls prog 330 #[Pt b 0] w λen w'=>en=.returned (.bool true)/\w'=w:=by
 go_enter func330,ntmps330;go_wp2_with fail;go_ret;exact⟨rfl,rfl⟩
def Fq(T:jv):Prop:=T∈[331,321,327,333,336]
theorem V6(h:Fq T)(b:Nat)(w:jo):FC "helm/lang.idle" T b w false:=by
 refine⟨309,λw=>?_,λargs w=>by kernel_rfl,aoB b w⟩;simp only[Fq,dh,dU,or_false]at h;rcases h with rfl|rfl|rfl|rfl|rfl<;>kernel_rfl
def Fv(T:jv):Prop:=T∈[331,321,327,333,349]
theorem V5(h:Fv T)(b:Nat)(w:jo):FC "helm/lang.ends" T b w false:=by
 refine⟨307,λw=>?_,λargs w=>by kernel_rfl,aoA b w⟩;simp only[Fv,dh,dU,or_false]at h;rcases h with rfl|rfl|rfl|rfl|rfl<;>kernel_rfl
theorem pV.does{s:jK}(h:pV s){ds:Ds}(hd:ds.lay=s.does.lay):pV {s with does:=ds}:=
 h.of ⟨h.ok.law,h.ok.head,h.ok.jy⟩ (λ_ _ _ _ h=>h) rfl hd
theorem U6{T' T1:jv}{k kk:Int}{mk:List jr->List jr}{fs:IQ}{g:nY}{W:jo}(hp:Fq T')(hp2:Fv T')(hi0:fs.idle=false)(he0:fs.ends=false)(h1:lo<=b)(h2:b<hi)(hH:hi<=H)(hk:mQ g kk w1 lo b H w1.heap.size v)(hs:w1.heap.size<=W.heap.size)
 (hag:∀j,j<w1.heap.size->j≠b->W.heap[j]? =w1.heap[j]?)(hb:W.heap[b]? =some (.cells (Im a::Im k::mk [v]).toArray T1))
 (hg:∀e':Ex,kE e'->e'.does.give=g.give->e'.jy<=kk->∃ds:Ds,pV (wG T' T1 a k (nX (e'.here e'.at')) mk ds)/\ds.lay=fs.lay)(hb1:b<w1.heap.size):GK fs k W lo hi H W.heap.size T' b:=by
 obtain⟨e',T2,b2,_,_,_,rfl,q1,q2,q3,q4,q5,_,q6⟩:=hk;obtain⟨ds,d1,d2⟩:=hg e' q3 q4 q5;refine⟨_,d1.does (ds:={lay:=fs.lay,fs:=fs}) d2.symm,rfl,rfl,λw' ha=>⟨?_,by rw[hi0];exact V6 hp b w',by rw[he0];exact V5 hp2 b w'⟩⟩;have hw:o8 w1 w' lo b H w1.heap.size:=λj hj=>(ha j (by omega)).trans (hag j (by omega) (by omega));exact⟨b,_,rfl,h1,by omega,⟨_,rfl,(q3.ok.law _).wide _ _ _ _ _ _ (q6 w' hw).1 (aj _) hs⟩,(ha b (ji ⟨h1,h2⟩)).trans hb⟩
theorem afK{d d':Dn}(h:d.give=d'.give)(slot:Int):c.store slot d=c.store slot d':=by unfold Co.store;rw[h]
theorem aqZ(he:nN e)(a0 i:Int):Cj (yE a0 i e):=by
 have ec:=he.lW.ok.jy;refine⟨afQ he.lW a0 i,?_⟩;rintro w lo hi T b ⟨b',us,hv,h1,h2,⟨u,rfl,hu⟩,hb⟩ hH hk;cases hv;obtain⟨T1,b1,rfl,hT1,l1,l2,_⟩:=he.lW.ok.head _ _ _ _ _ hu;obtain⟨f1,m1,kK,H1⟩:=he.fold _ _ _ _ _ _ hu (by omega);have kK:∀args w,(callFunc f1 args).run prog w=.ok (.enter f1 args) w:=kK;have c3:w.cell? (Ad b 3)=some (.iface T1 (Pt b1 0)):=jH hb;have H1:=jB H1;have HB:=jB hb;have hbw:b<w.heap.size:=by omega
 refine⟨318,λw=>by kernel_rfl,λargs w=>by kernel_rfl,?_⟩;clear hu hb;go_enter func318,ntmps318;go_wp2_with fail;refine H1.out.mono ?_;rintro en w1 ⟨v',rfl,hF,hK⟩;have hb1:=(hK.keep b hbw (jh (aj _))).trans HB.out;have d3:w1.cell? (Ad b 3)=some (.iface T1 (Pt b1 0)):=jH hb1;have fz:∀j,w1.frozen? (Ad b j)=false:=λj=>oh hb1;obtain⟨T2,b2,hv2⟩:∃T2 b2,v'=.iface T2 (Pt b2 0):=by
  obtain⟨_,T2,b2,_,_,_,e1,_⟩:=hF;exact⟨T2,b2,e1⟩
 subst hv2;have HE:Hid (GK (yE a0 i e).does.fs (yE a0 i e).jy (w1.setCell (Ad b 3) (.iface T2 (Pt b2 0))) lo hi w.heap.size (w1.setCell (Ad b 3) (.iface T2 (Pt b2 0))).heap.size 327 b/\Fk w (w1.setCell (Ad b 3) (.iface T2 (Pt b2 0))) lo hi):=by
  have s1:=hK.size;have g:=mX w1 b 3 (.iface T2 (Pt b2 0));refine⟨?_,(hK.wide (aj _) (by omega)).trans (Fk.set h1 h2)⟩;refine U6 (k:=jS [e.jy]) (mk:=λus=>Im i::us) (by simp[Fq]) (by simp[Fv]) rfl rfl h1 h2 hH hF g.size (λj _ hj=>qU j hj) (aK _ _ _ _ _ _ hb1) ?_ (by omega);intro e' g1 g2 g3;refine⟨_,afP g1 a0 i ⟨xK (by simp;exact ec),(pW ec).2⟩ λhk=>by rw[yA ec.1 ec.2 hk];omega,?_⟩;funext c
  exact afK g2 i
 clear hF hK hb1 H1;go_wp2_with fail;go_end0;exact⟨rfl,HE.out⟩
theorem aqm(he:nN e)(t:Wd):Cj (sQ t e):=by
 obtain⟨tt,ta⟩:=t;have ec:=he.lW.ok.jy;refine⟨afn he.lW _,?_⟩;rintro w lo hi T b ⟨b',us,hv,h1,h2,⟨u,rfl,hu⟩,hb⟩ hH hk;cases hv;obtain⟨T1,b1,rfl,hT1,l1,l2,_⟩:=he.lW.ok.head _ _ _ _ _ hu;obtain⟨f1,m1,kK,H1⟩:=he.fold _ _ _ _ _ _ hu (by omega);have kK:∀args w,(callFunc f1 args).run prog w=.ok (.enter f1 args) w:=kK;have c3:w.cell? (Ad b 4)=some (.iface T1 (Pt b1 0)):=jH hb;have H1:=jB H1;have HB:=jB hb;have hbw:b<w.heap.size:=by omega
 refine⟨308,λw=>by kernel_rfl,λargs w=>by kernel_rfl,?_⟩;clear hu hb;go_enter func308,ntmps308;go_wp2_with fail;refine H1.out.mono ?_;rintro en w1 ⟨v',rfl,hF,hK⟩;have hb1:=(hK.keep b hbw (jh (aj _))).trans HB.out;have d3:w1.cell? (Ad b 4)=some (.iface T1 (Pt b1 0)):=jH hb1;have fz:∀j,w1.frozen? (Ad b j)=false:=λj=>oh hb1;obtain⟨T2,b2,hv2⟩:∃T2 b2,v'=.iface T2 (Pt b2 0):=by
  obtain⟨_,T2,b2,_,_,_,e1,_⟩:=hF;exact⟨T2,b2,e1⟩
 subst hv2;have HE:Hid (GK (sQ ⟨tt,ta⟩ e).does.fs (sQ ⟨tt,ta⟩ e).jy (w1.setCell (Ad b 4) (.iface T2 (Pt b2 0))) lo hi w.heap.size (w1.setCell (Ad b 4) (.iface T2 (Pt b2 0))).heap.size 321 b/\Fk w (w1.setCell (Ad b 4) (.iface T2 (Pt b2 0))) lo hi):=by
  have s1:=hK.size;have g:=mX w1 b 4 (.iface T2 (Pt b2 0));refine⟨?_,(hK.wide (aj _) (by omega)).trans (Fk.set h1 h2)⟩;refine U6 (k:=jS [e.jy]) (mk:=λus=>.string tt::Im ta::us) (by simp[Fq]) (by simp[Fv]) rfl rfl h1 h2 hH hF g.size (λj _ hj=>qU j hj) (aK _ _ _ _ _ _ hb1) ?_ (by omega);intro e' g1 g2 g3;refine⟨_,afm g1 ⟨tt,ta⟩ ta ⟨xK (by simp;exact ec),(pW ec).2⟩ λhk=>by rw[yA ec.1 ec.2 hk];omega,?_⟩;funext c
  exact afK g2 _
 clear hF hK hb1 H1;go_wp2_with fail;go_end0;exact⟨rfl,HE.out⟩
theorem amR(he:nN e)(a0:Int)(t:Wd):Cj (uD a0 t e):=by
 obtain⟨tt,ta⟩:=t;have ec:=he.lW.ok.jy;refine⟨ac5 he.lW a0 _,?_⟩;rintro w lo hi T b ⟨b',us,hv,h1,h2,⟨u,rfl,hu⟩,hb⟩ hH hk;cases hv;obtain⟨T1,b1,rfl,hT1,l1,l2,_⟩:=he.lW.ok.head _ _ _ _ _ hu;obtain⟨f1,m1,kK,H1⟩:=he.fold _ _ _ _ _ _ hu (by omega);have kK:∀args w,(callFunc f1 args).run prog w=.ok (.enter f1 args) w:=kK;have c3:w.cell? (Ad b 4)=some (.iface T1 (Pt b1 0)):=jH hb;have H1:=jB H1;have HB:=jB hb;have hbw:b<w.heap.size:=by omega
 refine⟨321,λw=>by kernel_rfl,λargs w=>by kernel_rfl,?_⟩;clear hu hb;go_enter func321,ntmps321;go_wp2_with fail;refine H1.out.mono ?_;rintro en w1 ⟨v',rfl,hF,hK⟩;have hb1:=(hK.keep b hbw (jh (aj _))).trans HB.out;have d3:w1.cell? (Ad b 4)=some (.iface T1 (Pt b1 0)):=jH hb1;have fz:∀j,w1.frozen? (Ad b j)=false:=λj=>oh hb1;obtain⟨T2,b2,hv2⟩:∃T2 b2,v'=.iface T2 (Pt b2 0):=by
  obtain⟨_,T2,b2,_,_,_,e1,_⟩:=hF;exact⟨T2,b2,e1⟩
 subst hv2;have HE:Hid (GK (uD a0 ⟨tt,ta⟩ e).does.fs (uD a0 ⟨tt,ta⟩ e).jy (w1.setCell (Ad b 4) (.iface T2 (Pt b2 0))) lo hi w.heap.size (w1.setCell (Ad b 4) (.iface T2 (Pt b2 0))).heap.size 331 b/\Fk w (w1.setCell (Ad b 4) (.iface T2 (Pt b2 0))) lo hi):=by
  have s1:=hK.size;have g:=mX w1 b 4 (.iface T2 (Pt b2 0));refine⟨?_,(hK.wide (aj _) (by omega)).trans (Fk.set h1 h2)⟩;refine U6 (k:=jS [e.jy]) (mk:=λus=>.string tt::Im ta::us) (by simp[Fq]) (by simp[Fv]) rfl rfl h1 h2 hH hF g.size (λj _ hj=>qU j hj) (aK _ _ _ _ _ _ hb1) ?_ (by omega);intro e' g1 g2 g3;refine⟨_,ac4 g1 a0 ⟨tt,ta⟩ ⟨xK (by simp;exact ec),(pW ec).2⟩ λhk=>by rw[yA ec.1 ec.2 hk];omega,?_⟩;funext c
  simp only[Qn,uD,yw];rw[g2]
 clear hF hK hb1 H1;go_wp2_with fail;go_end0;exact⟨rfl,HE.out⟩
theorem apL(a0:Int):Cj (yC a0):=by
 refine⟨Wu a0,?_⟩;rintro w lo hi T b ⟨b',us,hv,h1,h2,h3,hb⟩ hH hk;cases hv;refine⟨331,λw=>by kernel_rfl,λargs w=>by kernel_rfl,?_⟩;have HE:Hid (GK (yC a0).does.fs (yC a0).jy w lo hi w.heap.size w.heap.size 336 b/\Fk w w lo hi):=by
  refine⟨⟨_,(Wu a0).does (ds:={lay:=(yC a0).does.fs.lay,fs:=(yC a0).does.fs}) rfl,rfl,rfl,λw' ha=>⟨?_,V6 (by simp[Fq]) b w',330,λw=>by kernel_rfl,λargs w=>by kernel_rfl,apO b w'⟩⟩,Fk.refl _ _ _⟩;exact⟨b,us,rfl,h1,by omega,h3,(ha b (ji ⟨h1,h2⟩)).trans hb⟩
 clear hb h3;go_enter func331,ntmps331;go_wp2_with fail;go_end0;exact⟨rfl,HE.out⟩
theorem aoU(he:nN e)(hf:nN f)(a0:Int):Cj (vU a0 e f):=by
 have ec:=he.lW.ok.jy;have fc:=hf.lW.ok.jy;refine⟨aex he.lW hf.lW a0,?_⟩;rintro w lo hi T b ⟨b',us,hv,h1,h2,⟨m,u,v,rfl,m1,m2,hu,hv2⟩,hb⟩ hH hk;cases hv;obtain⟨T1,b1,rfl,hT1,l1,l2,_⟩:=he.lW.ok.head _ _ _ _ _ hu;obtain⟨T2,b2,rfl,hT2,l3,l4,_⟩:=hf.lW.ok.head _ _ _ _ _ hv2;obtain⟨f1,Gh,kK,H1⟩:=he.fold _ _ _ _ _ _ hu (by omega);have kK:∀args w,(callFunc f1 args).run prog w=.ok (.enter f1 args) w:=kK;have c2:w.cell? (Ad b 2)=some (.iface T1 (Pt b1 0)):=jH hb;have H1:=jB H1;have HB:=jB hb;have HV:=jB hv2;have hbw:b<w.heap.size:=by omega
 refine⟨327,λw=>by kernel_rfl,λargs w=>by kernel_rfl,?_⟩;clear hu hb hv2;go_enter func327,ntmps327;go_wp2_with fail;refine H1.out.mono ?_;rintro en w1 ⟨v',rfl,hF,hK⟩;have s1:=hK.size;have hb1:=(hK.keep b hbw (jh (by omega))).trans HB.out;have d2:w1.cell? (Ad b 2)=some (.iface T1 (Pt b1 0)):=jH hb1;have fz:∀j,w1.frozen? (Ad b j)=false:=λj=>oh hb1;obtain⟨e',T3,b3,_,_,_,hv3,q1,q2,q3,q4,q5,_,q6⟩:=hF;subst hv3;have hb2:=aK w1 _ 2 _ _ (.iface T3 (Pt b3 0)) hb1;have d3:(w1.setCell (Ad b 2) (.iface T3 (Pt b3 0))).cell? (Ad b 3)=some (.iface T2 (Pt b2 0)):=jH hb2;have s2:(w1.setCell (Ad b 2) (.iface T3 (Pt b3 0))).heap.size=w1.heap.size:=dI ..;obtain⟨f2,VA,qg,H2⟩:=hf.fold _ (w1.setCell (Ad b 2) (.iface T3 (Pt b3 0))) m b T2 b2 ((hf.lW.ok.law _).loc _ _ _ _ _ HV.out λj j1 j2=>(qU j (by omega)).trans (hK.keep j (by omega) (jh j1))) (by omega);have qg:∀args w,(callFunc f2 args).run prog w=.ok (.enter f2 args) w:=qg;have H2:=jB H2;have hk1:Fk w (w1.setCell (Ad b 2) (.iface T3 (Pt b3 0))) lo hi:=(hK.wide (aj _) (by omega)).trans (Fk.set h1 h2);have hx1:∀w',o8 (w1.setCell (Ad b 2) (.iface T3 (Pt b3 0))) w' lo m w.heap.size w1.heap.size->e'.here e'.at' w' lo w1.heap.size (.iface T3 (Pt b3 0)):=λw' hw=>(q6 w' λj hj=>(hw j hj).trans (qU j (by omega))).1;have HS:=jB (jg hk1 (jg hb2 (jg hx1 (jg q3 (jg q4 q5)))));clear hK hb1 hb2 hk1 hx1 q1 q2 q3 q4 q5 q6 H1 HB HV;go_wp2_with fail;generalize hW1:w1.setCell (Ad b 2) (.iface T3 (Pt b3 0))=W1 at *;clear hW1 d2 fz;refine H2.out.mono ?_
 rintro en w2 ⟨v'',rfl,hF2,hK2⟩;obtain⟨hk1,hb1,hx1,g1,g2,g3⟩:=HS.out;have s3:=hK2.size;have hb2:=(hK2.keep b (by omega) (jh (aj _))).trans hb1;have e3:w2.cell? (Ad b 3)=some (.iface T2 (Pt b2 0)):=jH hb2;have fz:∀j,w2.frozen? (Ad b j)=false:=λj=>oh hb2;obtain⟨f',T4,b4,_,_,_,hv4,q1,q2,q3,q4,q5,_,q6⟩:=hF2;subst hv4;have HE:Hid (GK (vU a0 e f).does.fs (vU a0 e f).jy (w2.setCell (Ad b 3) (.iface T4 (Pt b4 0))) lo hi w.heap.size (w2.setCell (Ad b 3) (.iface T4 (Pt b4 0))).heap.size 333 b/\Fk w (w2.setCell (Ad b 3) (.iface T4 (Pt b4 0))) lo hi):=by
  have hb3:=aK w2 _ 3 _ _ (.iface T4 (Pt b4 0)) hb2;have s4:(w2.setCell (Ad b 3) (.iface T4 (Pt b4 0))).heap.size=w2.heap.size:=dI ..;refine⟨⟨_,(aew g1 q3 a0 (k:=jS [e.jy,f.jy]) ⟨xK (by simp;exact⟨ec,fc⟩),(rC ec fc).2⟩ λhk=>by rw[zJ ec.1 ec.2 fc.1 fc.2 hk];omega).does (ds:={lay:=(vU a0 e f).does.fs.lay,fs:=(vU a0 e f).does.fs}) ?_,rfl,rfl,λw' ha=>⟨?_,V6 (by simp[Fq]) b w',V5 (by simp[Fv]) b w'⟩⟩,(hk1.trans (hK2.wide (by omega) (by omega))).trans (Fk.set h1 h2)⟩
  .funext c
   simp only[Wh,vU,yw,wG];rw[g2,q4]
  .have hag:∀j,j≠b->(lo<=j/\j<hi)\/(w.heap.size<=j/\j<w2.heap.size)->w'.heap[j]? =w2.heap[j]? :=λj hj hk=>(ha j (by omega)).trans (qU j hj);refine⟨b,_,rfl,h1,by omega,⟨_,_,rfl,?_,?_⟩,(ha b (ji ⟨h1,h2⟩)).trans hb3⟩
   .refine(g1.ok.law _).wide _ _ _ _ _ _ (hx1 w' λj hj=>?_) (aj _) (by omega);exact(hag j (by omega) (by omega)).trans (hK2.keep j (by omega) (by omega))
   .exact(q3.ok.law _).wide _ _ _ _ _ _ (q6 w' λj hj=>hag j (by omega) (by omega)).1 (by omega) (by omega)
 clear hk1 hb1 hx1 g1 g2 g3 hb2 hK2 q1 q2 q3 q4 q5 q6 H2 HS;go_wp2_with fail;go_end0;exact⟨rfl,HE.out⟩
end
section
variable {w w' w1 w2 w3 wr W:jo}{lo hi m b H g k:Nat}{u v kv:jr}{T:jv}{c:Co}{l l':List jK}{oJ cells:List jr}{s:jK}
theorem MN(h:l.map (·.does)=l'.map (·.does)):kU l=kU l':=by
 funext c
 have e:∀(l:List jK)(c:Co),l.foldl (λc s=>s.does.lay c) c=(l.map (·.does)).foldl (λc d=>d.lay c) c:=λl c=>by rw[List.foldl_map]
 unfold kU;rw[e,e,h]
theorem MR(h:l.map (·.does)=l'.map (·.does)):l.length=l'.length:=by
 have:=congrArg List.length h;simpa using this
theorem acD(h:l.map (·.does)=l'.map (·.does)):uy l=uy l':=by
 have e:∀l:List jK,uy l=((l.map (·.does)).getLast?.map (·.fs.ends)).getD false:=λl=>by
  unfold uy;rw[List.getLast?_map];cases l.getLast?<;>rfl
 rw[e,e,h]
theorem afY:∀(l:List jK)(a:Int),(∀s∈l,1<=s.jy)->0<=a->a+lQ l<=1000000->l.foldl (λa e=>lg [a,e.jy]) a=a+lQ l
 |[],a,_,_,_=>by simp[lQ]
 |s::l,a,h,ha,hk=>by
  have h1:∀x∈l,1<=x.jy:=λx hx=>h x (aI _ hx);have h2:=h s (aW ..);have h4:=Bv h1;have e2:lQ (s::l)=s.jy+lQ l:=by simp[lQ]
  rw[e2]at hk⊢;rw[bP];have h5:lg [a,s.jy]=a+s.jy:=by
   unfold lg;simp only[bP,eF];omega
  rw[h5,afY l _ h1 (by omega) (by omega)];omega
def uM(l:List jK)(w:jo)(lo m H hi:Nat)(v:jr):Prop:=
 ∃l':List jK,sZ l'/\l'.map (·.does)=(kS l).map (·.does)/\kN l'<=kN l/\(∃a c,v=.slice a l'.length c)/\
  ∀w',o8 w w' lo m H hi->wF l' w' lo hi v/\Calls prog 339 #[v] w' λen w2=>en=.returned (.bool (uy (kS l)))/\w2=w'
theorem uM.later(h:uM l w lo m H hi v)(ha:o8 w w' lo m H hi):uM l w' lo m H hi v:=by
 obtain⟨l',h1,h2,h3,h5,h4⟩:=h;exact⟨l',h1,h2,h3,h5,λw2 hw=>h4 w2 (ha.trans hw)⟩
theorem uM.wide{lo' m' H' hi':Nat}(h:uM l w lo m H hi v)(h1:lo'<=lo)(h2:m<=m')(h3:H'<=H)(h4:hi<=hi'):uM l w lo' m' H' hi' v:=by
 obtain⟨l',e1,e2,e3,e5,e4⟩:=h;refine⟨l',e1,e2,e3,e5,λw2 hw=>?_⟩;obtain⟨q1,q2⟩:=e4 w2 (hw.less h1 h2 h3 h4);exact⟨e1.zG.wide _ _ _ _ _ _ q1 h1 h4,q2⟩
structure AU(l:List jK):Prop where
 wE:sZ l
 fold:∀w lo hi v,mO l w lo hi v->hi<=w.heap.size->kN l<=1000000->
  Calls prog 45 #[v] w λen w'=>∃v',en=.returned v'/\uM l w' lo hi w.heap.size w'.heap.size v'/\Fk w w' lo hi
theorem P7(a:Option Addr)(cap:Nat)(w:jo):Calls prog 339 #[.slice a 0 cap] w λen w2=>en=.returned (.bool false)/\w2=w:=by
 go_enter func339,ntmps339;go_wp2_with fail;go_ret;exact⟨rfl,rfl⟩
theorem alY{g n cap:Nat}{r:Bool}(hn:n<=1000000)(hc:w.cell? (Ad g n)=some (.iface T (Pt b 0)))(h:FC "helm/lang.ends" T b w r):Calls prog 339 #[.slice (some (Ad g 0)) (n+1) cap] w λen w2=>en=.returned (.bool r)/\w2=w:=by
 obtain⟨f1,Gh,kK,H1⟩:=h;have kK:∀args w,(callFunc f1 args).run prog w=.ok (.enter f1 args) w:=kK;have H1:=jB H1;have d2:decide ((0:Int)<(n:Int)+1)=true:=dR (by omega);have d3:wrap64 ((n:Int)+1-1)=n:=by unfold wrap64;omega
 go_enter func339,ntmps339;go_wp2_with fail;refine H1.out.mono ?_;rintro en w1 ⟨rfl,rfl⟩;go_wp2_with fail;go_ret;exact⟨rfl,rfl⟩
structure zT(lo m H:Nat)(wr:jo)(kv:jr)(l':List jK)(cells:List jr):Prop where
 row:wr.ownsRow H 192 1 kv l'.length cells
 each:∀(j:Nat)(s:jK),l'[j]? =some s->∃T b,cells[j]? =some (.iface T (Pt b 0))/\Ba lo m H wr kv.ownBlock λw lo hi=>s.here w lo hi (.iface T (Pt b 0))/\FC "helm/lang.ends" T b w s.does.fs.ends
 all:∀s∈l',pV s
theorem zT.nil(lo m H:Nat)(w:jo):zT lo m H w (Nl) [] []:=⟨fK _ _ _ _,λj b hb=>by simp at hb,λb hb=>by simp at hb⟩
theorem zT.oV{m':Nat}(h:zT lo m H w kv l' cells)(hm:m<=m')(hs:w.heap.size<=w'.heap.size)(h1:∀j,lo<=j->j<m->w'.heap[j]? =w.heap[j]?)(h2:∀j,H<=j->j<w.heap.size->w'.heap[j]? =w.heap[j]?):zT lo m' H w' kv l' cells:=by
 refine⟨aed h.row λg hg=>h2 g (h.row.lt g hg).1 (h.row.lt g hg).2,λj b hb=>?_,h.all⟩;obtain⟨T,b,e1,e4⟩:=h.each j b hb;exact⟨T,b,e1,e4.later hm hs h1 (λk k1 k2 _=>h2 k k1 k2) (ji rfl)⟩
theorem zT.add{gg cap Hn:Nat}(h:zT lo m H w kv l' cells)(hg:w.grownBy w' kv.ownBlock)(hH:H<=w.heap.size)(hmH:m<=H)(hown:w'.ownsRow H 192 1 (.slice (some (Ad gg 0)) (l'.length+1) cap) (l'.length+1) (cells++[.iface T (Pt b 0)]))(hat:kv.ownBlock=some gg\/gg=Hn)(hn:w.heap.size<=Hn)
 (he:pV s)(hh:Ba lo m H w kv.ownBlock λw lo hi=>s.here w lo hi (.iface T (Pt b 0))/\FC "helm/lang.ends" T b w s.does.fs.ends):zT lo m H w' (.slice (some (Ad gg 0)) (l'.length+1) cap) (l'++[s]) (cells++[.iface T (Pt b 0)]):=by
 have hcl:cells.length=l'.length:=by have:=h.row.1;omega
 have L9:∀{Q:jo->Nat->Nat->Prop},Ba lo m H w kv.ownBlock Q->Ba lo m H w' (Value.slice (some (Ad gg 0)) (l'.length+1) cap).ownBlock Q:=λhq=>by
  refine hq.later (aj _) hg.size (λk k1 k2=>hg.block k (by omega) λe=>?_) (λk k1 k2 k3=>hg.block k k2 k3) ?_
  .have:=(h.row.lt k e.symm).1;omega
  .rcases hat with h1|h1
   .exact ji (by rw[h1];rfl)
   .exact jh ⟨gg,rfl,by omega⟩
 refine⟨by rw[aA];exact hown,λj d hd=>?_,λd hd=>?_⟩
 .rcases dG j l'.length with hj|hj
  .rw[aT hj]at hd;obtain⟨T',b',e1,e4⟩:=h.each j d hd;exact⟨T',b',by rw[aT (by omega)];exact e1,L9 e4⟩
  .rw[bW hj]at hd;have hj0:j-l'.length=0:=by
    rcases gJ (j-l'.length)with h0|h0
    .exact h0
    .rw[bV (by simp;omega)]at hd;cases hd
   rw[hj0]at hd;simp only[dw,bJ]at hd;subst hd;refine⟨T,b,?_,L9 hh⟩;rw[bW (by omega),show j-cells.length=0 by omega];rfl
 .rcases List.mem_append.1 hd with hd|hd
  .exact h.all d hd
  .rw[cO.1 hd];exact he
theorem zT.done(h:zT lo m H wr kv l' cells)(hs:∀s∈l,1<=s.jy)(hm:m<=hi)(hlo:lo<=H)(hl:l'.map (·.does)=(kS l).map (·.does))(hc:lQ l'<=lQ l)(hk:kN l<=1000000)(hH:H<=wr.heap.size):uM l wr lo hi H wr.heap.size kv:=by
 have h1:kN l=lQ l:=Gu hs hk;have h2:kN l'=lQ l':=by
  have:=afY l' 0 (λs hs=>(h.all s hs).pos) (aV 0) (by omega);unfold kN;omega
 obtain⟨ka,kc,hkv⟩:=VY h.row;refine⟨l',Ib h.all,hl,by omega,⟨ka,kc,hkv⟩,λw' ha=>?_⟩;cases hka:ka with
 |none=>
  subst hkv hka;rcases h.row.2 with⟨e1,e2⟩|⟨_,_,_,e1,_⟩
  .have e3:=dW e2;refine⟨ji ⟨e3,e1⟩,?_⟩;rw[e1,<-acD hl,e3];exact P7 none 0 w'
  .cases e1
 |some ad=>
  subst hkv hka;have hrow:=h.row;obtain⟨gb,hgb⟩:∃gb,ad=(Ad gb 0):=by
   rcases hrow.2 with⟨h1,_⟩|⟨g',_,_,h1,_⟩
   .cases h1
   .cases h1;exact⟨g',rfl⟩
  subst hgb;obtain⟨cur,c1,c2,c3⟩:=aeb hrow;have hlt:=(hrow.lt gb rfl).2;have hb2:=(ha gb (jh ⟨c1,hlt⟩)).trans c2;refine⟨jh ⟨gb,kc,cur,rfl,by omega,hlt,hb2,λk d hd=>?_⟩,?_⟩
  .obtain⟨T,b,e1,l1,m1,H1,y1,k1,k2,k3,k4,k5,k6⟩:=h.each k d hd;refine⟨_,c3 _ _ e1,?_⟩;exact(h.all d (bT hd)).ok.law.wide _ _ _ _ _ _ (k6 w' λj hj=>ha j (by omega)).1 k1 k4
  .rw[<-acD hl];cases hn:l'.length with
   |zero=>
    rw[dW hn];exact P7 _ _ w'
   |succ n=>
    have hlast:l'[n]? =some (l'[n]'(by omega)):=bU (by omega);obtain⟨T,b,e1,l1,m1,H1,y1,k1,k2,k3,k4,k5,k6⟩:=h.each n _ hlast;have he:uy l'=(l'[n]'(by omega)).does.fs.ends:=by
     unfold uy;rw[List.getLast?_eq_getElem?,show l'.length-1=n by omega,hlast]
    rw[he];have hln:=Bv λs hs=>(h.all s hs).pos;exact alY (by omega) ((jH hb2).trans (c3 _ _ e1)) (k6 w' λj hj=>ha j (by omega)).2
structure GZ(l:List jK)(g lo hi:Nat)(oJ:List jr)(w wr:jo)(k m:Nat):Prop where
 rest:sS g (l.drop k) wr m hi (oJ.drop k)
 row:wr.heap[g]? =w.heap[g]?
 fk:Fk w wr lo hi
 m1:lo<=m
 m2:m<=hi
theorem GZ.nX(h:GZ l g lo hi oJ w wr k m)(hl:∀s∈l,Lawful s.here)(hk:l[k]? =some s)(hg:g<w.heap.size)(hH:hi<=w.heap.size):
 ∃q m' u,oJ[k]? =some u/\m<=q/\q<=m'/\m'<=hi/\s.here wr q m' u/\∀W3,Fk wr W3 q m'->GZ l g lo hi oJ w W3 (k+1) m':=by
 have hlt:k<l.length:=by
  rcases dG k l.length with h1|h1
  .exact h1
  .rw[bV h1]at hk;cases hk
 have hbb:l[k]=s:=by
  rw[bU hlt]at hk;exact fZ hk
 have hr:=h.rest;rw[dA hlt,hbb]at hr;obtain⟨q,m',u,us',e0,e1,e2,e3,e4,e5,e6⟩:=hr;have hs:=h.fk.size;have hu:oJ[k]? =some u:=by
  have:=congrArg (λl=>l[0]?) e0;simpa using this
 have hus:oJ.drop (k+1)=us':=by
  have:=congrArg List.tail e0;simpa using this
 have hm1:=h.m1;refine⟨q,m',u,hu,e1,e2,e3,e5,λW3 hf=>⟨?_,(hf.keep g (by omega) (by omega)).trans h.row,?_,by omega,e3⟩⟩
 .rw[hus];exact J3 (λc hc=>hl c (gU hc)) e6 λj j1 j2=>hf.keep j (by omega) (jh j1)
 .exact h.fk.trans (hf.wide (by omega) e3)
theorem GZ.grow{row:Option Nat}(h:GZ l g lo hi oJ w wr k m)(hl:∀s∈l,Lawful s.here)(hg:wr.grownBy W row)(hrow:∀j,row=some j->w.heap.size<=j)(hH:hi<=w.heap.size)(hgh:g<w.heap.size):GZ l g lo hi oJ w W k m:=by
 have hs:=h.fk.size;have hk:∀j,j<w.heap.size->W.heap[j]? =wr.heap[j]? :=λj hj=>hg.block j (by omega) λe=>by have:=hrow j e.symm;omega
 have hm1:=h.m1;have hm2:=h.m2;exact⟨J3 (λc hc=>hl c (gU hc)) h.rest λj j1 j2=>hk j (by omega),(hk g (by omega)).trans h.row,⟨hg.os.trans h.fk.os,hg.tape.trans h.fk.tape,hg.output.trans h.fk.output,by have:=hg.size;omega,λj j1 j2=>(hk j j1).trans (h.fk.keep j j1 j2)⟩,hm1,hm2⟩
theorem ak8:(prog.info? 192).map (λi=>(i.zero,i.size,i.bytes))=some (some .nilIface,1,16):=by kernel_rfl
theorem anu(w:jo)(lo m H hi:Nat):uM [] w lo m H hi (Nl):=
 ⟨[],Ib (by simp),rfl,aV _,⟨none,0,rfl⟩,λw' _=>⟨ji ⟨rfl,rfl⟩,P7 none 0 w'⟩⟩
theorem ajD(a:Option Addr)(cap:Nat)(w:jo):Calls prog 45 #[.slice a 0 cap] w λen w2=>en=.returned (Nl)/\w2=w:=by
 go_enter func45,ntmps45;go_wp2_with fail;go_loopg [3,8] 1 (λ_ kv i wr=>kv=Nl/\i=Im 0/\wr=w)
 case atStart=>exact⟨rfl,rfl,rfl⟩
 case round=>
  obtain⟨rfl,rfl,rfl⟩:=hrel;go_wp2_with fail;go_ret;exact⟨rfl,rfl⟩
structure Kt(l:List jK)(g lo hi:Nat)(oJ:List jr)(w wr:jo)(k m:Nat)(kv:jr)(l':List jK)(cells:List jr):Prop where
 kept:zT lo m w.heap.size wr kv l' cells
 rest:GZ l g lo hi oJ w wr k m
 does:l'.map (·.does)++(kS (l.drop k)).map (·.does)=(kS l).map (·.does)
 jy:lQ l'+lQ (l.drop k)<=lQ l
 len:l'.length<=k
theorem aaw{k:Nat}(hk:l[k]? =some s):lQ (l.drop k)=s.jy+lQ (l.drop (k+1)):=by
 obtain⟨hi,he⟩:=List.getElem?_eq_some_iff.1 hk;rw[dA hi,he];simp[lQ]
theorem aa2{k:Nat}(hk:l[k]? =some s):kS (l.drop k)=if s.does.fs.idle then kS (l.drop (k+1))else if s.does.fs.ends then [s.uq]else s.uq::kS (l.drop (k+1)):=by
 obtain⟨hi,he⟩:=List.getElem?_eq_some_iff.1 hk;rw[dA hi,he]
 rfl
theorem aax(h:∀s∈l,pV s)(k:Nat):0<=lQ (l.drop k):=by
 have:=Bv (l:=l.drop k) λs hs=>(h s (gU hs)).pos;omega
theorem Qe(h:∀s∈l,Cj s):AU l:=by
 have hls:∀s∈l,pV s:=λs hs=>(h s hs).wE;refine⟨Ib hls,?_⟩;intro w lo hi v hh hH hk;have hl:∀s∈l,Lawful s.here:=λs hs=>(hls s hs).ok.law;have hpos:∀s∈l,1<=s.jy:=λs hs=>(hls s hs).pos;have hcs:lQ l<=1000000:=by rw[<-Gu hpos hk];exact hk
 rcases hh with⟨rfl,rfl⟩|⟨g,cap,oJ,arr,rfl,g1,g2,hst,hg,harr⟩
 .refine(ajD none 0 w).mono ?_;rintro en w' ⟨e1,rfl⟩;exact⟨_,e1,anu _ _ _ _ _,Fk.refl _ _ _⟩
 have hgw:g<w.heap.size:=by omega
 have hlen:l.length<=1000000:=by have:=Bv hpos;omega
 have H0:Hid (Kt l g lo hi oJ w w 0 lo (Nl) [] []):=⟨zT.nil _ _ _ _,⟨hst,rfl,Fk.refl _ _ _,aj _,by omega⟩,by simp,by simp[lQ],aj _⟩;have Fg:=jB (λ(k:Nat)(u:jr)(hu:oJ[k]? =some u)=>(jH hg).trans (harr k u hu));have YT:Hid (∀wr k m kv l' cells,Kt l g lo hi oJ w wr k m kv l' cells->(kS (l.drop k)).map (·.does)=[]->uM l wr lo hi w.heap.size wr.heap.size kv/\Fk w wr lo hi):=λwr k m kv l' cells hI hd=>by
  have h1:=hI.does;rw[hd,aX]at h1;have h2:=hI.jy;have h3:=aax hls k;exact⟨hI.kept.done hpos hI.rest.m2 (by omega) h1 (by omega) hk hI.rest.fk.size,hI.rest.fk⟩
 have HF:=jB h;have HL:=jB hl;have RZ:=jB hls;have HP:=jB (jg hpos (jg hcs (jg hk hH)));clear hst hg harr h hl hls hpos hcs hk;go_enter func45,ntmps45;go_wp2_with fail;go_loopg [3,8] (l.length+1) (λgg kv i wr=>Hid (∃(k m:Nat)(l':List jK)(cells:List jr),k+gg=l.length+1/\k<=l.length/\i=Im k/\Kt l g lo hi oJ w wr k m kv l' cells))
 case atStart=>exact⟨0,lo,[],[],by omega,bD _,rfl,H0.out⟩
 case round=>
  obtain⟨k,m,l',cells,hk1,hk2,rfl,hI⟩:=hrel.out;clear hrel H0;obtain⟨ka,kc,hkv⟩:=VY hI.kept.row;subst hkv;by_cases hlt:k<l.length
  .have d1:decide ((k:Int)<(l.length:Int))=true:=by simp;omega
   have i0:(0:Int)<=(k:Int):=by omega
   have i1:(k:Int)<(l.length:Int):=by omega
   obtain⟨s,hs⟩:∃s,l[k]? =some s:=⟨_,bU hlt⟩;have hQ:=HF.out s (bT hs);obtain⟨q,m',u,hu,q1,q2,q3,q4,q5⟩:=hI.rest.nX HL.out hs hgw HP.out.2.2.2;have z0:=Fg.out k u hu;obtain⟨T1,b1,rfl,hT1,l1,l2,_⟩:=hQ.wE.ok.head _ _ _ _ q4;have hsw:=hI.rest.fk.size;have k0:wr.cell? (Ad g k)=some (.iface T1 (Pt b1 0)):=(bQ hI.rest.row).trans z0;obtain⟨g',hg'⟩:∃g',gk=g'+1:=⟨gk-1,by omega⟩;have hsc:s.jy<=1000000:=by
    have h1:=aay HP.out.1 k s hs;have h2:=Bv (l:=l.take k) λs hs=>HP.out.1 s (dS hs);have h3:=HP.out.2.1;omega
   have hm':m'<=w.heap.size:=by have:=HP.out.2.2.2;omega
   obtain⟨f1,Gh,kK,H1⟩:=hQ.fold wr q m' T1 b1 q4 (by omega) hsc;have kK:∀args w,(callFunc f1 args).run prog w=.ok (.enter f1 args) w:=kK;have H1:=jB H1;have HI:=jB hI;have IX:=jB q5;have HS:=jB hs;clear hI q4 q5 hQ hs hu z0;go_wp2_with fail;refine H1.out.mono ?_;rintro en w2 ⟨rfl,Ul,En⟩;obtain⟨s',hl',hd',hc',FX⟩:=Ul;obtain⟨t1,⟨f2,VA,qg,H2⟩,t3⟩:=FX w2 (o8.refl _ _ _ _ _);have qg:∀args w,(callFunc f2 args).run prog w=.ok (.enter f2 args) w:=qg;have H2:=jB H2;have s2:=En.size;have HN:Hid (zT lo m' w.heap.size w2 (.slice ka l'.length kc) l' cells/\GZ l g lo hi oJ w w2 (k+1) m'/\Ba lo m' w.heap.size w2 (Value.slice ka l'.length kc).ownBlock λw lo hi=>s'.here w lo hi (.iface T1 (Pt b1 0))/\FC "helm/lang.ends" T1 b1 w s'.does.fs.ends):=by
    have hm1:=HI.out.rest.m1;refine⟨HI.out.kept.oV (by omega) s2 (λj j1 j2=>En.keep j (by have:=HI.out.rest.m2;have:=HP.out.2.2.2;omega) (ji (by omega))) (λj j1 j2=>En.keep j j2 (jh (by omega))),IX.out _ En,q,m',wr.heap.size,w2.heap.size,by omega,aj _,hsw,aj _,λgg hgg=>ji (HI.out.kept.row.lt gg hgg).2,λw' hw=>?_⟩;obtain⟨y1,y2,y3⟩:=FX w' hw;exact⟨y1,by rw[hd'];exact y3⟩
   have HD:=jB (jg hl' (jg hd' hc'));have RV:Hid (s.does.fs.idle=true->Kt l g lo hi oJ w w2 (k+1) m' (.slice ka l'.length kc) l' cells):=λhi=>by
    refine⟨HN.out.1,HN.out.2.1,?_,?_,by have:=HI.out.len;omega⟩
    .have h1:=HI.out.does;rw[aa2 HS.out,hi,jl rfl]at h1;exact h1
    .have h1:=HI.out.jy;rw[aaw HS.out]at h1;have:=(RZ.out s (bT HS.out)).pos;omega
   have hll:l'.length<=1000000:=by have:=HI.out.len;omega
   have HO:=jB (λo=>HN.out.1.row.alloc o);have HAdd:Hid (s.does.fs.idle=false->∀(o:Obj)(y:jo)(gg cap:Nat),(w2.alloc o).grownBy y (Value.slice ka l'.length kc).ownBlock->y.ownsRow w.heap.size 192 1 (.slice (some (Ad gg 0)) (l'.length+1) cap) (l'.length+1) (cells++[.iface T1 (Pt b1 0)])->((Value.slice ka l'.length kc).ownBlock=some gg\/gg=w2.heap.size+1)->
    FC "helm/lang.ends" T1 b1 y s.does.fs.ends/\(s.does.fs.ends=false->Kt l g lo hi oJ w y (k+1) m' (.slice (some (Ad gg 0)) (l'.length+1) cap) (l'++[s']) (cells++[.iface T1 (Pt b1 0)]))/\
    (s.does.fs.ends=true->uM l y lo hi w.heap.size y.heap.size (.slice (some (Ad gg 0)) (l'.length+1) cap)/\Fk w y lo hi)):=λhi o y gg cap hgr hown hat=>by
    obtain⟨n1,n2,n3⟩:=HN.out;obtain⟨p1,p2,p3,p4⟩:=HP.out;have ga:=ah w2 o none;have hm1:=HI.out.rest.m1;have hkk:=n1.oV (aj _) ga.size (λj j1 j2=>ga.block j (by omega) (by simp)) (λj j1 j2=>ga.block j j2 (by simp));have hh:=n3.later (own':=(Value.slice ka l'.length kc).ownBlock) (aj _) ga.size (λj j1 j2=>ga.block j (by omega) (by simp)) (λj j1 j2 _=>ga.block j j2 (by simp)) (ji rfl);have VD:=n2.grow HL.out ga (λj hj=>by cases hj) p4 hgw;have JH:=VD.grow HL.out hgr (λj hj=>(hkk.row.lt j hj).1) p4 hgw;have hadd:=hkk.add hgr (by rw[nU];omega) hm' hown hat (by rw[nU];omega) hl' hh;have ajW:o8 w2 y q m' wr.heap.size w2.heap.size:=λj hj=>by
     refine(hgr.block j (by rw[nU];omega) λe=>?_).trans (ga.block j (by omega) (by simp));have h1:=HI.out.kept.row.lt j e.symm;omega
    have hfold:kS (l.drop k)=if s.does.fs.ends then [s.uq]else s.uq::kS (l.drop (k+1)):=by
     rw[aa2 HS.out,hi]
     rfl
    have h1:=HI.out.does;have h2:=HI.out.jy;rw[hfold]at h1;rw[aaw HS.out]at h2;have Pz:lQ (l'++[s'])=lQ l'+s.jy:=by simp[lQ,hc']
    have hsd:s'.does=s.uq.does:=hd';refine⟨(FX y ajW).2.2,λhe=>?_,λhe=>?_⟩
    .rw[he]at h1;refine⟨hadd,JH,?_,by omega,by have:=HI.out.len;simp only[aA,aF,bg];omega⟩;rw[dF,bY];simp only[dL,iP,fC,hsd];simpa using h1
    .rw[he]at h1;have h3:=aax RZ.out (k+1);refine⟨hadd.done p1 JH.m2 (by have:=JH.m1;have:=JH.m2;omega) ?_ (by omega) p3 JH.fk.size,JH.fk⟩;rw[dF];simp only[dL,iP,hsd];simpa using h1
   obtain⟨PW,hi0,hz0,hz1,hz2⟩:=info_parts ak8;clear En FX HN HD HI IX H1 kK Gh t1 t3 hl' hd' hc' k0;generalize akg:l'.length=fl at *;cases hT:s.does.fs.idle with
   |true=>
    rw[hT]at H2;have wM:=jB (RV.out hT);clear RV HAdd HO;go_wp2_with fail;refine H2.out.mono ?_;rintro en w4 ⟨rfl,rfl⟩;go_wp2_with fail;go_roundg g'
    case measure=>omega
    case rel=>exact⟨k+1,m',l',cells,by omega,by omega,by go_num,wM.out⟩
   |false=>
    rw[hT]at H2;have wM:=jB (HAdd.out hT);clear RV HAdd;go_wp2_with fail;refine H2.out.mono ?_;rintro en w2 ⟨rfl,rfl⟩;cases hE:s.does.fs.ends with
    |false=>
     go_wp2_with (at_builtin;refine wpList_append_lies _ rfl _ _ 105 rfl w.heap.size 192 PW .nilIface 1 16 Tryz.underlying105 hi0 hz0 hz1 hz2 rfl (by decide) (.slice ka fl kc) fl cells rfl (HO.out _) (Ad w2.heap.size 0) 1 1 [.iface T1 (Pt b1 0)] rfl rfl (cell_one_new _ _ _) (by simp[Value.oneCell']) (by decide) (by unfold maxLen;omega) (by omega) (by simp;omega) (w2.heap.size+1) (by simp) ?_;intro gg cap w5 hown hgr hat hlt2;obtain⟨⟨f3,mm3,LH,H3⟩,hgo,hend⟩:=wM.out _ _ _ _ hgr hown hat;rw[hE]at H3;have LH:∀args w,(callFunc f3 args).run prog w=.ok (.enter f3 args) w:=LH);have KC:=jB (hgo hE);clear hgo hend hgr hown hat wM HO H2 qg VA;refine H3.mono ?_;rintro en w6 ⟨rfl,rfl⟩;go_wp2_with fail;go_roundg g'
     case measure=>omega
     case rel=>exact⟨k+1,m',_,_,by omega,by omega,by go_num,KC.out⟩
    |true=>
     go_wp2_with (at_builtin;refine wpList_append_lies _ rfl _ _ 105 rfl w.heap.size 192 PW .nilIface 1 16 Tryz.underlying105 hi0 hz0 hz1 hz2 rfl (by decide) (.slice ka fl kc) fl cells rfl (HO.out _) (Ad w2.heap.size 0) 1 1 [.iface T1 (Pt b1 0)] rfl rfl (cell_one_new _ _ _) (by simp[Value.oneCell']) (by decide) (by unfold maxLen;omega) (by omega) (by simp;omega) (w2.heap.size+1) (by simp) ?_;intro gg cap w5 hown hgr hat hlt2;obtain⟨⟨f3,mm3,LH,H3⟩,hgo,hend⟩:=wM.out _ _ _ _ hgr hown hat;rw[hE]at H3;have LH:∀args w,(callFunc f3 args).run prog w=.ok (.enter f3 args) w:=LH);have KC:=jB (hend hE);clear hgo hend hgr hown hat wM HO H2 qg VA;refine H3.mono ?_;rintro en w6 ⟨rfl,rfl⟩;go_wp2_with fail;go_ret;exact⟨_,rfl,KC.out⟩
  .have d1:decide ((k:Int)<(l.length:Int))=false:=by simp;omega
   have HE:=jB (YT.out _ _ _ _ _ _ hI (by rw[List.drop_eq_nil_of_le (by omega)];rfl));clear hI Fg HF HL RZ HP YT;generalize l'.length=fl at *;go_wp2_with fail;go_ret;exact⟨_,rfl,HE.out⟩
end
section
variable {w w' w1 w2 w3 wr W:jo}{lo hi m b H g k:Nat}{u v kv:jr}{T:jv}{c:Co}{l l' y n:List jK}{oJ cells:List jr}{s:jK}{e:Ex}
def afZ(a k:Int)(u0:jr)(y:List jK)(ds:Ds):jK:=wG 339 341 a k (nX (wF y)) (λus=>u0::us++[Nl,.bool true]) ds
theorem aq9(hy:sZ y)(u0:jr)(a:Int){k:Int}(hk1:1<=k/\k<=1000001)(hke:k<=1000000->kN y<=k)(ds:Ds)(hd:ds.lay=kU y):pV (afZ a k u0 y ds):=by
 have yc:=rD hy.ok;refine⟨Ii (by simp[oO]) (qO hy.zG) hk1,hk1.1,λc=>Iy ?_,λc hk=>?_,?_⟩
 .show(ds.lay c).jA=c.jA;rw[hd];exact hy.jA c
 .have hk:k<=1000000:=hk;have hp:=hke hk;show((ds.lay c).code.length:Int)<=c.code.length+200 * k;rw[hd];have:=hy.len c (by omega);omega
 rintro w lo hi T b C c ⟨b',us,hv,h1,h2,⟨u,rfl,hu⟩,hb⟩ hC hc hr;cases hv;have hr:Room c k:=hr;have hp:=hke hr.jy;have hrc:=hr.code;have hrn:=hr.jA;have hrk:=hr.jy;obtain⟨ya,BU,hvf⟩:=F7 hu;obtain⟨yn,hyn⟩:∃yn,y.length=yn:=⟨_,rfl⟩;rw[hyn]at hvf;subst hvf;have d3:w.cell? (Ad b 3)=some (.slice ya yn BU):=jH hb;have d5:w.cell? (Ad b 5)=some (.bool true):=jH hb;have HY:=jB (hy.lay _ _ _ _ C c hu hC hc ⟨by omega,by omega,by omega⟩);refine⟨337,λw=>by kernel_rfl,λargs w=>by kernel_rfl,?_⟩;show Calls prog 337 #[Pt b 0,Pt C 0] w λen w'=>en=.returned (.tuple #[])/\kF w' C (ds.lay c)/\Gk w w' C;rw[hd];clear hb hu hc hr hrc hrn hrk hp hyn hd;go_enter func337,ntmps337;go_wp2_with fail;refine HY.out.mono ?_;rintro en w1 ⟨rfl,p1,q1⟩;have HE:=jB (jg p1 q1);clear p1 q1 HY;go_wp2_with fail;exact cu (v:=.tuple #[]) (by simp[results,Tryz.results337,go_sem]) rfl ⟨rfl,HE.out⟩
theorem aah{ya na:Option Addr}{yn nn yc nc:Nat}(d3:w.cell? (Ad b 3)=some (.slice ya yn yc))(d4:w.cell? (Ad b 4)=some (.slice na nn nc)):Calls prog 336 #[Pt b 0] w λen w'=>en=.returned (.bool (decide (yn=0)&&decide (nn=0)))/\w'=w:=by
 by_cases hy:yn=0
 .subst hy;by_cases hn:nn=0
  .subst hn;go_enter func336,ntmps336;go_wp2_with fail;go_ret;exact⟨rfl,rfl⟩
  .have e1:((nn:Int)==0)=false:=by rw[beq_eq_false_iff_ne];omega
   rw[dO hn];clear hn;go_enter func336,ntmps336;go_wp2_with fail;go_ret;exact⟨rfl,rfl⟩
 .have e1:((yn:Int)==0)=false:=by rw[beq_eq_false_iff_ne];omega
  rw[dO hy,gK];clear hy;go_enter func336,ntmps336;go_wp2_with fail;go_ret;exact⟨rfl,rfl⟩
theorem aag{ya na:Option Addr}{yn nn yc nc:Nat}{ry rn sure:Bool}(d3:w.cell? (Ad b 3)=some (.slice ya yn yc))(d4:w.cell? (Ad b 4)=some (.slice na nn nc))(d5:w.cell? (Ad b 5)=some (.bool sure))
 (hy:Calls prog 339 #[.slice ya yn yc] w λen w2=>en=.returned (.bool ry)/\w2=w)(hn:Calls prog 339 #[.slice na nn nc] w λen w2=>en=.returned (.bool rn)/\w2=w):
 Calls prog 334 #[Pt b 0] w λen w'=>en=.returned (.bool (ry&&(sure||rn)))/\w'=w:=by
 have HY:=jB hy;have HN:=jB hn;clear hy hn;cases ry with
 |false=>
  go_enter func334,ntmps334;go_wp2_with fail;refine HY.out.mono ?_;rintro en w1 ⟨rfl,rfl⟩;go_wp2_with fail;go_ret;exact⟨rfl,rfl⟩
 |true=>
  cases sure with
  |true=>
   go_enter func334,ntmps334;go_wp2_with fail;refine HY.out.mono ?_;rintro en w1 ⟨rfl,rfl⟩;go_wp2_with fail;go_ret;exact⟨rfl,rfl⟩
  |false=>
   simp only[Bool.true_and,ig];go_enter func334,ntmps334;go_wp2_with fail;refine HY.out.mono ?_;rintro en w1 ⟨rfl,rfl⟩;go_wp2_with fail;refine HN.out.mono ?_;rintro en w1 ⟨rfl,rfl⟩;go_wp2_with fail;go_ret;exact⟨rfl,rfl⟩
theorem af0{a k:Int}{u0 yv:jr}{fs:IQ}{H0:Nat}(h1:lo<=b)(h2:b<hi)(hH:hi<=W.heap.size)(hb:W.heap[b]? =some (.cells ([Im a,Im k,u0,yv,Nl,.bool true]:List jr).toArray 341))
 (hy:uM y W lo b H0 W.heap.size yv)(hk1:1<=k/\k<=1000001)(hke:k<=1000000->kN y<=k)(hfs:fs={lay:=kU (kS y),idle:=decide ((kS y).length=0),ends:=uy (kS y)}):GK fs k W lo hi H0 W.heap.size 339 b:=by
 obtain⟨y',e1,e2,e3,⟨ya,yc,rfl⟩,e4⟩:=hy;subst hfs;refine⟨afZ a k u0 y' _,aq9 e1 u0 a hk1 (λhk=>by have:=hke hk;omega) {lay:=kU (kS y),fs:={lay:=kU (kS y),idle:=decide ((kS y).length=0),ends:=uy (kS y)}} (MN e2).symm,rfl,rfl,λw' ha=>?_⟩;obtain⟨q1,q2⟩:=e4 w' (ha.less (aj _) (by omega) (aj _) (aj _));have hb':=(ha b (ji ⟨h1,h2⟩)).trans hb;have d3:w'.cell? (Ad b 3)=some (.slice ya y'.length yc):=jH hb';have d4:w'.cell? (Ad b 4)=some (Nl):=jH hb';have d5:w'.cell? (Ad b 5)=some (.bool true):=jH hb';refine⟨⟨b,_,rfl,h1,by omega,⟨_,rfl,q1⟩,hb'⟩,⟨336,λw=>by kernel_rfl,λargs w=>by kernel_rfl,?_⟩,334,λw=>by kernel_rfl,λargs w=>by kernel_rfl,?_⟩
 .have h:=aah d3 d4;rw[MR e2]at h;simpa using h
 .have h:=aag d3 d4 d5 q2 (P7 none 0 w');simpa using h
theorem aiN{a k kk:Int}{uv yv nv:jr}{fs:IQ}{f:nY}{H0:Nat}(h1:lo<=b)(h2:b<hi)(hH:hi<=W.heap.size)(hb:W.heap[b]? =some (.cells ([Im a,Im k,uv,yv,nv,.bool false]:List jr).toArray 341))
 (he:mQ f kk W lo b H0 W.heap.size uv)(hy:uM y W lo b H0 W.heap.size yv)(hn:uM n W lo b H0 W.heap.size nv)(hk1:1<=k/\k<=1000001)(hke:k<=1000000->1+(kk+kN y+kN n)<=k)
 (hfs:fs={lay:=λc=>(if 0<(kS n).length then kU (kS n) ((kU (kS y) (((f.give c (-1)).1.jZ c.free).lay 2 [(f.give c (-1)).2])).lay 3 [])else kU (kS y) (((f.give c (-1)).1.jZ c.free).lay 2 [(f.give c (-1)).2])).lay 0 [],idle:=decide ((kS y).length=0)&&decide ((kS n).length=0),ends:=uy (kS y)&&uy (kS n)}):GK fs k W lo hi H0 W.heap.size 339 b:=by
 obtain⟨e',T2,b2,_,_,_,rfl,_,_,q3,q4,q5,_,q6⟩:=he;obtain⟨y',e1,e2,e3,⟨ya,yc,rfl⟩,e4⟩:=hy;obtain⟨n',g1,g2,g3,⟨na,nc,rfl⟩,g4⟩:=hn;refine⟨_,(aae q3 e1 g1 a hk1 (λhk=>by have:=hke hk;omega)).does (ds:={lay:=fs.lay,fs:=fs}) ?_,rfl,rfl,λw' ha=>?_⟩
 .subst hfs;funext c
  simp only[zB,wG];rw[MN e2,MN g2,MR g2,q4]
 have ha':=ha.less (lo:=lo) (m:=b) (H:=H0) (hi:=W.heap.size) (aj _) (by omega) (aj _) (aj _);obtain⟨q1,q2⟩:=e4 w' ha';obtain⟨r1,r2⟩:=g4 w' ha';have hb':=(ha b (ji ⟨h1,h2⟩)).trans hb;have d3:w'.cell? (Ad b 3)=some (.slice ya y'.length yc):=jH hb';have d4:w'.cell? (Ad b 4)=some (.slice na n'.length nc):=jH hb';have d5:w'.cell? (Ad b 5)=some (.bool false):=jH hb';subst hfs;refine⟨⟨b,_,rfl,h1,by omega,⟨_,_,_,rfl,(q6 w' ha').1,q1,r1⟩,hb'⟩,⟨336,λw=>by kernel_rfl,λargs w=>by kernel_rfl,?_⟩,334,λw=>by kernel_rfl,λargs w=>by kernel_rfl,?_⟩
 .have h:=aah d3 d4;rw[MR e2,MR g2]at h;exact h
 .have h:=aag d3 d4 d5 q2 r2;simpa using h
end
end
end Go.Proofs.YthllhabjfchgiaaGreatDoor
