import Derived.Test.YthllhabjfchgiaaGreatDoorHb22
set_option maxRecDepth 100000
set_option maxHeartbeats 8000000
set_option linter.unusedSimpArgs false
namespace Go.Proofs.YthllhabjfchgiaaGreatDoor
open _root_.Go.Proofs.Tryz
section
open Go.RowKit Hx
attribute [local go_sem ↓] Go.wp_at_zero Go.wp_at_succ
attribute [local go_sem] kL
section
variable {s:jm}{ex:Ps->Ex×Ps}{d:Nat}{p:Ps}{r:Ex×Ps}
theorem afh:(setOf p.k.text.data.toList).isSome=true↔(p.is [82,79,65,68,83]=true\/(p.is [82,79,65,68,83]=false/\p.is [70,82,69,83,72]=true)\/(p.is [82,79,65,68,83]=false/\p.is [70,82,69,83,72]=false/\p.is [65,71,65,73,78]=true)):=by
 unfold setOf Hx.Ps.is;cases h1:(p.k.text.data.toList==[82,79,65,68,83])with
 |true=>simp
 |false=>
  cases h2:(p.k.text.data.toList==[70,82,69,83,72])with
  |true=>simp
  |false=>
   cases h3:(p.k.text.data.toList==[65,71,65,73,78])with
   |true=>simp
   |false=>simp
theorem ahJ(hs:s.size<=4000)(h:Reader s ex d)(n:Nat)(hq:∀p,p.Ok s->Deep (d+1) p->(setOf p.k.text.data.toList).isSome=true->mM 275 [] s p (yB s ex n p))(ok:p.Ok s)(hd:Deep (d+1) p):
 mM 270 [] s p (rX s ex n p):=by
 unfold rX;split
 .rename_i h1;exact ahG hs ok h1
 rename_i k3;split
 .rename_i h1;exact ahK hs ok h1
 rename_i k4;split
 .rename_i h1;exact ahN hs ok h1
 rename_i k2;have hp:Plain p:=⟨k3,k4,k2⟩;split
 .rename_i h1;refine ahM hs ok hp ?_;cases ht:p.is [116,114,117,101]with
  |true=>exact ji rfl
  |false=>rw[ht]at h1;exact jh ⟨rfl,by simpa using h1⟩
 rename_i h1;have t1:p.is [116,114,117,101]=false:=by
  cases ht:p.is [116,114,117,101]with
  |true=>rw[ht]at h1;simp at h1
  |false=>rfl
 have t2:p.is [102,97,108,115,101]=false:=by
  cases ht:p.is [102,97,108,115,101]with
  |true=>rw[ht]at h1;simp at h1
  |false=>rfl
 split
 .rename_i h2;exact ahH hp t1 t2 h2 (PX h.good ok hd).2 (abZ hs h ok hd)
 rename_i h2;have t3:p.is [40]=false:=by simpa using h2
 split
 .rename_i h3;have g1:=nV ok (oM (by simp) h3);exact ahF hs ok hp t1 t2 t3 h3 (PX h.good g1.ok (hd.good g1)).2 (abZ hs h g1.ok (hd.good g1))
 rename_i h3;have t4:p.is [105,115,110,111,110,101]=false:=by simpa using h3
 split
 .rename_i h4;exact ahI hp t1 t2 t3 t4 (afh.1 h4) (hq p ok hd h4)
 .rename_i h4;have h5:¬(p.is [82,79,65,68,83]=true\/(p.is [82,79,65,68,83]=false/\p.is [70,82,69,83,72]=true)\/(p.is [82,79,65,68,83]=false/\p.is [70,82,69,83,72]=false/\p.is [65,71,65,73,78]=true)):=λhh=>h4 (afh.2 hh);refine ZE hp t1 t2 t3 t4 ?_ ?_ ?_
  .cases hx:p.is [82,79,65,68,83]<;>simp_all
  .cases hx:p.is [82,79,65,68,83]<;>cases hy:p.is [70,82,69,83,72]<;>simp_all
  .cases hx:p.is [82,79,65,68,83]<;>cases hy:p.is [70,82,69,83,72]<;>cases hz:p.is [65,71,65,73,78]<;>simp_all
def Jc(b:Wd)(u:jr):jr:=.agg #[.string b.text,Im b.at',u]
theorem aiC(tmps:Array jr)(w:jo)(g:Nat)(b:Wd)(u:jr)(h2:tmps[2]? =some (Pt g 0))(h:w.heap[g]? =some (.cells #[.string b.text,Im b.at',u] 361)):
 (results Tryz.f257 tmps).run prog w=.ok (Jc b u) w:=by
 have q0:=jJ 0 h rfl;have q1:=jJ 1 h rfl;have q2:=jJ 2 h rfl;simp[results,Tryz.results257,go_sem,h2,q0,q1,q2,Jc]
def ag6(s:jm)(p:Ps)(r:(Wd×Ex)×Ps):Prop:=
 ∀(P:Nat)(w:jo),jR w P s p->Calls prog 257 #[Pt P 0] w λe w'=>∃u,e=.returned (Jc r.1.1 u)/\r.1.2.here r.1.2.at' w' w.heap.size w'.heap.size u/\jR w' P s r.2/\w.grownBy w' (some P)
theorem ZR(hs:s.size<=4000)(h:Reader s ex d)(ok:p.Ok s)(hd:Deep (d+1) p):ag6 s p (pY s ex p):=by
 intro P w hp;have hlt:=hp.lt;have o1:=ok.jW [40];have d1:=hd.jW ok (t:=[40]) (by simp);have gn:=Ej o1;have ge:=yj gn.ok (t:=[58]) (by simp);have d2:=d1.good (gn.trans ge);obtain⟨g1,x1⟩:=h.good _ ge.ok d2;have ga:w.grownBy (w.alloc (.cells #[.string ⟨#[]⟩,Im 0,.nilIface] 361)) none:=ah w _ none;have hbox:(w.alloc (.cells #[.string ⟨#[]⟩,Im 0,.nilIface] 361)).heap[w.heap.size]? =some (.cells #[.string ⟨#[]⟩,Im 0,.nilIface] 361):=aY w _;have H0:=jB (Nx (hp.grow ga) ok hs [40]);have H1:=jB (λx (hx:jR x P s (p.jW s [40]))=>JI hx o1 hs);have H2:Hid (∀x,jR x P s ((p.jW s [40]).name s).2->Calls prog 239 #[Pt P 0,.string ⟨#[58]⟩] x (qG P s x (.tuple #[]) (((p.jW s [40]).name s).2.expect s [58]))):=λx hx=>Ee hx gn.ok hs [58];have H3:=jB (λx (hx:jR x P s (((p.jW s [40]).name s).2.expect s [58]))=>h.reads _ ge.ok d2 P x hx);have H4:=jB (λx (hx:jR x P s (ex (((p.jW s [40]).name s).2.expect s [58])).2)=>Lp hx g1.ok hs [41]);have hne:P≠w.heap.size:=by omega
 have HB:Hid (∀w1,(w.alloc (.cells #[.string ⟨#[]⟩,Im 0,.nilIface] 361)).grownBy w1 (some P)->w1.heap[w.heap.size]? =some (.cells #[.string ⟨#[]⟩,Im 0,.nilIface] 361)/\w.grownBy w1 (some P)):=λw1 hg=>
  ⟨(hg.block _ (lN hbox) (by simpa using Ne.symm hne)).trans hbox,(ga.but _).trans hg⟩
 show Calls prog 257 #[Pt P 0] w λe w'=>∃u,e=.returned (Jc ((p.jW s [40]).name s).1 u)/\(ex (((p.jW s [40]).name s).2.expect s [58])).1.here (ex (((p.jW s [40]).name s).2.expect s [58])).1.at' w' w.heap.size w'.heap.size u/\jR w' P s ((ex (((p.jW s [40]).name s).2.expect s [58])).2.close s [41])/\w.grownBy w' (some P);generalize ex (((p.jW s [40]).name s).2.expect s [58])=rr at *;generalize ((p.jW s [40]).name s).2.expect s [58]=q3 at *;generalize (p.jW s [40]).name s=dq at *;generalize p.jW s [40]=q1 at *;generalize rr.2.close s [41]=q4 at *;obtain⟨⟨dt,da⟩,q2⟩:=dq;have H1:Hid (∀x,jR x P s q1->Calls prog 232 #[Pt P 0] x (qG P s x (.agg #[.string dt,Im da]) q2)):=H1.out;have HX:=jB x1;simp only at H2⊢;clear hp o1 d1 gn ge d2 g1 x1 ok hd h ga hbox;go_enter func257,ntmps257;go_wp2_with fail;refine H0.out.mono ?_;rintro e w1 ⟨rfl,p1,k1⟩;have kH:=jB (jg p1 k1);clear p1 k1 H0;go_wp2_with fail;refine(H1.out _ kH.out.1).mono ?_;rintro e w2 ⟨rfl,p2,k2⟩;have HP2:Hid (jR (w2.alloc (.cells #[.string dt,Im da] 316)) P s q2/\w1.grownBy (w2.alloc (.cells #[.string dt,Im da] 316)) (some P)/\(w2.alloc (.cells #[.string dt,Im da] 316)).heap[w2.heap.size]? =some (.cells #[.string dt,Im da] 316)/\w1.heap.size<=w2.heap.size):=⟨p2.grow (ah _ _ none),k2.trans ((ah _ _ none).but _),aY _ _,k2.size⟩;clear p2 k2 H1;go_wp2_with fail;refine(H2.out _ HP2.out.1).mono ?_;rintro e w3 ⟨rfl,p3,k3⟩;have lF:=jB (jg p3 k3);clear p3 k3 H2;go_wp2_with fail;refine(H3.out _ lF.out.1).mono ?_
 rintro e w4 ⟨v,rfl,e4,p4,k4⟩;obtain⟨T4,A4,hv4,_⟩:=HX.out.head _ _ _ _ _ e4;subst hv4;have nG:=jB (jg e4 (jg p4 k4));clear e4 p4 k4 H3;go_wp2_with fail;refine(H4.out _ nG.out.2.1).mono ?_;rintro e w5 ⟨rfl,p5,k5⟩;have HW:Hid (jR w5 P s q4/\w.grownBy w5 (some P)/\w5.heap[w.heap.size]? =some (.cells #[.string ⟨#[]⟩,Im 0,.nilIface] 361)/\w5.heap[w2.heap.size]? =some (.cells #[.string dt,Im da] 316)/\rr.1.here rr.1.at' w5 w3.heap.size w5.heap.size (.iface T4 (Pt A4 0))/\w.heap.size<w3.heap.size/\w.heap.size≠w2.heap.size):=by
  have s1:=kH.out.2.size;rw[nU]at s1;have s2:=HP2.out.2.1.size;have s2':=HP2.out.2.2.2;have s3:=lF.out.2.size;have s4:=nG.out.2.2.size;have kA:=lF.out.2.trans (nG.out.2.2.trans k5);obtain⟨b1,b2⟩:=HB.out w5 (kH.out.2.trans (HP2.out.2.1.trans kA));refine⟨p5,b2,b1,(kA.block _ (lN HP2.out.2.2.1) (by simp;omega)).trans HP2.out.2.2.1,?_,by omega,by omega⟩;exact(HX.out.law _).wide _ _ _ _ _ _ (HX.out.keep nG.out.1 (by omega) (aj _) k5) (aj _) k5.size
 obtain⟨x1,x2,x3,x4,x5,x6,x7⟩:=HW.out;have q0:=jJ 0 x3 rfl;have q1':=jJ 1 x3 rfl;have q2':=jJ 2 x3 rfl;have rf:=qJ x3;have y0:=jJ 0 x4 rfl;have y1:=jJ 1 x4 rfl;clear x1 x2 x3 x4 x5 p5 k5 H4 kH HP2 lF nG HB;go_wp2_with fail;obtain⟨x1,x2,x3,x4,x5,x6,x7⟩:=HW.out;have z3:=Iz w5 w.heap.size _ _ _ _ (.string dt) (Im da) (.iface T4 (Pt A4 0)) x3;refine cu (aiC _ _ w.heap.size ⟨dt,da⟩ (.iface T4 (Pt A4 0)) rfl z3) rfl ⟨_,rfl,?_,((x1.Dx hne _ _).Dx hne _ _).Dx hne _ _,pG (pG (pG x2 (aj _) _ _) (aj _) _ _) (aj _) _ _⟩;have hsz:(((w5.setCell (Ad w.heap.size 0) (.string dt)).setCell (Ad w.heap.size 1) (Im da)).setCell (Ad w.heap.size 2) (.iface T4 (Pt A4 0))).heap.size=w5.heap.size:=by simp[World.setCell]
 rw[hsz];refine(HX.out.law _).wide _ _ _ _ _ _ ((HX.out.law _).loc _ _ _ _ _ x5 (λb b1 _=>?_)) (by omega) (aj _);rw[bC _ _ _ _ (by simp only;omega),bC _ _ _ _ (by simp only;omega),bC _ _ _ _ (by simp only;omega)]
end
section
variable {s:jm}{ex:Ps->Ex×Ps}{d:Nat}{p:Ps}{r:Ex×Ps}{x:Sx}
def CJ(fn:FuncId)(kind:Int)(s:jm)(x:Sx)(p:Ps)(r:Ex×Ps):Prop:=
 ∀(P:Nat)(w:jo)(lo:Nat)(u:jr),jR w P s p->P<lo->oN x w lo w.heap.size u->lo<=w.heap.size->Calls prog fn #[Pt P 0,u,Im kind] w λen w'=>∃v,en=.returned v/\r.1.here r.1.at' w' lo w'.heap.size v/\jR w' P s r.2/\w.grownBy w' (some P)
theorem wJ{w:jo}{lo hi:Nat}{v:jr}(h:oN x w lo hi v):∃S fv,v=Pt S 0/\lo<=S/\S<hi/\w.heap[S]? =some (.cells #[Im x.at',Im x.jy,.string x.base,Im x.of,fv] 348):=by
 obtain⟨S,fv,h1,h2,h3,h4,_⟩:=h;exact⟨S,fv,h1,h2,h3,h4⟩
theorem oU.keep(h:oU x){w w':jo}{lo hi P:Nat}{v:jr}(hh:oN x w lo hi v)(hP:P<lo)(hi':hi<=w.heap.size)(hg:w.grownBy w' (some P)):oN x w' lo hi v:=
 h.law.loc _ _ _ _ _ hh λb b1 b2=>hg.block b (by omega) (by simp;omega)
theorem Zx(hs:s.size<=4000)(ok:p.Ok s)(hx:oU x)(kind:Int):CJ 277 kind s x p (G9 s x kind p):=by
 intro P w lo u h hlt hu hlo;have HN:Hid (Calls prog 236 #[Pt P 0] w (qG P s w (.agg #[Im p.k.kind,.string p.k.text,Im p.k.at']) (p.next s))):=wX h ok hs;obtain⟨S,fv,hu1,s1,s2,s3⟩:=wJ hu;subst hu1;have HU:=jB (jg hu s3);have HX:Hid (oU x):=hx;have hft:=LK p.k.kind p.k.at' p.k.text;have hcb:=hx.jy;show Calls prog 277 #[Pt P 0,Pt S 0,Im kind] w λen w'=>∃v,en=.returned v/\(qZ 410 412 x.at' (jS [x.jy]) kind (nX (oN x)) (λus=>.string p.k.text::us)).here x.at' w' lo w'.heap.size v/\jR w' P s (p.next s)/\w.grownBy w' (some P);generalize p.next s=q at *;generalize p.k.kind=kk at *;generalize p.k.text=kt at *;generalize p.k.at'=ka at *;clear h hu s3 hx ok;go_enter func277,ntmps277;go_wp2_with fail;refine HN.out.mono ?_;rintro e w1 ⟨rfl,p1,q1⟩;have hS1:=(q1.block S s2 (by simp;omega)).trans HU.out.2;have c0:=jJ 0 hS1 rfl;have c1:=jJ 1 hS1 rfl;have asu:=lN hS1;have n1:¬S=w1.heap.size:=by omega
 have n2:¬S=w1.heap.size+1:=by omega
 have n3:¬S=w1.heap.size+1+1:=by omega
 have DT:Hid (Calls prog 234 #[Im x.at',.slice (some (Ad w1.heap.size 0)) 1 1] (w1.alloc (.cells #[Im x.jy] 3)).drew λe w'=>e=.returned (.agg #[Im x.at',Im (jS [x.jy])])/\w'=((w1.alloc (.cells #[Im x.jy] 3)).drew.alloc (.cells #[Im x.at',Im (jS [x.jy])] 323)).alloc (.cells #[Im 1,Im (lg [x.jy])] 3)):=by
  refine JJ x.at' _ [x.jy] ⟨by simpa using hcb,by simp,jh ⟨_,_,rfl,λi y hy=>?_⟩⟩
  match i,hy with
  |0,hy=>
   cases hy;have hh:(w1.alloc (.cells #[Im x.jy] 3)).drew.heap[w1.heap.size]? =some (.cells #[Im x.jy] 3):=aY w1 _;exact jH hh
 have kH:=jB (jg p1 q1);clear p1 q1 hS1 HN;generalize hxa:x.at'=xa at *;generalize hxc:x.jy=xc at *;have SH:=jB (jg hxa hxc);clear hxa hxc;go_upto_region 2 with fail;go_cut [6] (λr wx=>r=.iface 410 (Pt (w1.heap.size+1+1+1) 0)/\wx.heap[w1.heap.size+1+1+1]? =some (.cells #[Im xa,Im (jS [xc]),Im kind,.string kt,Pt S 0] 412)/\w1.grownBy wx none)
 case first=>
  go_region_with (first|(go_at_call 244;refine(tX S 0 xc (by first|exact c1|(simp;exact c1))).mono ?_;rintro e w' ⟨rfl,rfl⟩)|(go_at_call 234;refine DT.out.mono ?_;rintro e w' ⟨rfl,rfl⟩));all_goals (go_wp2_with fail;go_meet;exact⟨rfl,(O5 w1 _ _ _ _).1,(O5 w1 _ _ _ _).2⟩)
 case rest=>
  obtain⟨rfl,h1,h2⟩:=hcut;have HF:=jB (jg h1 h2);clear h1 h2;go_wp2_with fail;go_ret;obtain⟨h1,h2⟩:=HF.out;obtain⟨e1,e2⟩:=SH.out;rw[<-e1,<-e2]at h1;have s0:=kH.out.2.size;have hs2:=HX.out.keep HU.out.1 hlt (aj _) (kH.out.2.trans (h2.but _));exact⟨_,rfl,⟨_,_,rfl,by omega,lN h1,⟨_,rfl,HX.out.law.wide _ _ _ _ _ _ hs2 (aj _) (by omega)⟩,h1⟩,kH.out.1.grow h2,kH.out.2.trans (h2.but _)⟩
end
section
variable {w:jo}{x:Sx}
theorem arp(w:jo)(b cap:Nat)(xs:List Int)(hx:∀x∈xs,0<=x/\x<=100000000)(hn:xs.length<=1000000)(hc:∀(i:Nat)(x:Int),xs[i]? =some x->w.cell? (Ad b i)=some (Im x)):
 Calls prog 143 #[.slice (some (Ad b 0)) xs.length cap] w λe w'=>e=.returned (Im (lg xs))/\w'=w:=by
 have HR:Hid (lg xs=(xs.drop 0).foldl (λa c=>min (a+c) 1000001) 0):=rfl;generalize hr:lg xs=r at *;clear hr;go_enter func143,ntmps143;go_wp2;go_loop [3,5,8] (λa _ i=>∃(k:Nat)(z:Int),k<=xs.length/\0<=z/\z<=1000001/\a=Im z/\i=Im k/\Hid (r=(xs.drop k).foldl (λa c=>min (a+c) 1000001) z)) (λ_ _ i=>xs.length-(intOf i).toNat)
 case atStart=>exact⟨0,0,bD _,by omega,by omega,rfl,rfl,HR⟩
 case round=>
  obtain⟨k,z,hk,z0,z1,rfl,rfl,HK⟩:=hrel;clear HR;by_cases hlt:k<xs.length
  .have d1:decide ((k:Int)<(xs.length:Int))=true:=by simp;omega
   have i0:(0:Int)<=(k:Int):=by omega
   have i1:(k:Int)<(xs.length:Int):=by omega
   have hg:xs[k]? =some xs[k]:=bU hlt;have ck:=hc k _ hg;have hb:=hx _ (fG hlt);have HE:=HK.out;rw[af7 xs k hlt]at HE;generalize xs[k]=x at *;have lK:Hid (∀y,y=min (z+x) 1000001->r=(xs.drop (k+1)).foldl (λa c=>min (a+c) 1000001) y):=λy hy=>by rw[hy];exact HE
   clear HK HE hg hc;generalize xs.length=n at *;go_wp2;all_goals (refine⟨⟨k+1,_,by omega,?_,?_,rfl,by go_num,lK.out _ (by omega)⟩,by simp[intOf];omega⟩)
   all_goals omega
  .have d1:decide ((k:Int)<(xs.length:Int))=false:=by simp;omega
   have e:r=z:=by rw[HK.out,fH (by omega)];rfl
   subst e;clear HK;go_wp2;go_ret;exact⟨rfl,rfl⟩
theorem aqB{S:Nat}{of:Int}(h:w.cell? (Ad S 3)=some (Im of)):Calls prog 258 #[Pt S 0] w λe w'=>e=.returned (Im (if of=3 then 8 else 16))/\w'=w:=by
 by_cases hof:of=3
 .subst hof;go_enter func258,ntmps258;go_wp2;go_ret;exact⟨rfl,rfl⟩
 .have hb:(of==3)=false:=by simp[hof]
  rw[jk hof];go_enter func258,ntmps258;go_wp2;go_ret;exact⟨rfl,rfl⟩
theorem QN{S:Nat}(h:w.cell? (Ad S 3)=some (Im x.of))(c:Int)(hc:0<=c/\c<=1000001):Calls prog 245 #[Pt S 0,Im c] w λe w'=>e=.returned (Im (x.round c))/\
 w'=(w.alloc (.cells #[Im 1,Im c] 3)).alloc (.cells #[Im ((if x.of=3 then 8 else 16) * lg [1,c])] 3):=by
 have hT:=xQ [1,c] (by simp;omega);have HT1:Hid (Calls prog 143 #[.slice (some (Ad w.heap.size 0)) 2 2] (w.alloc (.cells #[Im 1,Im c] 3)) λe w'=>e=.returned (Im (lg [1,c]))/\w'=w.alloc (.cells #[Im 1,Im c] 3)):=
  NU (II w _ 1 c (by omega) (by omega) hc.1 hc.2)
 have HS:Hid (Calls prog 258 #[Pt S 0] w λe w'=>e=.returned (Im (if x.of=3 then 8 else 16))/\w'=w):=aqB h;have hsz:(if x.of=3 then 8 else 16:Int)=8\/(if x.of=3 then 8 else 16:Int)=16:=by split;exact ji rfl;exact jh rfl
 have hR:x.round c=lg [(if x.of=3 then 8 else 16) * lg [1,c]]:=rfl;rw[hR];generalize (if x.of=3 then 8 else 16:Int)=z at *;generalize lg [1,c]=t at *;have hz0:0<=z * t/\z * t<=100000000:=by rcases hsz with rfl|rfl<;>omega
 have HT2:Hid (∀y,y=z * t->Calls prog 143 #[.slice (some (Ad (w.heap.size+1) 0)) 1 1] ((w.alloc (.cells #[Im 1,Im c] 3)).alloc (.cells #[Im y] 3)) λe w'=>e=.returned (Im (lg [z * t]))/\w'=(w.alloc (.cells #[Im 1,Im c] 3)).alloc (.cells #[Im (z * t)] 3)):=λy hy=>by
  subst hy;refine arp _ (w.heap.size+1) 1 [z * t] (by simpa using hz0) (by simp) (λi y hy=>?_)
  match i,hy with
  |0,hy=>
   cases hy;have hh:((w.alloc (.cells #[Im 1,Im c] 3)).alloc (.cells #[Im (z * t)] 3)).heap[w.heap.size+1]? =some (.cells #[Im (z * t)] 3):=by
    rw[<-nU w (Obj.cells #[Im 1,Im c] 3)];exact aY _ _
   exact jH hh
 clear h hR;go_enter func245,ntmps245;go_wp2_with fail;refine HS.out.mono ?_;rintro e w1 ⟨rfl,hw1⟩;rw[hw1];clear hw1;go_wp2_with fail;refine HT1.out.mono ?_;rintro e w2 ⟨rfl,hw2⟩;rw[hw2];clear hw2;have hwr:wrap64 (z * t)=z * t:=by unfold wrap64;omega
 generalize hzt:z * t=zt at *;go_wp2_with fail;refine(HT2.out _ (by omega)).mono ?_;rintro e w3 ⟨rfl,hw3⟩;rw[hw3];go_wp2_with fail;go_ret;subst hzt;exact⟨rfl,rfl⟩
end
section
variable {s:jm}{ex:Ps->Ex×Ps}{d:Nat}{p:Ps}{r:Ex×Ps}{x:Sx}
def yK(s:jm)(p:Ps)(r:(Sx×Bool)×Ps):Prop:=
 ∀(P:Nat)(w:jo),jR w P s p->Calls prog 243 #[Pt P 0] w λe w'=>∃u,e=.returned (.tuple #[u,.bool r.1.2])/\oN r.1.1 w' w.heap.size w'.heap.size u/\jR w' P s r.2/\w.grownBy w' (some P)
theorem apc{x:Sx}{q:Ps}(hset:yK s p ((x,true),q))(tp:q.is [99,111,117,110,116]=true)(hx:oU x)(hq:CJ 277 1 s x q r):mM 275 [] s p r:=by
 intro P w h;have hlt:=h.lt;have HS:=jB (hset P w h);have tp:=lJ tp;have HX:=jB hx;have HQ:=jB (λ(y:jo)(u:jr)(h1:jR y P s q)(h2:oN x y w.heap.size y.heap.size u)(h3:w.heap.size<=y.heap.size)=>hq P y w.heap.size u h1 hlt h2 h3);clear h hset hq hx;go_enter func275,ntmps275;go_wp2_with fail;refine HS.out.mono ?_;rintro e w1 ⟨u,rfl,e1,p1,g1⟩;obtain⟨S,fv,hu,s1,s2,s3⟩:=wJ e1;subst hu;have c2:=kG.c2 p1;have c3:=jJ 3 s3 rfl;have kH:=jB (jg e1 (jg p1 g1));clear e1 p1 g1 s3 HS;go_wp2_with fail;refine(HQ.out _ _ kH.out.2.1 kH.out.1 kH.out.2.2.size).mono ?_;rintro e w2 ⟨v,rfl,h1,h2,h3⟩;have HH:=jB (jg h1 (jg h2 (kH.out.2.2.trans h3)));clear h1 h2 h3 HQ;go_wp2_with fail;go_ret;exact⟨_,rfl,HH.out⟩
theorem ape{x:Sx}{q:Ps}(hset:yK s p ((x,true),q))(t0:q.is [99,111,117,110,116]=false)(tp:q.is [102,105,114,115,116]=true)(hx:oU x)(hq:CJ 277 x.of s x q r):mM 275 [] s p r:=by
 intro P w h;have hlt:=h.lt;have HS:=jB (hset P w h);have t0:=lJ t0;have tp:=lJ tp;have HX:=jB hx;have HQ:=jB (λ(y:jo)(u:jr)(h1:jR y P s q)(h2:oN x y w.heap.size y.heap.size u)(h3:w.heap.size<=y.heap.size)=>hq P y w.heap.size u h1 hlt h2 h3);clear h hset hq hx;go_enter func275,ntmps275;go_wp2_with fail;refine HS.out.mono ?_;rintro e w1 ⟨u,rfl,e1,p1,g1⟩;obtain⟨S,fv,hu,s1,s2,s3⟩:=wJ e1;subst hu;have c2:=kG.c2 p1;have c3:=jJ 3 s3 rfl;have kH:=jB (jg e1 (jg p1 g1));clear e1 p1 g1 s3 HS;go_wp2_with fail;refine(HQ.out _ _ kH.out.2.1 kH.out.1 kH.out.2.2.size).mono ?_;rintro e w2 ⟨v,rfl,h1,h2,h3⟩;have HH:=jB (jg h1 (jg h2 (kH.out.2.2.trans h3)));clear h1 h2 h3 HQ;go_wp2_with fail;go_ret;exact⟨_,rfl,HH.out⟩
theorem aph{x:Sx}{q:Ps}(hset:yK s p ((x,true),q))(t0:q.is [99,111,117,110,116]=false)(t1:q.is [102,105,114,115,116]=false)(tp:q.is [109,105,110]=true)(hx:oU x)(hq:CJ 278 x.of s x q r):mM 275 [] s p r:=by
 intro P w h;have hlt:=h.lt;have HS:=jB (hset P w h);have t0:=lJ t0;have t1:=lJ t1;have tp:=lJ tp;have HX:=jB hx;have HQ:=jB (λ(y:jo)(u:jr)(h1:jR y P s q)(h2:oN x y w.heap.size y.heap.size u)(h3:w.heap.size<=y.heap.size)=>hq P y w.heap.size u h1 hlt h2 h3);clear h hset hq hx;go_enter func275,ntmps275;go_wp2_with fail;refine HS.out.mono ?_;rintro e w1 ⟨u,rfl,e1,p1,g1⟩;obtain⟨S,fv,hu,s1,s2,s3⟩:=wJ e1;subst hu;have c2:=kG.c2 p1;have c3:=jJ 3 s3 rfl;have kH:=jB (jg e1 (jg p1 g1));clear e1 p1 g1 s3 HS;go_wp2_with fail;refine(HQ.out _ _ kH.out.2.1 kH.out.1 kH.out.2.2.size).mono ?_;rintro e w2 ⟨v,rfl,h1,h2,h3⟩;have HH:=jB (jg h1 (jg h2 (kH.out.2.2.trans h3)));clear h1 h2 h3 HQ;go_wp2_with fail;go_ret;exact⟨_,rfl,HH.out⟩
theorem apg{x:Sx}{q:Ps}(hset:yK s p ((x,true),q))(t0:q.is [99,111,117,110,116]=false)(t1:q.is [102,105,114,115,116]=false)(t2:q.is [109,105,110]=false)(tp:q.is [109,97,120]=true)(hx:oU x)(hq:CJ 278 x.of s x q r):mM 275 [] s p r:=by
 intro P w h;have hlt:=h.lt;have HS:=jB (hset P w h);have t0:=lJ t0;have t1:=lJ t1;have t2:=lJ t2;have tp:=lJ tp;have HX:=jB hx;have HQ:=jB (λ(y:jo)(u:jr)(h1:jR y P s q)(h2:oN x y w.heap.size y.heap.size u)(h3:w.heap.size<=y.heap.size)=>hq P y w.heap.size u h1 hlt h2 h3);clear h hset hq hx;go_enter func275,ntmps275;go_wp2_with fail;refine HS.out.mono ?_;rintro e w1 ⟨u,rfl,e1,p1,g1⟩;obtain⟨S,fv,hu,s1,s2,s3⟩:=wJ e1;subst hu;have c2:=kG.c2 p1;have c3:=jJ 3 s3 rfl;have kH:=jB (jg e1 (jg p1 g1));clear e1 p1 g1 s3 HS;go_wp2_with fail;refine(HQ.out _ _ kH.out.2.1 kH.out.1 kH.out.2.2.size).mono ?_;rintro e w2 ⟨v,rfl,h1,h2,h3⟩;have HH:=jB (jg h1 (jg h2 (kH.out.2.2.trans h3)));clear h1 h2 h3 HQ;go_wp2_with fail;go_ret;exact⟨_,rfl,HH.out⟩
theorem apn{x:Sx}{q:Ps}(hset:yK s p ((x,true),q))(t0:q.is [99,111,117,110,116]=false)(t1:q.is [102,105,114,115,116]=false)(t2:q.is [109,105,110]=false)(t3:q.is [109,97,120]=false)(tp:q.is [115,117,109]=true)(hx:oU x)(hq:CJ 278 1 s x q r):mM 275 [] s p r:=by
 intro P w h;have hlt:=h.lt;have HS:=jB (hset P w h);have t0:=lJ t0;have t1:=lJ t1;have t2:=lJ t2;have t3:=lJ t3;have tp:=lJ tp;have HX:=jB hx;have HQ:=jB (λ(y:jo)(u:jr)(h1:jR y P s q)(h2:oN x y w.heap.size y.heap.size u)(h3:w.heap.size<=y.heap.size)=>hq P y w.heap.size u h1 hlt h2 h3);clear h hset hq hx;go_enter func275,ntmps275;go_wp2_with fail;refine HS.out.mono ?_;rintro e w1 ⟨u,rfl,e1,p1,g1⟩;obtain⟨S,fv,hu,s1,s2,s3⟩:=wJ e1;subst hu;have c2:=kG.c2 p1;have c3:=jJ 3 s3 rfl;have kH:=jB (jg e1 (jg p1 g1));clear e1 p1 g1 s3 HS;go_wp2_with fail;refine(HQ.out _ _ kH.out.2.1 kH.out.1 kH.out.2.2.size).mono ?_;rintro e w2 ⟨v,rfl,h1,h2,h3⟩;have HH:=jB (jg h1 (jg h2 (kH.out.2.2.trans h3)));clear h1 h2 h3 HQ;go_wp2_with fail;go_ret;exact⟨_,rfl,HH.out⟩
theorem apb{x:Sx}{q:Ps}(hset:yK s p ((x,true),q))(t0:q.is [99,111,117,110,116]=false)(t1:q.is [102,105,114,115,116]=false)(t2:q.is [109,105,110]=false)(t3:q.is [109,97,120]=false)(t4:q.is [115,117,109]=false)(tp:q.is [97,110,121]=true)(hx:oU x)(hq:CJ 278 2 s x q r):mM 275 [] s p r:=by
 intro P w h;have hlt:=h.lt;have HS:=jB (hset P w h);have t0:=lJ t0;have t1:=lJ t1;have t2:=lJ t2;have t3:=lJ t3;have t4:=lJ t4;have tp:=lJ tp;have HX:=jB hx;have HQ:=jB (λ(y:jo)(u:jr)(h1:jR y P s q)(h2:oN x y w.heap.size y.heap.size u)(h3:w.heap.size<=y.heap.size)=>hq P y w.heap.size u h1 hlt h2 h3);clear h hset hq hx;go_enter func275,ntmps275;go_wp2_with fail;refine HS.out.mono ?_;rintro e w1 ⟨u,rfl,e1,p1,g1⟩;obtain⟨S,fv,hu,s1,s2,s3⟩:=wJ e1;subst hu;have c2:=kG.c2 p1;have c3:=jJ 3 s3 rfl;have kH:=jB (jg e1 (jg p1 g1));clear e1 p1 g1 s3 HS;go_wp2_with fail;refine(HQ.out _ _ kH.out.2.1 kH.out.1 kH.out.2.2.size).mono ?_;rintro e w2 ⟨v,rfl,h1,h2,h3⟩;have HH:=jB (jg h1 (jg h2 (kH.out.2.2.trans h3)));clear h1 h2 h3 HQ;go_wp2_with fail;go_ret;exact⟨_,rfl,HH.out⟩
theorem apk{x:Sx}{q:Ps}(hset:yK s p ((x,true),q))(t0:q.is [99,111,117,110,116]=false)(t1:q.is [102,105,114,115,116]=false)(t2:q.is [109,105,110]=false)(t3:q.is [109,97,120]=false)(t4:q.is [115,117,109]=false)(t5:q.is [97,110,121]=false):mM 275 [] s p (qR,q.fail):=by
 intro P w h;have HS:=jB (hset P w h);have t0:=lJ t0;have t1:=lJ t1;have t2:=lJ t2;have t3:=lJ t3;have t4:=lJ t4;have t5:=lJ t5;clear h hset;go_enter func275,ntmps275;go_wp2_with fail;refine HS.out.mono ?_;rintro e w1 ⟨u,rfl,e1,p1,g1⟩;obtain⟨S,fv,hu,s1,s2,s3⟩:=wJ e1;subst hu;have c2:=kG.c2 p1;have kH:=jB (jg p1 g1);clear e1 p1 g1 s3 HS;go_wp2_with fail;refine(Ef kH.out.1).mono ?_;rintro e w2 ⟨rfl,h2,h3⟩;have HH:=jB (jg h2 (kH.out.2.trans h3));clear h2 h3 kH;go_wp2_with fail;go_ret;exact⟨_,rfl,Jv HH.out.2.size 0 rfl,HH.out.1.grow (ah _ _ none),HH.out.2.trans ((ah _ _ none).but _)⟩
theorem apj{x:Sx}{q:Ps}(hset:yK s p ((x,false),q)):mM 275 [] s p (qR,q.fail):=by
 intro P w h;have HS:=jB (hset P w h);clear h hset;go_enter func275,ntmps275;go_wp2_with fail;refine HS.out.mono ?_;rintro e w1 ⟨u,rfl,e1,p1,g1⟩;obtain⟨S,fv,hu,s1,s2,s3⟩:=wJ e1;subst hu;have c2:=kG.c2 p1;have kH:=jB (jg p1 g1);clear e1 p1 g1 s3 HS;go_wp2_with fail;refine(Ef kH.out.1).mono ?_;rintro e w2 ⟨rfl,h2,h3⟩;have HH:=jB (jg h2 (kH.out.2.trans h3));clear h2 h3 kH;go_wp2_with fail;go_ret;exact⟨_,rfl,Jv HH.out.2.size 0 rfl,HH.out.1.grow (ah _ _ none),HH.out.2.trans ((ah _ _ none).but _)⟩
theorem apl(hs:s.size<=4000)(h:Reader s ex d)(n:Nat)(hset:∀p,p.Ok s->Deep (d+1) p->yK s p (mZ s ex n p))(hm:∀(x:Sx)(q:Ps)(kind:Int),q.Ok s->Deep (d+1) q->¬kD q->oU x->CJ 278 kind s x q (Dp s ex x kind q))
 (ok:p.Ok s)(hd:Deep (d+1) p):mM 275 [] s p (yB s ex n p):=by
 have h1:=hset p ok hd;obtain⟨g1,e1⟩:=Rf h.good n ok hd;unfold yB;generalize mZ s ex n p=sm at *;obtain⟨⟨x,b⟩,q⟩:=sm;simp only at g1 e1⊢;have PD:=hd.good g1;cases b with
 |false=>exact apj h1
 |true=>
  simp only[dM];unfold zL;cases t0:q.is [99,111,117,110,116]with
  |true=>exact apc h1 t0 e1 (Zx hs g1.ok e1 1)
  |false=>
  cases t1:q.is [102,105,114,115,116]with
  |true=>exact ape h1 t0 t1 e1 (Zx hs g1.ok e1 x.of)
  |false=>
  cases t2:q.is [109,105,110]with
  |true=>exact aph h1 t0 t1 t2 e1 (hm x q x.of g1.ok PD (oM (by simp) t2) e1)
  |false=>
  cases t3:q.is [109,97,120]with
  |true=>exact apg h1 t0 t1 t2 t3 e1 (hm x q x.of g1.ok PD (oM (by simp) t3) e1)
  |false=>
  cases t4:q.is [115,117,109]with
  |true=>exact apn h1 t0 t1 t2 t3 t4 e1 (hm x q 1 g1.ok PD (oM (by simp) t4) e1)
  |false=>
  cases t5:q.is [97,110,121]with
  |true=>exact apb h1 t0 t1 t2 t3 t4 t5 e1 (hm x q 2 g1.ok PD (oM (by simp) t5) e1)
  |false=>exact apk h1 t0 t1 t2 t3 t4 t5
end
end
namespace Hx
open Go.RowKit
structure jK where
 jy:Int
 here:sJ
 does:Ds
def sS(g:Nat):List jK->jo->Nat->Nat->List jr->Prop
 |[],_,_,_,us=>us=[]
 |b::bs,w,lo,hi,us=>∃l m u us',us=u::us'/\lo<=l/\l<=m/\m<=hi/\(g<l\/m<=g)/\b.here w l m u/\sS g bs w m hi us'
def acF(T:jv)(l:List jK):sJ:=λw lo hi v=>
 (l=[]/\v=Nl)\/
 ∃g cap us arr,v=.slice (some (Ad g 0)) l.length cap/\lo<=g/\g<hi/\sS g l w lo hi us/\w.heap[g]? =some (.cells arr T)/\∀(j:Nat)(v:jr),us[j]? =some v->arr[j]? =some v
theorem J3{g:Nat}:∀{bs:List jK}{w w':jo}{lo hi:Nat}{us:List jr},(∀b∈bs,Lawful b.here)->sS g bs w lo hi us->(∀b,lo<=b->b<hi->w'.heap[b]? =w.heap[b]?)->sS g bs w' lo hi us
 |[],_,_,_,_,_,_,h,_=>h
 |b::bs,_,_,_,_,_,hl,⟨l,m,u,us',h0,h1,h2,h3,h4,h5,h6⟩,hk=>
  ⟨l,m,u,us',h0,h1,h2,h3,h4,(hl b (aW ..)).loc _ _ _ _ _ h5 (λk k1 k2=>hk k (by omega) (by omega)),J3 (λc hc=>hl c (aI _ hc)) h6 (λk k1 k2=>hk k (by omega) k2)⟩
theorem WO{g:Nat}:∀{bs:List jK}{w:jo}{lo hi hi':Nat}{us:List jr},sS g bs w lo hi us->hi<=hi'->sS g bs w lo hi' us
 |[],_,_,_,_,_,h,_=>h
 |_::_,_,_,_,_,_,⟨l,m,u,us',h0,h1,h2,h3,h4,h5,h6⟩,hh=>⟨l,m,u,us',h0,h1,h2,by omega,h4,h5,WO h6 hh⟩
theorem aq7{g:Nat}{bs:List jK}{w:jo}{lo lo' hi:Nat}{us:List jr}(h:sS g bs w lo hi us)(hlo:lo'<=lo):sS g bs w lo' hi us:=by
 cases bs with
 |nil=>exact h
 |cons b bs=>
  obtain⟨l,m,u,us',h0,h1,h2,h3,h4,h5,h6⟩:=h;exact⟨l,m,u,us',h0,by omega,h2,h3,h4,h5,h6⟩
theorem afW{g:Nat}:∀{bs:List jK}{w:jo}{lo l m hi:Nat}{us:List jr}{b:jK}{u:jr},sS g bs w lo l us->b.here w l m u->lo<=l->l<=m->m<=hi->(g<l\/m<=g)->sS g (bs++[b]) w lo hi (us++[u])
 |[],_,_,l,m,_,us,b,u,h,hb,h1,h2,h3,hg=>by
  have h:=h;subst h;exact⟨l,m,u,[],rfl,h1,h2,h3,hg,hb,rfl⟩
 |_::_,_,_,_,_,_,_,_,u,⟨l',m',v,us',h0,h1,h2,h3,h4,h5,h6⟩,hb,k1,k2,k3,hg=>by
  subst h0;exact⟨l',m',v,us'++[u],rfl,h1,h2,by omega,h4,h5,afW h6 hb h3 k2 k3 hg⟩
theorem afV{g g':Nat}:∀{bs:List jK}{w:jo}{lo hi:Nat}{us:List jr},sS g bs w lo hi us->hi<=g'->sS g' bs w lo hi us
 |[],_,_,_,_,h,_=>h
 |_::_,_,_,_,_,⟨l,m,u,us',h0,h1,h2,h3,_,h5,h6⟩,hh=>⟨l,m,u,us',h0,h1,h2,h3,jh (by omega),h5,afV h6 hh⟩
theorem Qh{T:jv}{l:List jK}(hl:∀b∈l,Lawful b.here):Lawful (acF T l):=by
 constructor
 .rintro w w' lo hi v (h|⟨g,cap,us,arr,h1,h2,h3,h4,h5,h6⟩) hk
  .exact ji h
  .exact jh ⟨g,cap,us,arr,h1,h2,h3,J3 hl h4 hk,(hk g h2 h3).trans h5,h6⟩
 .rintro w lo hi lo' hi' v (h|⟨g,cap,us,arr,h1,h2,h3,h4,h5,h6⟩) l1 l2
  .exact ji h
  .exact jh ⟨g,cap,us,arr,h1,by omega,by omega,WO (aq7 h4 l1) l2,h5,h6⟩
def pF(s:jm)(ex:Ps->Ex×Ps)(p:Ps):Ex×Ps:=((ex (p.expect s [61])).1,(ex (p.expect s [61])).2.expect s [59])
end Hx
section
open Go.RowKit Hx
attribute [local go_sem ↓] Go.wp_at_zero Go.wp_at_succ
attribute [local go_sem] kL
section
variable {s:jm}{ex:Ps->Ex×Ps}{d:Nat}{p:Ps}{r:Ex×Ps}
theorem Jk(h:qp s ex d)(ok:p.Ok s)(hd:Deep d p):mJ s p (pF s ex p).2/\kV (pF s ex p).1:=by
 have g1:=yj ok (t:=[61]) (by simp);obtain⟨g2,e2⟩:=h _ g1.ok (hd.good g1);have g3:=yj g2.ok (t:=[59]) (by simp);exact⟨(g1.trans g2).trans g3,e2⟩
theorem Ui(hs:s.size<=4000)(h:Reader s ex d)(ok:p.Ok s)(hd:Deep d p):mM 233 [] s p (pF s ex p):=by
 intro P w hp;have hlt:=hp.lt;have g1:=yj ok (t:=[61]) (by simp);have d1:=hd.good g1;obtain⟨g2,x1⟩:=h.good _ g1.ok d1;have H0:=jB (Ee hp ok hs [61]);have H1:=jB (λx (hx:jR x P s (p.expect s [61]))=>h.reads _ g1.ok d1 P x hx);have H2:=jB (λx (hx:jR x P s (ex (p.expect s [61])).2)=>Ee hx g2.ok hs [59]);show Calls prog 233 #[Pt P 0] w λe w'=>∃v,e=.returned v/\(ex (p.expect s [61])).1.here (ex (p.expect s [61])).1.at' w' w.heap.size w'.heap.size v/\jR w' P s ((ex (p.expect s [61])).2.expect s [59])/\w.grownBy w' (some P);generalize ex (p.expect s [61])=rr at *;generalize p.expect s [61]=q at *;generalize rr.2.expect s [59]=q2 at *;have HX:Hid (kV rr.1):=x1;clear hp d1 g1 g2 x1 ok hd h;go_enter func233,ntmps233;go_wp2_with fail;refine H0.out.mono ?_;rintro e w1 ⟨rfl,p1,k1⟩;have kH:=jB (jg p1 k1);clear p1 k1 H0;go_wp2_with fail;refine(H1.out _ kH.out.1).mono ?_;rintro e w2 ⟨v,rfl,e2,p2,k2⟩;have HP2:=jB (jg e2 (jg p2 k2));clear e2 p2 k2 H1;go_wp2_with fail;refine(H2.out _ HP2.out.2.1).mono ?_;rintro e w3 ⟨rfl,p3,k3⟩;have lF:=jB (jg p3 k3);clear p3 k3 H2;go_wp2_with fail;go_ret;obtain⟨a1,a2⟩:=kH.out;obtain⟨b0,b1,b2⟩:=HP2.out;obtain⟨c1,c2⟩:=lF.out;have s1:=a2.size;have s3:=c2.size;exact⟨v,rfl,(HX.out.law _).wide _ _ _ _ _ _ (HX.out.keep b0 (by omega) (aj _) c2) s1 s3,c1,(a2.trans b2).trans c2⟩
end
end
namespace Hx
open Go.RowKit
def U9(E F G:sJ):Kids:=λw lo hi us=>∃m k u v z,us=[u,v,z]/\lo<=m/\m<=k/\k<=hi/\E w lo m u/\F w m k v/\G w k hi z
theorem MK{E F G:sJ}(h:Lawful E)(k:Lawful F)(g:Lawful G):yI (U9 E F G):=
 ⟨λ_ _ _ _ _ ⟨m,n,u,v,z,e,h1,h2,h3,hu,hv,hz⟩ hk=>⟨m,n,u,v,z,e,h1,h2,h3,h.loc _ _ _ _ _ hu (λb b1 b2=>hk b b1 (by omega)),k.loc _ _ _ _ _ hv (λb b1 b2=>hk b (by omega) (by omega)),g.loc _ _ _ _ _ hz (λb b1 b2=>hk b (by omega) b2)⟩,
  λ_ _ _ _ _ _ ⟨m,n,u,v,z,e,h1,h2,h3,hu,hv,hz⟩ l1 l2=>⟨m,n,u,v,z,e,by omega,h2,by omega,h.wide _ _ _ _ _ _ hu l1 (aj _),hv,g.wide _ _ _ _ _ _ hz (aj _) l2⟩⟩
end Hx
section
open Go.RowKit Hx
section
def oO(T:jv):Prop:=T∈[331,321,327,333,336,339,349]
theorem oO.rP{T:jv}(h:oO T)(A:Nat)(w:jo):(method 576 T (Pt A 0) "helm/lang.price").run prog w=.ok (244,Pt A 0) w:=by
 simp only[oO,dh,dU,or_false]at h;rcases h with rfl|rfl|rfl|rfl|rfl|rfl|rfl<;>kernel_rfl
structure nZ(e:jK):Prop where
 law:Lawful e.here
 head:∀w lo hi v,e.here w lo hi v->∃T b,v=.iface T (Pt b 0)/\oO T/\lo<=b/\b<hi/\w.cell? (Ad b 1)=some (Im e.jy)
 jy:0<=e.jy/\e.jy<=1000001
def yw(T' T:jv)(at' jy:Int)(K:Hx.Kids)(mk:List jr->List jr)(ds:Ds:={}):jK:=
 ⟨jy,λw lo hi v=>∃b us,v=.iface T' (Pt b 0)/\lo<=b/\b<hi/\K w lo b us/\w.heap[b]? =some (.cells (Im at'::Im jy::mk us).toArray T),ds⟩
theorem uF{T' T:jv}{at' jy:Int}{K:Hx.Kids}{mk:List jr->List jr}{ds:Ds}(hT:oO T')(hK:yI K)(hc:0<=jy/\jy<=1000001):nZ (yw T' T at' jy K mk ds):=by
 refine⟨⟨?_,?_⟩,?_,hc⟩
 .rintro w w' lo hi v ⟨b,us,hv,h1,h2,h3,h4⟩ hk;exact⟨b,us,hv,h1,h2,hK.loc _ _ _ _ _ h3 (λb' b1 b2=>hk b' b1 (by omega)),(hk b h1 h2).trans h4⟩
 .rintro w lo hi lo' hi' v ⟨b,us,hv,h1,h2,h3,h4⟩ l1 l2;exact⟨b,us,hv,by omega,by omega,hK.wide _ _ _ _ _ _ h3 l1 (aj _),h4⟩
 .rintro w lo hi v ⟨b,us,hv,h1,h2,h3,h4⟩;exact⟨T',b,hv,hT,h1,h2,jH h4⟩
theorem JO{T' T:jv}{at' jy:Int}{K:Hx.Kids}{mk:List jr->List jr}{ds:Ds}(hK:yI K){w:jo}{lo:Nat}{us:List jr}(h:K w lo w.heap.size us)(hlo:lo<=w.heap.size){o:Obj}
 (ho:o=.cells (Im at'::Im jy::mk us).toArray T):(yw T' T at' jy K mk ds).here (w.alloc o) lo (w.alloc o).heap.size (.iface T' (Pt w.heap.size 0)):=by
 subst ho;exact⟨w.heap.size,us,rfl,hlo,by rw[nU];omega,hK.loc _ _ _ _ _ h (λb _ b2=>fP _ _ _ b2),aY _ _⟩
def mO(l:List jK):sJ:=acF 192 l
def kN(l:List jK):Int:=l.foldl (λa e=>lg [a,e.jy]) 0
theorem afX:∀(l:List jK)(a:Int),(∀e∈l,nZ e)->0<=a/\a<=1000001->0<=l.foldl (λa e=>lg [a,e.jy]) a/\l.foldl (λa e=>lg [a,e.jy]) a<=1000001
 |[],_,_,h=>h
 |e::l,a,hl,h=>afX l _ (λx hx=>hl x (aI _ hx)) (xQ _ (by have:=(hl e (aW ..)).jy;simp;omega))
theorem rD{l:List jK}(hl:∀e∈l,nZ e):0<=kN l/\kN l<=1000001:=afX l 0 hl (by omega)
def qC(l:List jK)(c:Ck):Ck:=(l.foldl (λc s=>s.does.look c) c).cut c.jA.length
def kU(l:List jK)(c:Co):Co:=((l.foldl (λc s=>s.does.lay c) c).cut c.jA.length).jZ c.free
def Hx.jK.uq(s:jK):jK:={s with does:={lay:=s.does.fs.lay,fs:=s.does.fs}}
def kS:List jK->List jK
 |[]=>[]
 |s::l=>if s.does.fs.idle then kS l else if s.does.fs.ends then [s.uq]else s.uq::kS l
def uy(l:List jK):Bool:=match l.getLast? with
 |some s=>s.does.fs.ends
 |none=>false
def Qn(b:Wd)(e:Ex):Ds:=
 ⟨λc=>(e.does.look (c.mD b.text b.at')).add b.text (e.does.jU (c.mD b.text b.at').jA) true,
  λc=>
   let r:=e.does.give c (-1)
   ((if r.2=c.free then r.1 else r.1.lay 7 [c.free,r.2]).jZ (wrap64 (c.free+1))).know b.text c.free,
  {lay:=λc=>
    let r:=e.does.fd.give c (-1)
    ((if r.2=c.free then r.1 else r.1.lay 7 [c.free,r.2]).jZ (wrap64 (c.free+1))).know b.text c.free}⟩
def afl(b:Wd)(e:Ex):Ds:=
 ⟨λc=>
   let c1:=if (lG c.jA b.text).isVar then c else c.fail 2 b.at'
   (e.does.look c1).want (e.does.jU c1.jA) e.at' (lG c.jA b.text).kind,
  λc=>c.store (c.vW b.text) e.does,{lay:=λc=>c.store (c.vW b.text) e.does.fd.dn}⟩
def afO(i:Int)(e:Ex):Ds:=⟨λc=>(e.does.look c).want (e.does.jU c.jA) e.at' 1,λc=>c.store i e.does,{lay:=λc=>c.store i e.does.fd.dn}⟩
def Wh(e f:Ex):Ds:=
 ⟨λc=>
   let c1:=(e.does.look c).want (e.does.jU c.jA) e.at' 3
   (f.does.look c1).want (f.does.jU c1.jA) f.at' 4,
  λc=>
   let r:=e.does.give c (-1)
   let q:=f.does.give r.1 (-1)
   (q.1.lay 36 [r.2,q.2]).jZ c.free,
  {lay:=λc=>
    let r:=e.does.fd.give c (-1)
    let q:=f.does.fd.give r.1 (-1)
    (q.1.lay 36 [r.2,q.2]).jZ c.free}⟩
def apK:Ds:=⟨λc=>c,λc=>c.lay 1 [],{lay:=λc=>c.lay 1 [],ends:=true}⟩
def zB(e:Ex)(y n:List jK):Ds:=
 ⟨λc=>qC n (qC y ((e.does.look c).want (e.does.jU c.jA) e.at' 2)),
  λc=>
   let r:=e.does.give c (-1)
   let c1:=kU y ((r.1.jZ c.free).lay 2 [r.2])
   (if 0<n.length then kU n (c1.lay 3 [])else c1).lay 0 [],
  if e.does.fd.known then
     let l:=if e.does.fd.val=0 then kS n else kS y
     {lay:=kU l,idle:=decide (l.length=0),ends:=uy l}
   else
    {lay:=λc=>
      let r:=e.does.fd.give c (-1)
      let c1:=kU (kS y) ((r.1.jZ c.free).lay 2 [r.2])
      (if 0<(kS n).length then kU (kS n) (c1.lay 3 [])else c1).lay 0 []
     idle:=decide ((kS y).length=0)&&decide ((kS n).length=0)
     ends:=uy (kS y)&&uy (kS n)}⟩
def MZ(b:Wd)(x:Sx)(l:List jK):Ds:=
 ⟨λc=>
   let c1:=nM x.of x.jF (c.mD b.text b.at')
   (qC l (c1.add b.text x.of false)).cut c1.jA.length,
  λc=>
   let f:=c.mW (jQ x.base) x.jF
   (((kU l ((f.1.lay 4 [jQ x.base,f.2,f.2]).know b.text f.2)).lay 0 []).cut c.jA.length).jZ c.free,
  {lay:=λc=>
    let f:=c.mW (jQ x.base) x.fold
    (((kU (kS l) ((f.1.lay 4 [jQ x.base,f.2,f.2]).know b.text f.2)).lay 0 []).cut c.jA.length).jZ c.free
   idle:=decide ((kS l).length=0)}⟩
def uD(at':Int)(b:Wd)(e:Ex):jK:=yw 331 332 at' (jS [e.jy]) (nX (e.here e.at')) (λus=>.string b.text::Im b.at'::us) (Qn b e)
def sQ(b:Wd)(e:Ex):jK:=yw 321 326 b.at' (jS [e.jy]) (nX (e.here e.at')) (λus=>.string b.text::Im b.at'::us) (afl b e)
def yE(at' i:Int)(e:Ex):jK:=yw 327 329 at' (jS [e.jy]) (nX (e.here e.at')) (λus=>Im i::us) (afO i e)
def vU(at':Int)(e f:Ex):jK:=yw 333 335 at' (jS [e.jy,f.jy]) (xH (e.here e.at') (f.here f.at')) (λus=>us) (Wh e f)
def yC(at':Int):jK:=yw 336 338 at' 1 yY (λ_=>[]) apK
def rY(at':Int)(e:Ex)(y n:List jK):jK:=yw 339 341 at' (jS [e.jy,kN y,kN n]) (U9 (e.here e.at') (mO y) (mO n)) (λus=>us++[.bool false]) (zB e y n)
def tK(at':Int)(b:Wd)(x:Sx)(l:List jK):jK:=yw 349 351 at' (jS [x.jy,x.round (kN l)]) (xH (oN x) (mO l)) (λus=>.string b.text::Im b.at'::us) (MZ b x l)
namespace Hx
section
variable (s:jm)(ex:Ps->Ex×Ps)(jL:Ps->List jK×Ps)(st:Ps->Option jK×Ps)
def Ez(p:Ps):jK×Ps:=
 let d:=(p.next s).name s
 (uD p.k.at' d.1 (pF s ex d.2).1,(pF s ex d.2).2)
def EO(p:Ps):jK×Ps:=(sQ (p.name s).1 (pF s ex (p.name s).2).1,(pF s ex (p.name s).2).2)
def EP(p:Ps):jK×Ps:=(yE p.k.at' ((p.k.text.data.toList.getD 1 0).toNat-48) (pF s ex (p.next s)).1,(pF s ex (p.next s)).2)
def ED(ex':Ps->Ex×Ps)(p:Ps):jK×Ps:=
 let a:=ex' ((p.next s).jW s [40])
 let b:=ex' (a.2.expect s [44])
 (vU p.k.at' a.1 b.1,(b.2.close s [41]).expect s [59])
def EI(p:Ps):jK×Ps:=(yC p.k.at',(p.next s).expect s [59])
def yP(p:Ps):jK×Ps:=
 let c:=ex (p.next s)
 let y:=jL c.2
 if y.2.is [101,108,115,101]then (rY p.k.at' c.1 y.1 (jL (y.2.next s)).1,(jL (y.2.next s)).2)else (rY p.k.at' c.1 y.1 [],y.2)
def Dl(ex':Ps->Ex×Ps)(n:Nat)(p:Ps):jK×Ps:=
 let d:=(p.next s).name s
 let x:=mZ s ex' n (d.2.expect s [105,110])
 let b:=jL (if x.1.2 then x.2.fail else x.2)
 (tK p.k.at' d.1 x.1.1 b.1,b.2)
def uJ(ex':Ps->Ex×Ps)(n:Nat)(p:Ps):Option jK×Ps:=
 if p.k.kind=2 then (some (EO s ex p).1,(EO s ex p).2)
 else if p.k.kind=4 then (some (EP s ex p).1,(EP s ex p).2)
 else if p.is [118,97,114]then (some (Ez s ex p).1,(Ez s ex p).2)
 else if p.is [112,117,115,104]then (some (ED s ex' p).1,(ED s ex' p).2)
 else if p.is [114,101,116,117,114,110]then (some (EI s p).1,(EI s p).2)
 else if p.is [105,102]then (some (yP s ex jL p).1,(yP s ex jL p).2)
 else if p.is [101,97,99,104]then (some (Dl s jL ex' n p).1,(Dl s jL ex' n p).2)
 else (none,p)
def pR:Nat->List jK->Ps->List jK×Ps
 |0,l,p=>(l,p)
 |n+1,l,p=>match st p with
  |(some e,q)=>pR n (l++[e]) q
  |(none,q)=>(l,q)
def xZ(vg:Ps->List jK×Ps)(p:Ps):List jK×Ps:=((vg (p.jW s [123])).1,(vg (p.jW s [123])).2.close s [125])
end
def oH(s:jm):Nat->Ps->List jK×Ps
 |0,p=>([],p)
 |d+1,p=>pR (uJ s (vF s (d+1)) (xZ s (oH s d)) (vF s d) (s.size+1)) (s.size+1) [] p
end Hx
end
section
variable {s:jm}{ex ex':Ps->Ex×Ps}{jL:Ps->List jK×Ps}{d:Nat}{p:Ps}
def DL(s:jm)(jL:Ps->List jK×Ps)(d:Nat):Prop:=∀p,p.Ok s->Deep d p->mJ s p (jL p).2/\∀e∈(jL p).1,nZ e
structure FB(s:jm)(p:Ps)(r:jK×Ps):Prop where
 goes:mJ s p r.2
 zZ:nZ r.1
 more:p.k.at'+1<=r.2.k.at'
theorem uz{l:List jK}(h:∀e∈l,nZ e):Lawful (mO l):=Qh λb hb=>(h b hb).law
theorem Gs(ok:p.Ok s)(hz:1<=p.k.text.size){q:Ps}(h:mJ s (p.next s) q):p.k.at'+1<=q.k.at':=by
 have:=Gi ok;have:=h.mono;omega
theorem amV(h:qp s ex (d+1))(ok:p.Ok s)(hd:Deep (d+1) p)(ht:p.is [118,97,114]=true):FB s p (Ez s ex p):=by
 have g1:=nV ok (oM (by simp) ht);have g2:=Ej g1.ok;obtain⟨g3,e3⟩:=Jk h g2.ok (hd.good (g1.trans g2));exact⟨(g1.trans g2).trans g3,uF (by simp[oO]) (qO (e3.law _)) (pW e3.jy),Gs ok (qK (by simp) ht) (g2.trans g3)⟩
theorem aqr(h:qp s ex (d+1))(ok:p.Ok s)(hd:Deep (d+1) p)(hk:p.k.kind=2):FB s p (EO s ex p):=by
 have e1:(p.name s).2=p.next s:=by unfold Hx.Ps.name;rw[jl hk]
 have g1:=nV ok (Ij (by rw[hk];decide));obtain⟨g3,e3⟩:=Jk h g1.ok (hd.good g1);refine⟨?_,?_,?_⟩
 .show mJ s p (pF s ex (p.name s).2).2;rw[e1];exact g1.trans g3
 .show nZ (sQ _ (pF s ex (p.name s).2).1);rw[e1];exact uF (by simp[oO]) (qO (e3.law _)) (pW e3.jy)
 .show p.k.at'+1<=(pF s ex (p.name s).2).2.k.at';rw[e1];exact Gs ok (ok.kinds.name hk) g3
theorem aq3(h:qp s ex (d+1))(ok:p.Ok s)(hd:Deep (d+1) p)(hk:p.k.kind=4):FB s p (EP s ex p):=by
 have g1:=nV ok (Ij (by rw[hk];decide));obtain⟨g3,e3⟩:=Jk h g1.ok (hd.good g1);refine⟨g1.trans g3,uF (by simp[oO]) (qO (e3.law _)) (pW e3.jy),Gs ok ?_ g3⟩;obtain⟨x,hx,_⟩:=ok.kinds.register hk;exact J5 (by simp) hx
theorem aoY(h:qp s ex' d)(ok:p.Ok s)(hd:Deep (d+1) p)(ht:p.is [112,117,115,104]=true):FB s p (ED s ex' p):=by
 have g1:=nV ok (oM (by simp) ht);have d1:=(hd.good g1).jW g1.ok (t:=[40]) (by simp);obtain⟨g2,e2⟩:=h _ (g1.ok.jW [40]) d1;have g3:=yj g2.ok (t:=[44]) (by simp);obtain⟨g4,e4⟩:=h _ g3.ok (d1.good (g2.trans g3));have g5:=Jm g1.ok (t:=[40]) (u:=[41]) (by simp) (by simp) ((g2.trans g3).trans g4);have g6:=g5.trans (yj g5.ok (t:=[59]) (by simp));exact⟨g1.trans g6,uF (by simp[oO]) (wC (e2.law _) (e4.law _)) (rC e2.jy e4.jy),Gs ok (qK (by simp) ht) g6⟩
theorem apP(ok:p.Ok s)(ht:p.is [114,101,116,117,114,110]=true):FB s p (EI s p):=by
 have g1:=nV ok (oM (by simp) ht);have g2:=yj g1.ok (t:=[59]) (by simp);exact⟨g1.trans g2,uF (by simp[oO]) BM (by omega),Gs ok (qK (by simp) ht) g2⟩
theorem Io{a b c:Int}(h:0<=a/\a<=1000001)(k:0<=b/\b<=1000001)(l:0<=c/\c<=1000001):0<=jS [a,b,c]/\jS [a,b,c]<=1000001:=V3 _ (by simp;exact⟨h,k,l⟩)
theorem aiO(h:qp s ex (d+1))(hb:DL s jL (d+1))(ok:p.Ok s)(hd:Deep (d+1) p)(ht:p.is [105,102]=true):FB s p (yP s ex jL p):=by
 have g1:=nV ok (oM (by simp) ht);obtain⟨g2,e2⟩:=h _ g1.ok (hd.good g1);have g12:=g1.trans g2;obtain⟨g3,e3⟩:=hb _ g2.ok (hd.good g12);have CX:=g12.trans g3;unfold yP;simp only;split
 .rename_i hel;have g4:=nV g3.ok (oM (by simp) hel);obtain⟨g5,e5⟩:=hb _ g4.ok (hd.good (CX.trans g4));exact⟨(CX.trans g4).trans g5,uF (by simp[oO]) (MK (e2.law _) (uz e3) (uz e5)) (Io e2.jy (rD e3) (rD e5)),Gs ok (qK (by simp) ht) ((g2.trans g3).trans (g4.trans g5))⟩
 .exact⟨CX,uF (by simp[oO]) (MK (e2.law _) (uz e3) (uz (by simp))) (Io e2.jy (rD e3) (rD (by simp))),Gs ok (qK (by simp) ht) (g2.trans g3)⟩
theorem amI(n:Nat)(h:qp s ex' d)(hb:DL s jL (d+1))(ok:p.Ok s)(hd:Deep (d+1) p)(ht:p.is [101,97,99,104]=true):FB s p (Dl s jL ex' n p):=by
 have g1:=nV ok (oM (by simp) ht);have g2:=Ej g1.ok;have g3:=yj g2.ok (t:=[105,110]) (by simp);have CX:=(g1.trans g2).trans g3;obtain⟨g4,e4⟩:=Rf h n g3.ok (hd.good CX);have g5:mJ s (mZ s ex' n (((p.next s).name s).2.expect s [105,110])).2 (if (mZ s ex' n (((p.next s).name s).2.expect s [105,110])).1.2 then (mZ s ex' n (((p.next s).name s).2.expect s [105,110])).2.fail else (mZ s ex' n (((p.next s).name s).2.expect s [105,110])).2):=by
  split
  .exact Ei g4.ok
  .exact mJ.refl g4.ok
 obtain⟨g6,e6⟩:=hb _ g5.ok (hd.good ((CX.trans g4).trans g5));exact⟨((CX.trans g4).trans g5).trans g6,uF (by simp[oO]) (wC e4.law (uz e6)) (rC e4.jy (uf (rD e6))),Gs ok (qK (by simp) ht) ((((g2.trans g3).trans g4).trans g5).trans g6)⟩
def Oc(s:jm)(st:Ps->Option jK×Ps)(d:Nat):Prop:=∀p,p.Ok s->Deep d p->(∃e q,st p=(some e,q)/\FB s p (e,q))\/st p=(none,p)
theorem afF(n:Nat)(h:qp s ex (d+1))(h':qp s ex' d)(hb:DL s jL (d+1)):Oc s (uJ s ex jL ex' n) (d+1):=by
 intro p ok hd;unfold uJ;split
 .rename_i h1;exact ji ⟨_,_,rfl,aqr h ok hd h1⟩
 split
 .rename_i h1;exact ji ⟨_,_,rfl,aq3 h ok hd h1⟩
 split
 .rename_i h1;exact ji ⟨_,_,rfl,amV h ok hd h1⟩
 split
 .rename_i h1;exact ji ⟨_,_,rfl,aoY h' ok hd h1⟩
 split
 .rename_i h1;exact ji ⟨_,_,rfl,apP ok h1⟩
 split
 .rename_i h1;exact ji ⟨_,_,rfl,aiO h hb ok hd h1⟩
 split
 .rename_i h1;exact ji ⟨_,_,rfl,amI n h' hb ok hd h1⟩
 .exact jh rfl
theorem afy{st:Ps->Option jK×Ps}(h:Oc s st d):∀(n:Nat)(l:List jK)(p:Ps),(∀e∈l,nZ e)->p.Ok s->Deep d p->mJ s p (pR st n l p).2/\∀e∈(pR st n l p).1,nZ e
 |0,l,p,hl,ok,_=>⟨mJ.refl ok,hl⟩
 |n+1,l,p,hl,ok,hd=>by
  unfold pR;rcases h p ok hd with⟨e,q,he,hg⟩|he
  .rw[he];obtain⟨g2,e2⟩:=afy h n (l++[e]) q (λx hx=>by
    rcases List.mem_append.1 hx with hx|hx
    .exact hl x hx
    .rw[cO.1 hx];exact hg.zZ) hg.goes.ok (hd.good hg.goes)
   exact⟨hg.goes.trans g2,e2⟩
  .rw[he];exact⟨mJ.refl ok,hl⟩
theorem ZO{vg:Ps->List jK×Ps}(h:DL s vg d):DL s (xZ s vg) (d+1):=by
 intro p ok hd;obtain⟨h1,h2⟩:=h _ (ok.jW [123]) (hd.jW ok (by simp));exact⟨Jm ok (by simp) (by simp) h1,h2⟩
theorem Rt(s:jm):∀(d:Nat),DL s (oH s d) d
 |0=>λ_ ok _=>⟨mJ.refl ok,by simp[oH]⟩
 |d+1=>λp ok hd=>afy (afF (s.size+1) (Hl s (d+1)) (Hl s d) (ZO (Rt s d))) (s.size+1) [] p (by simp) ok hd
end
end
end Go.Proofs.YthllhabjfchgiaaGreatDoor
