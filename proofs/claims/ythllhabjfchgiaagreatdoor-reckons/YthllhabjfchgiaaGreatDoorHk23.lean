import Derived.Test.YthllhabjfchgiaaGreatDoorHk22
set_option maxRecDepth 100000
set_option maxHeartbeats 8000000
set_option linter.unusedSimpArgs false
namespace Go.Proofs.YthllhabjfchgiaaGreatDoor
open _root_.Go.Proofs.Tryz
section
open Go.RowKit Hx
attribute [local go_sem ↓] Go.wp_at_zero Go.wp_at_succ
attribute [local go_sem] kP
section
variable {s:ji}{ex:Ps->Ex×Ps}{d:Nat}{p:Ps}{r:Ex×Ps}
theorem afQ:(setOf p.k.text.data.toList).isSome=true↔(p.is [82,79,65,68,83]=true\/(p.is [82,79,65,68,83]=false/\p.is [70,82,69,83,72]=true)\/(p.is [82,79,65,68,83]=false/\p.is [70,82,69,83,72]=false/\p.is [65,71,65,73,78]=true)):=by
 unfold setOf Hx.Ps.is;cases h1:(p.k.text.data.toList==[82,79,65,68,83])with
 |true=>simp
 |false=>
  cases h2:(p.k.text.data.toList==[70,82,69,83,72])with
  |true=>simp
  |false=>
   cases h3:(p.k.text.data.toList==[65,71,65,73,78])with
   |true=>simp
   |false=>simp
theorem aiX(hs:s.size<=4000)(h:Reader s ex d)(n:Nat)(hq:∀p,p.Ok s->Deep (d+1) p->(setOf p.k.text.data.toList).isSome=true->mV 275 [] s p (AY s ex n p))(ok:p.Ok s)(hd:Deep (d+1) p):
 mV 270 [] s p (sZ s ex n p):=by
 unfold sZ;split
 .rename_i h1;exact aiU hs ok h1
 rename_i k3;split
 .rename_i h1;exact aiY hs ok h1
 rename_i k4;split
 .rename_i h1;exact ai0 hs ok h1
 rename_i k2;have hp:Plain p:=⟨k3,k4,k2⟩;split
 .rename_i h1;refine aiZ hs ok hp ?_;cases ht:p.is [116,114,117,101]with
  |true=>exact jf rfl
  |false=>rw[ht]at h1;exact je ⟨rfl,by simpa using h1⟩
 rename_i h1;have t1:p.is [116,114,117,101]=false:=by
  cases ht:p.is [116,114,117,101]with
  |true=>rw[ht]at h1;simp at h1
  |false=>rfl
 have t2:p.is [102,97,108,115,101]=false:=by
  cases ht:p.is [102,97,108,115,101]with
  |true=>rw[ht]at h1;simp at h1
  |false=>rfl
 split
 .rename_i h2;exact aiV hp t1 t2 h2 (PN h.good ok hd).2 (ace hs h ok hd)
 rename_i h2;have t3:p.is [40]=false:=by simpa using h2
 split
 .rename_i h3;have g1:=nZ ok (oU (by simp) h3);exact aiT hs ok hp t1 t2 t3 h3 (PN h.good g1.ok (hd.good g1)).2 (ace hs h g1.ok (hd.good g1))
 rename_i h3;have t4:p.is [105,115,110,111,110,101]=false:=by simpa using h3
 split
 .rename_i h4;exact aiW hp t1 t2 t3 t4 (afQ.1 h4) (hq p ok hd h4)
 .rename_i h4;have h5:¬(p.is [82,79,65,68,83]=true\/(p.is [82,79,65,68,83]=false/\p.is [70,82,69,83,72]=true)\/(p.is [82,79,65,68,83]=false/\p.is [70,82,69,83,72]=false/\p.is [65,71,65,73,78]=true)):=λhh=>h4 (afQ.2 hh);refine ZR hp t1 t2 t3 t4 ?_ ?_ ?_
  .cases hx:p.is [82,79,65,68,83]<;>simp_all
  .cases hx:p.is [82,79,65,68,83]<;>cases hy:p.is [70,82,69,83,72]<;>simp_all
  .cases hx:p.is [82,79,65,68,83]<;>cases hy:p.is [70,82,69,83,72]<;>cases hz:p.is [65,71,65,73,78]<;>simp_all
def I8(b:Wd)(u:jm):jm:=.agg #[.string b.text,Im b.at',u]
theorem ajy(tmps:Array jm)(w:jk)(g:Nat)(b:Wd)(u:jm)(h2:tmps[2]? =some (Pt g 0))(h:w.heap[g]? =some (.cells #[.string b.text,Im b.at',u] 361)):
 (results Tryz.f257 tmps).run prog w=.ok (I8 b u) w:=by
 have q0:=jK 0 h rfl;have q1:=jK 1 h rfl;have q2:=jK 2 h rfl;simp[results,Tryz.results257,go_sem,h2,q0,q1,q2,I8]
def ahJ(s:ji)(p:Ps)(r:(Wd×Ex)×Ps):Prop:=
 ∀(P:Nat)(w:jk),jQ w P s p->Calls prog 257 #[Pt P 0] w λe w'=>∃u,e=.returned (I8 r.1.1 u)/\r.1.2.here r.1.2.at' w' w.heap.size w'.heap.size u/\jQ w' P s r.2/\w.grownBy w' (some P)
theorem aaf(hs:s.size<=4000)(h:Reader s ex d)(ok:p.Ok s)(hd:Deep (d+1) p):ahJ s p (qP s ex p):=by
 intro P w hp;have hlt:=hp.lt;have o1:=ok.jZ [40];have d1:=hd.jZ ok (t:=[40]) (by simp);have gn:=Ej o1;have ge:=yC gn.ok (t:=[58]) (by simp);have d2:=d1.good (gn.trans ge);obtain⟨g1,x1⟩:=h.good _ ge.ok d2;have ga:w.grownBy (w.alloc (.cells #[.string ⟨#[]⟩,Im 0,.nilIface] 361)) none:=ah w _ none;have hbox:(w.alloc (.cells #[.string ⟨#[]⟩,Im 0,.nilIface] 361)).heap[w.heap.size]? =some (.cells #[.string ⟨#[]⟩,Im 0,.nilIface] 361):=aY w _;have H0:=jA (Ny (hp.grow ga) ok hs [40]);have H1:=jA (λx (hx:jQ x P s (p.jZ s [40]))=>JH hx o1 hs);have H2:Hid (∀x,jQ x P s ((p.jZ s [40]).name s).2->Calls prog 239 #[Pt P 0,.string ⟨#[58]⟩] x (qO P s x (.tuple #[]) (((p.jZ s [40]).name s).2.expect s [58]))):=λx hx=>Ef hx gn.ok hs [58];have H3:=jA (λx (hx:jQ x P s (((p.jZ s [40]).name s).2.expect s [58]))=>h.reads _ ge.ok d2 P x hx);have H4:=jA (λx (hx:jQ x P s (ex (((p.jZ s [40]).name s).2.expect s [58])).2)=>LC hx g1.ok hs [41]);have hne:P≠w.heap.size:=by omega
 have HB:Hid (∀w1,(w.alloc (.cells #[.string ⟨#[]⟩,Im 0,.nilIface] 361)).grownBy w1 (some P)->w1.heap[w.heap.size]? =some (.cells #[.string ⟨#[]⟩,Im 0,.nilIface] 361)/\w.grownBy w1 (some P)):=λw1 hg=>
  ⟨(hg.block _ (lY hbox) (by simpa using Ne.symm hne)).trans hbox,(ga.but _).trans hg⟩
 show Calls prog 257 #[Pt P 0] w λe w'=>∃u,e=.returned (I8 ((p.jZ s [40]).name s).1 u)/\(ex (((p.jZ s [40]).name s).2.expect s [58])).1.here (ex (((p.jZ s [40]).name s).2.expect s [58])).1.at' w' w.heap.size w'.heap.size u/\jQ w' P s ((ex (((p.jZ s [40]).name s).2.expect s [58])).2.close s [41])/\w.grownBy w' (some P);generalize ex (((p.jZ s [40]).name s).2.expect s [58])=rr at *;generalize ((p.jZ s [40]).name s).2.expect s [58]=q3 at *;generalize (p.jZ s [40]).name s=dq at *;generalize p.jZ s [40]=q1 at *;generalize rr.2.close s [41]=q4 at *;obtain⟨⟨dt,da⟩,q2⟩:=dq;have H1:Hid (∀x,jQ x P s q1->Calls prog 232 #[Pt P 0] x (qO P s x (.agg #[.string dt,Im da]) q2)):=H1.out;have HX:=jA x1;simp only at H2⊢;clear hp o1 d1 gn ge d2 g1 x1 ok hd h ga hbox;go_enter func257,ntmps257;go_wp2_with fail;refine H0.out.mono ?_;rintro e w1 ⟨rfl,p1,k1⟩;have kJ:=jA (jd p1 k1);clear p1 k1 H0;go_wp2_with fail;refine(H1.out _ kJ.out.1).mono ?_;rintro e w2 ⟨rfl,p2,k2⟩;have HP2:Hid (jQ (w2.alloc (.cells #[.string dt,Im da] 316)) P s q2/\w1.grownBy (w2.alloc (.cells #[.string dt,Im da] 316)) (some P)/\(w2.alloc (.cells #[.string dt,Im da] 316)).heap[w2.heap.size]? =some (.cells #[.string dt,Im da] 316)/\w1.heap.size<=w2.heap.size):=⟨p2.grow (ah _ _ none),k2.trans ((ah _ _ none).but _),aY _ _,k2.size⟩;clear p2 k2 H1;go_wp2_with fail;refine(H2.out _ HP2.out.1).mono ?_;rintro e w3 ⟨rfl,p3,k3⟩;have lI:=jA (jd p3 k3);clear p3 k3 H2;go_wp2_with fail;refine(H3.out _ lI.out.1).mono ?_
 rintro e w4 ⟨v,rfl,e4,p4,k4⟩;obtain⟨T4,A4,hv4,_⟩:=HX.out.head _ _ _ _ _ e4;subst hv4;have nJ:=jA (jd e4 (jd p4 k4));clear e4 p4 k4 H3;go_wp2_with fail;refine(H4.out _ nJ.out.2.1).mono ?_;rintro e w5 ⟨rfl,p5,k5⟩;have HW:Hid (jQ w5 P s q4/\w.grownBy w5 (some P)/\w5.heap[w.heap.size]? =some (.cells #[.string ⟨#[]⟩,Im 0,.nilIface] 361)/\w5.heap[w2.heap.size]? =some (.cells #[.string dt,Im da] 316)/\rr.1.here rr.1.at' w5 w3.heap.size w5.heap.size (.iface T4 (Pt A4 0))/\w.heap.size<w3.heap.size/\w.heap.size≠w2.heap.size):=by
  have s1:=kJ.out.2.size;rw[nX]at s1;have s2:=HP2.out.2.1.size;have s2':=HP2.out.2.2.2;have s3:=lI.out.2.size;have s4:=nJ.out.2.2.size;have kA:=lI.out.2.trans (nJ.out.2.2.trans k5);obtain⟨b1,b2⟩:=HB.out w5 (kJ.out.2.trans (HP2.out.2.1.trans kA));refine⟨p5,b2,b1,(kA.block _ (lY HP2.out.2.2.1) (by simp;omega)).trans HP2.out.2.2.1,?_,by omega,by omega⟩;exact(HX.out.law _).wide _ _ _ _ _ _ (HX.out.keep nJ.out.1 (by omega) (aj _) k5) (aj _) k5.size
 obtain⟨x1,x2,x3,x4,x5,x6,x7⟩:=HW.out;have q0:=jK 0 x3 rfl;have q1':=jK 1 x3 rfl;have q2':=jK 2 x3 rfl;have rf:=qV x3;have y0:=jK 0 x4 rfl;have y1:=jK 1 x4 rfl;clear x1 x2 x3 x4 x5 p5 k5 H4 kJ HP2 lI nJ HB;go_wp2_with fail;obtain⟨x1,x2,x3,x4,x5,x6,x7⟩:=HW.out;have z3:=Il w5 w.heap.size _ _ _ _ (.string dt) (Im da) (.iface T4 (Pt A4 0)) x3;refine cu (ajy _ _ w.heap.size ⟨dt,da⟩ (.iface T4 (Pt A4 0)) rfl z3) rfl ⟨_,rfl,?_,((x1.Dz hne _ _).Dz hne _ _).Dz hne _ _,pK (pK (pK x2 (aj _) _ _) (aj _) _ _) (aj _) _ _⟩;have hsz:(((w5.setCell (Ad w.heap.size 0) (.string dt)).setCell (Ad w.heap.size 1) (Im da)).setCell (Ad w.heap.size 2) (.iface T4 (Pt A4 0))).heap.size=w5.heap.size:=by simp[World.setCell]
 rw[hsz];refine(HX.out.law _).wide _ _ _ _ _ _ ((HX.out.law _).loc _ _ _ _ _ x5 (λb b1 _=>?_)) (by omega) (aj _);rw[bC _ _ _ _ (by simp only;omega),bC _ _ _ _ (by simp only;omega),bC _ _ _ _ (by simp only;omega)]
end
section
variable {s:ji}{ex:Ps->Ex×Ps}{d:Nat}{p:Ps}{r:Ex×Ps}{x:Sx}
def CZ(fn:FuncId)(kind:Int)(s:ji)(x:Sx)(p:Ps)(r:Ex×Ps):Prop:=
 ∀(P:Nat)(w:jk)(lo:Nat)(u:jm),jQ w P s p->P<lo->oW x w lo w.heap.size u->lo<=w.heap.size->Calls prog fn #[Pt P 0,u,Im kind] w λen w'=>∃v,en=.returned v/\r.1.here r.1.at' w' lo w'.heap.size v/\jQ w' P s r.2/\w.grownBy w' (some P)
theorem wR{w:jk}{lo hi:Nat}{v:jm}(h:oW x w lo hi v):∃S fv,v=Pt S 0/\lo<=S/\S<hi/\w.heap[S]? =some (.cells #[Im x.at',Im x.jw,.string x.base,Im x.of,fv] 348):=by
 obtain⟨S,fv,h1,h2,h3,h4,_⟩:=h;exact⟨S,fv,h1,h2,h3,h4⟩
theorem pq.keep(h:pq x){w w':jk}{lo hi P:Nat}{v:jm}(hh:oW x w lo hi v)(hP:P<lo)(hi':hi<=w.heap.size)(hg:w.grownBy w' (some P)):oW x w' lo hi v:=
 h.law.loc _ _ _ _ _ hh λb b1 b2=>hg.block b (by omega) (by simp;omega)
theorem ZM(hs:s.size<=4000)(ok:p.Ok s)(hx:pq x)(kind:Int):CZ 277 kind s x p (Lf s x kind p):=by
 intro P w lo u h hlt hu hlo;have HN:Hid (Calls prog 236 #[Pt P 0] w (qO P s w (.agg #[Im p.k.kind,.string p.k.text,Im p.k.at']) (p.next s))):=xw h ok hs;obtain⟨S,fv,hu1,s1,s2,s3⟩:=wR hu;subst hu1;have HU:=jA (jd hu s3);have HX:Hid (pq x):=hx;have hft:=LQ p.k.kind p.k.at' p.k.text;have hcb:=hx.jw;show Calls prog 277 #[Pt P 0,Pt S 0,Im kind] w λen w'=>∃v,en=.returned v/\(rE 410 412 x.at' (jR [x.jw]) kind (og (oW x)) (λus=>.string p.k.text::us)).here x.at' w' lo w'.heap.size v/\jQ w' P s (p.next s)/\w.grownBy w' (some P);generalize p.next s=q at *;generalize p.k.kind=kk at *;generalize p.k.text=kt at *;generalize p.k.at'=ka at *;clear h hu s3 hx ok;go_enter func277,ntmps277;go_wp2_with fail;refine HN.out.mono ?_;rintro e w1 ⟨rfl,p1,q1⟩;have hS1:=(q1.block S s2 (by simp;omega)).trans HU.out.2;have c0:=jK 0 hS1 rfl;have c1:=jK 1 hS1 rfl;have auJ:=lY hS1;have n1:¬S=w1.heap.size:=by omega
 have n2:¬S=w1.heap.size+1:=by omega
 have n3:¬S=w1.heap.size+1+1:=by omega
 have DV:Hid (Calls prog 234 #[Im x.at',.slice (some (Ad w1.heap.size 0)) 1 1] (w1.alloc (.cells #[Im x.jw] 3)).drew λe w'=>e=.returned (.agg #[Im x.at',Im (jR [x.jw])])/\w'=((w1.alloc (.cells #[Im x.jw] 3)).drew.alloc (.cells #[Im x.at',Im (jR [x.jw])] 323)).alloc (.cells #[Im 1,Im (lu [x.jw])] 3)):=by
  refine JI x.at' _ [x.jw] ⟨by simpa using hcb,by simp,je ⟨_,_,rfl,λi y hy=>?_⟩⟩
  match i,hy with
  |0,hy=>
   cases hy;have hh:(w1.alloc (.cells #[Im x.jw] 3)).drew.heap[w1.heap.size]? =some (.cells #[Im x.jw] 3):=aY w1 _;exact jI hh
 have kJ:=jA (jd p1 q1);clear p1 q1 hS1 HN;generalize hxa:x.at'=xa at *;generalize hxc:x.jw=xc at *;have Sl:=jA (jd hxa hxc);clear hxa hxc;go_upto_region 2 with fail;go_cut [6] (λr wx=>r=.iface 410 (Pt (w1.heap.size+1+1+1) 0)/\wx.heap[w1.heap.size+1+1+1]? =some (.cells #[Im xa,Im (jR [xc]),Im kind,.string kt,Pt S 0] 412)/\w1.grownBy wx none)
 case first=>
  go_region_with (first|(go_at_call 244;refine(uh S 0 xc (by first|exact c1|(simp;exact c1))).mono ?_;rintro e w' ⟨rfl,rfl⟩)|(go_at_call 234;refine DV.out.mono ?_;rintro e w' ⟨rfl,rfl⟩));all_goals (go_wp2_with fail;go_meet;exact⟨rfl,(OW w1 _ _ _ _).1,(OW w1 _ _ _ _).2⟩)
 case rest=>
  obtain⟨rfl,h1,h2⟩:=hcut;have HF:=jA (jd h1 h2);clear h1 h2;go_wp2_with fail;go_ret;obtain⟨h1,h2⟩:=HF.out;obtain⟨e1,e2⟩:=Sl.out;rw[<-e1,<-e2]at h1;have s0:=kJ.out.2.size;have hs2:=HX.out.keep HU.out.1 hlt (aj _) (kJ.out.2.trans (h2.but _));exact⟨_,rfl,⟨_,_,rfl,by omega,lY h1,⟨_,rfl,HX.out.law.wide _ _ _ _ _ _ hs2 (aj _) (by omega)⟩,h1⟩,kJ.out.1.grow h2,kJ.out.2.trans (h2.but _)⟩
end
section
variable {w:jk}{x:Sx}
theorem atu(w:jk)(b cap:Nat)(xs:List Int)(hx:∀x∈xs,0<=x/\x<=100000000)(hn:xs.length<=1000000)(hc:∀(i:Nat)(x:Int),xs[i]? =some x->w.cell? (Ad b i)=some (Im x)):
 Calls prog 143 #[.slice (some (Ad b 0)) xs.length cap] w λe w'=>e=.returned (Im (lu xs))/\w'=w:=by
 have HR:Hid (lu xs=(xs.drop 0).foldl (λa c=>min (a+c) 1000001) 0):=rfl;generalize hr:lu xs=r at *;clear hr;go_enter func143,ntmps143;go_wp2;go_loop [3,5,8] (λa _ i=>∃(k:Nat)(z:Int),k<=xs.length/\0<=z/\z<=1000001/\a=Im z/\i=Im k/\Hid (r=(xs.drop k).foldl (λa c=>min (a+c) 1000001) z)) (λ_ _ i=>xs.length-(intOf i).toNat)
 case atStart=>exact⟨0,0,bD _,by omega,by omega,rfl,rfl,HR⟩
 case round=>
  obtain⟨k,z,hk,z0,z1,rfl,rfl,HK⟩:=hrel;clear HR;by_cases hlt:k<xs.length
  .have d1:decide ((k:Int)<(xs.length:Int))=true:=by simp;omega
   have i0:(0:Int)<=(k:Int):=by omega
   have i1:(k:Int)<(xs.length:Int):=by omega
   have hg:xs[k]? =some xs[k]:=bU hlt;have ck:=hc k _ hg;have hb:=hx _ (fG hlt);have HE:=HK.out;rw[agH xs k hlt]at HE;generalize xs[k]=x at *;have lT:Hid (∀y,y=min (z+x) 1000001->r=(xs.drop (k+1)).foldl (λa c=>min (a+c) 1000001) y):=λy hy=>by rw[hy];exact HE
   clear HK HE hg hc;generalize xs.length=n at *;go_wp2;all_goals (refine⟨⟨k+1,_,by omega,?_,?_,rfl,by go_num,lT.out _ (by omega)⟩,by simp[intOf];omega⟩)
   all_goals omega
  .have d1:decide ((k:Int)<(xs.length:Int))=false:=by simp;omega
   have e:r=z:=by rw[HK.out,fH (by omega)];rfl
   subst e;clear HK;go_wp2;go_ret;exact⟨rfl,rfl⟩
theorem asH{S:Nat}{of:Int}(h:w.cell? (Ad S 3)=some (Im of)):Calls prog 258 #[Pt S 0] w λe w'=>e=.returned (Im (if of=3 then 8 else 16))/\w'=w:=by
 by_cases hof:of=3
 .subst hof;go_enter func258,ntmps258;go_wp2;go_ret;exact⟨rfl,rfl⟩
 .have hb:(of==3)=false:=by simp[hof]
  rw[jg hof];go_enter func258,ntmps258;go_wp2;go_ret;exact⟨rfl,rfl⟩
theorem QJ{S:Nat}(h:w.cell? (Ad S 3)=some (Im x.of))(c:Int)(hc:0<=c/\c<=1000001):Calls prog 245 #[Pt S 0,Im c] w λe w'=>e=.returned (Im (x.round c))/\
 w'=(w.alloc (.cells #[Im 1,Im c] 3)).alloc (.cells #[Im ((if x.of=3 then 8 else 16) * lu [1,c])] 3):=by
 have hT:=yu [1,c] (by simp;omega);have HT1:Hid (Calls prog 143 #[.slice (some (Ad w.heap.size 0)) 2 2] (w.alloc (.cells #[Im 1,Im c] 3)) λe w'=>e=.returned (Im (lu [1,c]))/\w'=w.alloc (.cells #[Im 1,Im c] 3)):=
  NS (Iy w _ 1 c (by omega) (by omega) hc.1 hc.2)
 have HS:Hid (Calls prog 258 #[Pt S 0] w λe w'=>e=.returned (Im (if x.of=3 then 8 else 16))/\w'=w):=asH h;have hsz:(if x.of=3 then 8 else 16:Int)=8\/(if x.of=3 then 8 else 16:Int)=16:=by split;exact jf rfl;exact je rfl
 have hR:x.round c=lu [(if x.of=3 then 8 else 16) * lu [1,c]]:=rfl;rw[hR];generalize (if x.of=3 then 8 else 16:Int)=z at *;generalize lu [1,c]=t at *;have hz0:0<=z * t/\z * t<=100000000:=by rcases hsz with rfl|rfl<;>omega
 have HT2:Hid (∀y,y=z * t->Calls prog 143 #[.slice (some (Ad (w.heap.size+1) 0)) 1 1] ((w.alloc (.cells #[Im 1,Im c] 3)).alloc (.cells #[Im y] 3)) λe w'=>e=.returned (Im (lu [z * t]))/\w'=(w.alloc (.cells #[Im 1,Im c] 3)).alloc (.cells #[Im (z * t)] 3)):=λy hy=>by
  subst hy;refine atu _ (w.heap.size+1) 1 [z * t] (by simpa using hz0) (by simp) (λi y hy=>?_)
  match i,hy with
  |0,hy=>
   cases hy;have hh:((w.alloc (.cells #[Im 1,Im c] 3)).alloc (.cells #[Im (z * t)] 3)).heap[w.heap.size+1]? =some (.cells #[Im (z * t)] 3):=by
    rw[<-nX w (Obj.cells #[Im 1,Im c] 3)];exact aY _ _
   exact jI hh
 clear h hR;go_enter func245,ntmps245;go_wp2_with fail;refine HS.out.mono ?_;rintro e w1 ⟨rfl,hw1⟩;rw[hw1];clear hw1;go_wp2_with fail;refine HT1.out.mono ?_;rintro e w2 ⟨rfl,hw2⟩;rw[hw2];clear hw2;have hwr:wrap64 (z * t)=z * t:=by unfold wrap64;omega
 generalize hzt:z * t=zt at *;go_wp2_with fail;refine(HT2.out _ (by omega)).mono ?_;rintro e w3 ⟨rfl,hw3⟩;rw[hw3];go_wp2_with fail;go_ret;subst hzt;exact⟨rfl,rfl⟩
end
section
variable {s:ji}{ex:Ps->Ex×Ps}{d:Nat}{p:Ps}{r:Ex×Ps}{x:Sx}
def yM(s:ji)(p:Ps)(r:(Sx×Bool)×Ps):Prop:=
 ∀(P:Nat)(w:jk),jQ w P s p->Calls prog 243 #[Pt P 0] w λe w'=>∃u,e=.returned (.tuple #[u,.bool r.1.2])/\oW r.1.1 w' w.heap.size w'.heap.size u/\jQ w' P s r.2/\w.grownBy w' (some P)
theorem aqb{x:Sx}{q:Ps}(hset:yM s p ((x,true),q))(tp:q.is [99,111,117,110,116]=true)(hx:pq x)(hq:CZ 277 1 s x q r):mV 275 [] s p r:=by
 intro P w h;have hlt:=h.lt;have HS:=jA (hset P w h);have tp:=lN tp;have HX:=jA hx;have HQ:=jA (λ(y:jk)(u:jm)(h1:jQ y P s q)(h2:oW x y w.heap.size y.heap.size u)(h3:w.heap.size<=y.heap.size)=>hq P y w.heap.size u h1 hlt h2 h3);clear h hset hq hx;go_enter func275,ntmps275;go_wp2_with fail;refine HS.out.mono ?_;rintro e w1 ⟨u,rfl,e1,p1,g1⟩;obtain⟨S,fv,hu,s1,s2,s3⟩:=wR e1;subst hu;have c2:=kG.c2 p1;have c3:=jK 3 s3 rfl;have kJ:=jA (jd e1 (jd p1 g1));clear e1 p1 g1 s3 HS;go_wp2_with fail;refine(HQ.out _ _ kJ.out.2.1 kJ.out.1 kJ.out.2.2.size).mono ?_;rintro e w2 ⟨v,rfl,h1,h2,h3⟩;have HH:=jA (jd h1 (jd h2 (kJ.out.2.2.trans h3)));clear h1 h2 h3 HQ;go_wp2_with fail;go_ret;exact⟨_,rfl,HH.out⟩
theorem aqd{x:Sx}{q:Ps}(hset:yM s p ((x,true),q))(t0:q.is [99,111,117,110,116]=false)(tp:q.is [102,105,114,115,116]=true)(hx:pq x)(hq:CZ 277 x.of s x q r):mV 275 [] s p r:=by
 intro P w h;have hlt:=h.lt;have HS:=jA (hset P w h);have t0:=lN t0;have tp:=lN tp;have HX:=jA hx;have HQ:=jA (λ(y:jk)(u:jm)(h1:jQ y P s q)(h2:oW x y w.heap.size y.heap.size u)(h3:w.heap.size<=y.heap.size)=>hq P y w.heap.size u h1 hlt h2 h3);clear h hset hq hx;go_enter func275,ntmps275;go_wp2_with fail;refine HS.out.mono ?_;rintro e w1 ⟨u,rfl,e1,p1,g1⟩;obtain⟨S,fv,hu,s1,s2,s3⟩:=wR e1;subst hu;have c2:=kG.c2 p1;have c3:=jK 3 s3 rfl;have kJ:=jA (jd e1 (jd p1 g1));clear e1 p1 g1 s3 HS;go_wp2_with fail;refine(HQ.out _ _ kJ.out.2.1 kJ.out.1 kJ.out.2.2.size).mono ?_;rintro e w2 ⟨v,rfl,h1,h2,h3⟩;have HH:=jA (jd h1 (jd h2 (kJ.out.2.2.trans h3)));clear h1 h2 h3 HQ;go_wp2_with fail;go_ret;exact⟨_,rfl,HH.out⟩
theorem aqg{x:Sx}{q:Ps}(hset:yM s p ((x,true),q))(t0:q.is [99,111,117,110,116]=false)(t1:q.is [102,105,114,115,116]=false)(tp:q.is [109,105,110]=true)(hx:pq x)(hq:CZ 278 x.of s x q r):mV 275 [] s p r:=by
 intro P w h;have hlt:=h.lt;have HS:=jA (hset P w h);have t0:=lN t0;have t1:=lN t1;have tp:=lN tp;have HX:=jA hx;have HQ:=jA (λ(y:jk)(u:jm)(h1:jQ y P s q)(h2:oW x y w.heap.size y.heap.size u)(h3:w.heap.size<=y.heap.size)=>hq P y w.heap.size u h1 hlt h2 h3);clear h hset hq hx;go_enter func275,ntmps275;go_wp2_with fail;refine HS.out.mono ?_;rintro e w1 ⟨u,rfl,e1,p1,g1⟩;obtain⟨S,fv,hu,s1,s2,s3⟩:=wR e1;subst hu;have c2:=kG.c2 p1;have c3:=jK 3 s3 rfl;have kJ:=jA (jd e1 (jd p1 g1));clear e1 p1 g1 s3 HS;go_wp2_with fail;refine(HQ.out _ _ kJ.out.2.1 kJ.out.1 kJ.out.2.2.size).mono ?_;rintro e w2 ⟨v,rfl,h1,h2,h3⟩;have HH:=jA (jd h1 (jd h2 (kJ.out.2.2.trans h3)));clear h1 h2 h3 HQ;go_wp2_with fail;go_ret;exact⟨_,rfl,HH.out⟩
theorem aqf{x:Sx}{q:Ps}(hset:yM s p ((x,true),q))(t0:q.is [99,111,117,110,116]=false)(t1:q.is [102,105,114,115,116]=false)(t2:q.is [109,105,110]=false)(tp:q.is [109,97,120]=true)(hx:pq x)(hq:CZ 278 x.of s x q r):mV 275 [] s p r:=by
 intro P w h;have hlt:=h.lt;have HS:=jA (hset P w h);have t0:=lN t0;have t1:=lN t1;have t2:=lN t2;have tp:=lN tp;have HX:=jA hx;have HQ:=jA (λ(y:jk)(u:jm)(h1:jQ y P s q)(h2:oW x y w.heap.size y.heap.size u)(h3:w.heap.size<=y.heap.size)=>hq P y w.heap.size u h1 hlt h2 h3);clear h hset hq hx;go_enter func275,ntmps275;go_wp2_with fail;refine HS.out.mono ?_;rintro e w1 ⟨u,rfl,e1,p1,g1⟩;obtain⟨S,fv,hu,s1,s2,s3⟩:=wR e1;subst hu;have c2:=kG.c2 p1;have c3:=jK 3 s3 rfl;have kJ:=jA (jd e1 (jd p1 g1));clear e1 p1 g1 s3 HS;go_wp2_with fail;refine(HQ.out _ _ kJ.out.2.1 kJ.out.1 kJ.out.2.2.size).mono ?_;rintro e w2 ⟨v,rfl,h1,h2,h3⟩;have HH:=jA (jd h1 (jd h2 (kJ.out.2.2.trans h3)));clear h1 h2 h3 HQ;go_wp2_with fail;go_ret;exact⟨_,rfl,HH.out⟩
theorem aqk{x:Sx}{q:Ps}(hset:yM s p ((x,true),q))(t0:q.is [99,111,117,110,116]=false)(t1:q.is [102,105,114,115,116]=false)(t2:q.is [109,105,110]=false)(t3:q.is [109,97,120]=false)(tp:q.is [115,117,109]=true)(hx:pq x)(hq:CZ 278 1 s x q r):mV 275 [] s p r:=by
 intro P w h;have hlt:=h.lt;have HS:=jA (hset P w h);have t0:=lN t0;have t1:=lN t1;have t2:=lN t2;have t3:=lN t3;have tp:=lN tp;have HX:=jA hx;have HQ:=jA (λ(y:jk)(u:jm)(h1:jQ y P s q)(h2:oW x y w.heap.size y.heap.size u)(h3:w.heap.size<=y.heap.size)=>hq P y w.heap.size u h1 hlt h2 h3);clear h hset hq hx;go_enter func275,ntmps275;go_wp2_with fail;refine HS.out.mono ?_;rintro e w1 ⟨u,rfl,e1,p1,g1⟩;obtain⟨S,fv,hu,s1,s2,s3⟩:=wR e1;subst hu;have c2:=kG.c2 p1;have c3:=jK 3 s3 rfl;have kJ:=jA (jd e1 (jd p1 g1));clear e1 p1 g1 s3 HS;go_wp2_with fail;refine(HQ.out _ _ kJ.out.2.1 kJ.out.1 kJ.out.2.2.size).mono ?_;rintro e w2 ⟨v,rfl,h1,h2,h3⟩;have HH:=jA (jd h1 (jd h2 (kJ.out.2.2.trans h3)));clear h1 h2 h3 HQ;go_wp2_with fail;go_ret;exact⟨_,rfl,HH.out⟩
theorem aqa{x:Sx}{q:Ps}(hset:yM s p ((x,true),q))(t0:q.is [99,111,117,110,116]=false)(t1:q.is [102,105,114,115,116]=false)(t2:q.is [109,105,110]=false)(t3:q.is [109,97,120]=false)(t4:q.is [115,117,109]=false)(tp:q.is [97,110,121]=true)(hx:pq x)(hq:CZ 278 2 s x q r):mV 275 [] s p r:=by
 intro P w h;have hlt:=h.lt;have HS:=jA (hset P w h);have t0:=lN t0;have t1:=lN t1;have t2:=lN t2;have t3:=lN t3;have t4:=lN t4;have tp:=lN tp;have HX:=jA hx;have HQ:=jA (λ(y:jk)(u:jm)(h1:jQ y P s q)(h2:oW x y w.heap.size y.heap.size u)(h3:w.heap.size<=y.heap.size)=>hq P y w.heap.size u h1 hlt h2 h3);clear h hset hq hx;go_enter func275,ntmps275;go_wp2_with fail;refine HS.out.mono ?_;rintro e w1 ⟨u,rfl,e1,p1,g1⟩;obtain⟨S,fv,hu,s1,s2,s3⟩:=wR e1;subst hu;have c2:=kG.c2 p1;have c3:=jK 3 s3 rfl;have kJ:=jA (jd e1 (jd p1 g1));clear e1 p1 g1 s3 HS;go_wp2_with fail;refine(HQ.out _ _ kJ.out.2.1 kJ.out.1 kJ.out.2.2.size).mono ?_;rintro e w2 ⟨v,rfl,h1,h2,h3⟩;have HH:=jA (jd h1 (jd h2 (kJ.out.2.2.trans h3)));clear h1 h2 h3 HQ;go_wp2_with fail;go_ret;exact⟨_,rfl,HH.out⟩
theorem aqi{x:Sx}{q:Ps}(hset:yM s p ((x,true),q))(t0:q.is [99,111,117,110,116]=false)(t1:q.is [102,105,114,115,116]=false)(t2:q.is [109,105,110]=false)(t3:q.is [109,97,120]=false)(t4:q.is [115,117,109]=false)(t5:q.is [97,110,121]=false):mV 275 [] s p (rF,q.fail):=by
 intro P w h;have HS:=jA (hset P w h);have t0:=lN t0;have t1:=lN t1;have t2:=lN t2;have t3:=lN t3;have t4:=lN t4;have t5:=lN t5;clear h hset;go_enter func275,ntmps275;go_wp2_with fail;refine HS.out.mono ?_;rintro e w1 ⟨u,rfl,e1,p1,g1⟩;obtain⟨S,fv,hu,s1,s2,s3⟩:=wR e1;subst hu;have c2:=kG.c2 p1;have kJ:=jA (jd p1 g1);clear e1 p1 g1 s3 HS;go_wp2_with fail;refine(Eh kJ.out.1).mono ?_;rintro e w2 ⟨rfl,h2,h3⟩;have HH:=jA (jd h2 (kJ.out.2.trans h3));clear h2 h3 kJ;go_wp2_with fail;go_ret;exact⟨_,rfl,Jv HH.out.2.size 0 rfl,HH.out.1.grow (ah _ _ none),HH.out.2.trans ((ah _ _ none).but _)⟩
theorem aqh{x:Sx}{q:Ps}(hset:yM s p ((x,false),q)):mV 275 [] s p (rF,q.fail):=by
 intro P w h;have HS:=jA (hset P w h);clear h hset;go_enter func275,ntmps275;go_wp2_with fail;refine HS.out.mono ?_;rintro e w1 ⟨u,rfl,e1,p1,g1⟩;obtain⟨S,fv,hu,s1,s2,s3⟩:=wR e1;subst hu;have c2:=kG.c2 p1;have kJ:=jA (jd p1 g1);clear e1 p1 g1 s3 HS;go_wp2_with fail;refine(Eh kJ.out.1).mono ?_;rintro e w2 ⟨rfl,h2,h3⟩;have HH:=jA (jd h2 (kJ.out.2.trans h3));clear h2 h3 kJ;go_wp2_with fail;go_ret;exact⟨_,rfl,Jv HH.out.2.size 0 rfl,HH.out.1.grow (ah _ _ none),HH.out.2.trans ((ah _ _ none).but _)⟩
theorem aqj(hs:s.size<=4000)(h:Reader s ex d)(n:Nat)(hset:∀p,p.Ok s->Deep (d+1) p->yM s p (oD s ex n p))(hm:∀(x:Sx)(q:Ps)(kind:Int),q.Ok s->Deep (d+1) q->¬o9 q->pq x->CZ 278 kind s x q (FY s ex x kind q))
 (ok:p.Ok s)(hd:Deep (d+1) p):mV 275 [] s p (AY s ex n p):=by
 have h1:=hset p ok hd;obtain⟨g1,e1⟩:=QV h.good n ok hd;unfold AY;generalize oD s ex n p=sm at *;obtain⟨⟨x,b⟩,q⟩:=sm;simp only at g1 e1⊢;have Pn:=hd.good g1;cases b with
 |false=>exact aqh h1
 |true=>
  simp only[dM];unfold Ih;cases t0:q.is [99,111,117,110,116]with
  |true=>exact aqb h1 t0 e1 (ZM hs g1.ok e1 1)
  |false=>
  cases t1:q.is [102,105,114,115,116]with
  |true=>exact aqd h1 t0 t1 e1 (ZM hs g1.ok e1 x.of)
  |false=>
  cases t2:q.is [109,105,110]with
  |true=>exact aqg h1 t0 t1 t2 e1 (hm x q x.of g1.ok Pn (oU (by simp) t2) e1)
  |false=>
  cases t3:q.is [109,97,120]with
  |true=>exact aqf h1 t0 t1 t2 t3 e1 (hm x q x.of g1.ok Pn (oU (by simp) t3) e1)
  |false=>
  cases t4:q.is [115,117,109]with
  |true=>exact aqk h1 t0 t1 t2 t3 t4 e1 (hm x q 1 g1.ok Pn (oU (by simp) t4) e1)
  |false=>
  cases t5:q.is [97,110,121]with
  |true=>exact aqa h1 t0 t1 t2 t3 t4 t5 e1 (hm x q 2 g1.ok Pn (oU (by simp) t5) e1)
  |false=>exact aqi h1 t0 t1 t2 t3 t4 t5
end
end
namespace Hx
open Go.RowKit
structure jG where
 jw:Int
 here:sV
 does:Ds
def tC(g:Nat):List jG->jk->Nat->Nat->List jm->Prop
 |[],_,_,_,us=>us=[]
 |b::bs,w,lo,hi,us=>∃l m u us',us=u::us'/\lo<=l/\l<=m/\m<=hi/\(g<l\/m<=g)/\b.here w l m u/\tC g bs w m hi us'
def ac2(T:jo)(l:List jG):sV:=λw lo hi v=>
 (l=[]/\v=Nl)\/
 ∃g cap us arr,v=.slice (some (Ad g 0)) l.length cap/\lo<=g/\g<hi/\tC g l w lo hi us/\w.heap[g]? =some (.cells arr T)/\∀(j:Nat)(v:jm),us[j]? =some v->arr[j]? =some v
theorem J7{g:Nat}:∀{bs:List jG}{w w':jk}{lo hi:Nat}{us:List jm},(∀b∈bs,Lawful b.here)->tC g bs w lo hi us->(∀b,lo<=b->b<hi->w'.heap[b]? =w.heap[b]?)->tC g bs w' lo hi us
 |[],_,_,_,_,_,_,h,_=>h
 |b::bs,_,_,_,_,_,hl,⟨l,m,u,us',h0,h1,h2,h3,h4,h5,h6⟩,hk=>
  ⟨l,m,u,us',h0,h1,h2,h3,h4,(hl b (aW ..)).loc _ _ _ _ _ h5 (λk k1 k2=>hk k (by omega) (by omega)),J7 (λc hc=>hl c (aI _ hc)) h6 (λk k1 k2=>hk k (by omega) k2)⟩
theorem WV{g:Nat}:∀{bs:List jG}{w:jk}{lo hi hi':Nat}{us:List jm},tC g bs w lo hi us->hi<=hi'->tC g bs w lo hi' us
 |[],_,_,_,_,_,h,_=>h
 |_::_,_,_,_,_,_,⟨l,m,u,us',h0,h1,h2,h3,h4,h5,h6⟩,hh=>⟨l,m,u,us',h0,h1,h2,by omega,h4,h5,WV h6 hh⟩
theorem atf{g:Nat}{bs:List jG}{w:jk}{lo lo' hi:Nat}{us:List jm}(h:tC g bs w lo hi us)(hlo:lo'<=lo):tC g bs w lo' hi us:=by
 cases bs with
 |nil=>exact h
 |cons b bs=>
  obtain⟨l,m,u,us',h0,h1,h2,h3,h4,h5,h6⟩:=h;exact⟨l,m,u,us',h0,by omega,h2,h3,h4,h5,h6⟩
theorem agw{g:Nat}:∀{bs:List jG}{w:jk}{lo l m hi:Nat}{us:List jm}{b:jG}{u:jm},tC g bs w lo l us->b.here w l m u->lo<=l->l<=m->m<=hi->(g<l\/m<=g)->tC g (bs++[b]) w lo hi (us++[u])
 |[],_,_,l,m,_,us,b,u,h,hb,h1,h2,h3,hg=>by
  have h:=h;subst h;exact⟨l,m,u,[],rfl,h1,h2,h3,hg,hb,rfl⟩
 |_::_,_,_,_,_,_,_,_,u,⟨l',m',v,us',h0,h1,h2,h3,h4,h5,h6⟩,hb,k1,k2,k3,hg=>by
  subst h0;exact⟨l',m',v,us'++[u],rfl,h1,h2,by omega,h4,h5,agw h6 hb h3 k2 k3 hg⟩
theorem agv{g g':Nat}:∀{bs:List jG}{w:jk}{lo hi:Nat}{us:List jm},tC g bs w lo hi us->hi<=g'->tC g' bs w lo hi us
 |[],_,_,_,_,h,_=>h
 |_::_,_,_,_,_,⟨l,m,u,us',h0,h1,h2,h3,_,h5,h6⟩,hh=>⟨l,m,u,us',h0,h1,h2,h3,je (by omega),h5,agv h6 hh⟩
theorem Qa{T:jo}{l:List jG}(hl:∀b∈l,Lawful b.here):Lawful (ac2 T l):=by
 constructor
 .rintro w w' lo hi v (h|⟨g,cap,us,arr,h1,h2,h3,h4,h5,h6⟩) hk
  .exact jf h
  .exact je ⟨g,cap,us,arr,h1,h2,h3,J7 hl h4 hk,(hk g h2 h3).trans h5,h6⟩
 .rintro w lo hi lo' hi' v (h|⟨g,cap,us,arr,h1,h2,h3,h4,h5,h6⟩) l1 l2
  .exact jf h
  .exact je ⟨g,cap,us,arr,h1,by omega,by omega,WV (atf h4 l1) l2,h5,h6⟩
def qF(s:ji)(ex:Ps->Ex×Ps)(p:Ps):Ex×Ps:=((ex (p.expect s [61])).1,(ex (p.expect s [61])).2.expect s [59])
end Hx
section
open Go.RowKit Hx
attribute [local go_sem ↓] Go.wp_at_zero Go.wp_at_succ
attribute [local go_sem] kP
section
variable {s:ji}{ex:Ps->Ex×Ps}{d:Nat}{p:Ps}{r:Ex×Ps}
theorem Jj(h:qI s ex d)(ok:p.Ok s)(hd:Deep d p):mQ s p (qF s ex p).2/\kV (qF s ex p).1:=by
 have g1:=yC ok (t:=[61]) (by simp);obtain⟨g2,e2⟩:=h _ g1.ok (hd.good g1);have g3:=yC g2.ok (t:=[59]) (by simp);exact⟨(g1.trans g2).trans g3,e2⟩
theorem TU(hs:s.size<=4000)(h:Reader s ex d)(ok:p.Ok s)(hd:Deep d p):mV 233 [] s p (qF s ex p):=by
 intro P w hp;have hlt:=hp.lt;have g1:=yC ok (t:=[61]) (by simp);have d1:=hd.good g1;obtain⟨g2,x1⟩:=h.good _ g1.ok d1;have H0:=jA (Ef hp ok hs [61]);have H1:=jA (λx (hx:jQ x P s (p.expect s [61]))=>h.reads _ g1.ok d1 P x hx);have H2:=jA (λx (hx:jQ x P s (ex (p.expect s [61])).2)=>Ef hx g2.ok hs [59]);show Calls prog 233 #[Pt P 0] w λe w'=>∃v,e=.returned v/\(ex (p.expect s [61])).1.here (ex (p.expect s [61])).1.at' w' w.heap.size w'.heap.size v/\jQ w' P s ((ex (p.expect s [61])).2.expect s [59])/\w.grownBy w' (some P);generalize ex (p.expect s [61])=rr at *;generalize p.expect s [61]=q at *;generalize rr.2.expect s [59]=q2 at *;have HX:Hid (kV rr.1):=x1;clear hp d1 g1 g2 x1 ok hd h;go_enter func233,ntmps233;go_wp2_with fail;refine H0.out.mono ?_;rintro e w1 ⟨rfl,p1,k1⟩;have kJ:=jA (jd p1 k1);clear p1 k1 H0;go_wp2_with fail;refine(H1.out _ kJ.out.1).mono ?_;rintro e w2 ⟨v,rfl,e2,p2,k2⟩;have HP2:=jA (jd e2 (jd p2 k2));clear e2 p2 k2 H1;go_wp2_with fail;refine(H2.out _ HP2.out.2.1).mono ?_;rintro e w3 ⟨rfl,p3,k3⟩;have lI:=jA (jd p3 k3);clear p3 k3 H2;go_wp2_with fail;go_ret;obtain⟨a1,a2⟩:=kJ.out;obtain⟨b0,b1,b2⟩:=HP2.out;obtain⟨c1,c2⟩:=lI.out;have s1:=a2.size;have s3:=c2.size;exact⟨v,rfl,(HX.out.law _).wide _ _ _ _ _ _ (HX.out.keep b0 (by omega) (aj _) c2) s1 s3,c1,(a2.trans b2).trans c2⟩
end
end
namespace Hx
open Go.RowKit
def UU(E F G:sV):Kids:=λw lo hi us=>∃m k u v z,us=[u,v,z]/\lo<=m/\m<=k/\k<=hi/\E w lo m u/\F w m k v/\G w k hi z
theorem MP{E F G:sV}(h:Lawful E)(k:Lawful F)(g:Lawful G):yK (UU E F G):=
 ⟨λ_ _ _ _ _ ⟨m,n,u,v,z,e,h1,h2,h3,hu,hv,hz⟩ hk=>⟨m,n,u,v,z,e,h1,h2,h3,h.loc _ _ _ _ _ hu (λb b1 b2=>hk b b1 (by omega)),k.loc _ _ _ _ _ hv (λb b1 b2=>hk b (by omega) (by omega)),g.loc _ _ _ _ _ hz (λb b1 b2=>hk b (by omega) b2)⟩,
  λ_ _ _ _ _ _ ⟨m,n,u,v,z,e,h1,h2,h3,hu,hv,hz⟩ l1 l2=>⟨m,n,u,v,z,e,by omega,h2,by omega,h.wide _ _ _ _ _ _ hu l1 (aj _),hv,g.wide _ _ _ _ _ _ hz (aj _) l2⟩⟩
end Hx
section
open Go.RowKit Hx
section
def o7(T:jo):Prop:=T∈[331,321,327,333,336,339,349]
theorem o7.rZ{T:jo}(h:o7 T)(A:Nat)(w:jk):(method 576 T (Pt A 0) "helm/lang.price").run prog w=.ok (244,Pt A 0) w:=by
 simp only[o7,dh,dU,or_false]at h;rcases h with rfl|rfl|rfl|rfl|rfl|rfl|rfl<;>kernel_rfl
structure oI(e:jG):Prop where
 law:Lawful e.here
 head:∀w lo hi v,e.here w lo hi v->∃T b,v=.iface T (Pt b 0)/\o7 T/\lo<=b/\b<hi/\w.cell? (Ad b 1)=some (Im e.jw)
 jw:0<=e.jw/\e.jw<=1000001
def yF(T' T:jo)(at' jw:Int)(K:Hx.Kids)(mk:List jm->List jm)(ds:Ds:={}):jG:=
 ⟨jw,λw lo hi v=>∃b us,v=.iface T' (Pt b 0)/\lo<=b/\b<hi/\K w lo b us/\w.heap[b]? =some (.cells (Im at'::Im jw::mk us).toArray T),ds⟩
theorem uK{T' T:jo}{at' jw:Int}{K:Hx.Kids}{mk:List jm->List jm}{ds:Ds}(hT:o7 T')(hK:yK K)(hc:0<=jw/\jw<=1000001):oI (yF T' T at' jw K mk ds):=by
 refine⟨⟨?_,?_⟩,?_,hc⟩
 .rintro w w' lo hi v ⟨b,us,hv,h1,h2,h3,h4⟩ hk;exact⟨b,us,hv,h1,h2,hK.loc _ _ _ _ _ h3 (λb' b1 b2=>hk b' b1 (by omega)),(hk b h1 h2).trans h4⟩
 .rintro w lo hi lo' hi' v ⟨b,us,hv,h1,h2,h3,h4⟩ l1 l2;exact⟨b,us,hv,by omega,by omega,hK.wide _ _ _ _ _ _ h3 l1 (aj _),h4⟩
 .rintro w lo hi v ⟨b,us,hv,h1,h2,h3,h4⟩;exact⟨T',b,hv,hT,h1,h2,jI h4⟩
theorem JM{T' T:jo}{at' jw:Int}{K:Hx.Kids}{mk:List jm->List jm}{ds:Ds}(hK:yK K){w:jk}{lo:Nat}{us:List jm}(h:K w lo w.heap.size us)(hlo:lo<=w.heap.size){o:Obj}
 (ho:o=.cells (Im at'::Im jw::mk us).toArray T):(yF T' T at' jw K mk ds).here (w.alloc o) lo (w.alloc o).heap.size (.iface T' (Pt w.heap.size 0)):=by
 subst ho;exact⟨w.heap.size,us,rfl,hlo,by rw[nX];omega,hK.loc _ _ _ _ _ h (λb _ b2=>fP _ _ _ b2),aY _ _⟩
def mW(l:List jG):sV:=ac2 192 l
def sumOf(l:List jG):Int:=l.foldl (λa e=>lu [a,e.jw]) 0
theorem agx:∀(l:List jG)(a:Int),(∀e∈l,oI e)->0<=a/\a<=1000001->0<=l.foldl (λa e=>lu [a,e.jw]) a/\l.foldl (λa e=>lu [a,e.jw]) a<=1000001
 |[],_,_,h=>h
 |e::l,a,hl,h=>agx l _ (λx hx=>hl x (aI _ hx)) (yu _ (by have:=(hl e (aW ..)).jw;simp;omega))
theorem rH{l:List jG}(hl:∀e∈l,oI e):0<=sumOf l/\sumOf l<=1000001:=agx l 0 hl (by omega)
def qy(l:List jG)(c:Ck):Ck:=(l.foldl (λc s=>s.does.look c) c).cut c.jy.length
def kZ(l:List jG)(c:Co):Co:=((l.foldl (λc s=>s.does.lay c) c).cut c.jy.length).jX c.free
def Hx.jG.uG(s:jG):jG:={s with does:={lay:=s.does.fs.lay,fs:=s.does.fs}}
def kU:List jG->List jG
 |[]=>[]
 |s::l=>if s.does.fs.idle then kU l else if s.does.fs.ends then [s.uG]else s.uG::kU l
def uI(l:List jG):Bool:=match l.getLast? with
 |some s=>s.does.fs.ends
 |none=>false
def Qg(b:Wd)(e:Ex):Ds:=
 ⟨λc=>(e.does.look (c.nG b.text b.at')).add b.text (e.does.jW (c.nG b.text b.at').jy) true,
  λc=>
   let r:=e.does.give c (-1)
   ((if r.2=c.free then r.1 else r.1.lay 7 [c.free,r.2]).jX (wrap64 (c.free+1))).know b.text c.free,
  {lay:=λc=>
    let r:=e.does.fd.give c (-1)
    ((if r.2=c.free then r.1 else r.1.lay 7 [c.free,r.2]).jX (wrap64 (c.free+1))).know b.text c.free}⟩
def afU(b:Wd)(e:Ex):Ds:=
 ⟨λc=>
   let c1:=if (lJ c.jy b.text).isVar then c else c.fail 2 b.at'
   (e.does.look c1).want (e.does.jW c1.jy) e.at' (lJ c.jy b.text).kind,
  λc=>c.store (c.wu b.text) e.does,{lay:=λc=>c.store (c.wu b.text) e.does.fd.dn}⟩
def agp(i:Int)(e:Ex):Ds:=⟨λc=>(e.does.look c).want (e.does.jW c.jy) e.at' 1,λc=>c.store i e.does,{lay:=λc=>c.store i e.does.fd.dn}⟩
def VU(e f:Ex):Ds:=
 ⟨λc=>
   let c1:=(e.does.look c).want (e.does.jW c.jy) e.at' 3
   (f.does.look c1).want (f.does.jW c1.jy) f.at' 4,
  λc=>
   let r:=e.does.give c (-1)
   let q:=f.does.give r.1 (-1)
   (q.1.lay 36 [r.2,q.2]).jX c.free,
  {lay:=λc=>
    let r:=e.does.fd.give c (-1)
    let q:=f.does.fd.give r.1 (-1)
    (q.1.lay 36 [r.2,q.2]).jX c.free}⟩
def aq5:Ds:=⟨λc=>c,λc=>c.lay 1 [],{lay:=λc=>c.lay 1 [],ends:=true}⟩
def zI(e:Ex)(y n:List jG):Ds:=
 ⟨λc=>qy n (qy y ((e.does.look c).want (e.does.jW c.jy) e.at' 2)),
  λc=>
   let r:=e.does.give c (-1)
   let c1:=kZ y ((r.1.jX c.free).lay 2 [r.2])
   (if 0<n.length then kZ n (c1.lay 3 [])else c1).lay 0 [],
  if e.does.fd.known then
     let l:=if e.does.fd.val=0 then kU n else kU y
     {lay:=kZ l,idle:=decide (l.length=0),ends:=uI l}
   else
    {lay:=λc=>
      let r:=e.does.fd.give c (-1)
      let c1:=kZ (kU y) ((r.1.jX c.free).lay 2 [r.2])
      (if 0<(kU n).length then kZ (kU n) (c1.lay 3 [])else c1).lay 0 []
     idle:=decide ((kU y).length=0)&&decide ((kU n).length=0)
     ends:=uI (kU y)&&uI (kU n)}⟩
def Nh(b:Wd)(x:Sx)(l:List jG):Ds:=
 ⟨λc=>
   let c1:=oz x.of x.jE (c.nG b.text b.at')
   (qy l (c1.add b.text x.of false)).cut c1.jy.length,
  λc=>
   let f:=c.nk (jP x.base) x.jE
   (((kZ l ((f.1.lay 4 [jP x.base,f.2,f.2]).know b.text f.2)).lay 0 []).cut c.jy.length).jX c.free,
  {lay:=λc=>
    let f:=c.nk (jP x.base) x.fold
    (((kZ (kU l) ((f.1.lay 4 [jP x.base,f.2,f.2]).know b.text f.2)).lay 0 []).cut c.jy.length).jX c.free
   idle:=decide ((kU l).length=0)}⟩
def sJ(at':Int)(b:Wd)(e:Ex):jG:=yF 331 332 at' (jR [e.jw]) (og (e.here e.at')) (λus=>.string b.text::Im b.at'::us) (Qg b e)
def sO(b:Wd)(e:Ex):jG:=yF 321 326 b.at' (jR [e.jw]) (og (e.here e.at')) (λus=>.string b.text::Im b.at'::us) (afU b e)
def mY(at' i:Int)(e:Ex):jG:=yF 327 329 at' (jR [e.jw]) (og (e.here e.at')) (λus=>Im i::us) (agp i e)
def vg(at':Int)(e f:Ex):jG:=yF 333 335 at' (jR [e.jw,f.jw]) (xY (e.here e.at') (f.here f.at')) (λus=>us) (VU e f)
def yH(at':Int):jG:=yF 336 338 at' 1 y9 (λ_=>[]) aq5
def nY(at':Int)(e:Ex)(y n:List jG):jG:=yF 339 341 at' (jR [e.jw,sumOf y,sumOf n]) (UU (e.here e.at') (mW y) (mW n)) (λus=>us++[.bool false]) (zI e y n)
def sG(at':Int)(b:Wd)(x:Sx)(l:List jG):jG:=yF 349 351 at' (jR [x.jw,x.round (sumOf l)]) (xY (oW x) (mW l)) (λus=>.string b.text::Im b.at'::us) (Nh b x l)
namespace Hx
section
variable (s:ji)(ex:Ps->Ex×Ps)(jM:Ps->List jG×Ps)(st:Ps->Option jG×Ps)
def JC(p:Ps):jG×Ps:=
 let d:=(p.next s).name s
 (sJ p.k.at' d.1 (qF s ex d.2).1,(qF s ex d.2).2)
def J4(p:Ps):jG×Ps:=(sO (p.name s).1 (qF s ex (p.name s).2).1,(qF s ex (p.name s).2).2)
def Ir(p:Ps):jG×Ps:=(mY p.k.at' ((p.k.text.data.toList.getD 1 0).toNat-48) (qF s ex (p.next s)).1,(qF s ex (p.next s)).2)
def JX(ex':Ps->Ex×Ps)(p:Ps):jG×Ps:=
 let a:=ex' ((p.next s).jZ s [40])
 let b:=ex' (a.2.expect s [44])
 (vg p.k.at' a.1 b.1,(b.2.close s [41]).expect s [59])
def JZ(p:Ps):jG×Ps:=(yH p.k.at',(p.next s).expect s [59])
def yT(p:Ps):jG×Ps:=
 let c:=ex (p.next s)
 let y:=jM c.2
 if y.2.is [101,108,115,101]then (nY p.k.at' c.1 y.1 (jM (y.2.next s)).1,(jM (y.2.next s)).2)else (nY p.k.at' c.1 y.1 [],y.2)
def Hu(ex':Ps->Ex×Ps)(n:Nat)(p:Ps):jG×Ps:=
 let d:=(p.next s).name s
 let x:=oD s ex' n (d.2.expect s [105,110])
 let b:=jM (if x.1.2 then x.2.fail else x.2)
 (sG p.k.at' d.1 x.1.1 b.1,b.2)
def nD(ex':Ps->Ex×Ps)(n:Nat)(p:Ps):Option jG×Ps:=
 if p.k.kind=2 then (some (J4 s ex p).1,(J4 s ex p).2)
 else if p.k.kind=4 then (some (Ir s ex p).1,(Ir s ex p).2)
 else if p.is [118,97,114]then (some (JC s ex p).1,(JC s ex p).2)
 else if p.is [112,117,115,104]then (some (JX s ex' p).1,(JX s ex' p).2)
 else if p.is [114,101,116,117,114,110]then (some (JZ s p).1,(JZ s p).2)
 else if p.is [105,102]then (some (yT s ex jM p).1,(yT s ex jM p).2)
 else if p.is [101,97,99,104]then (some (Hu s jM ex' n p).1,(Hu s jM ex' n p).2)
 else (none,p)
def pX:Nat->List jG->Ps->List jG×Ps
 |0,l,p=>(l,p)
 |n+1,l,p=>match st p with
  |(some e,q)=>pX n (l++[e]) q
  |(none,q)=>(l,q)
def oJ(tu:Ps->List jG×Ps)(p:Ps):List jG×Ps:=((tu (p.jZ s [123])).1,(tu (p.jZ s [123])).2.close s [125])
end
def lZ(s:ji):Nat->Ps->List jG×Ps
 |0,p=>([],p)
 |d+1,p=>pX (nD s (kT s (d+1)) (oJ s (lZ s d)) (kT s d) (s.size+1)) (s.size+1) [] p
end Hx
end
section
variable {s:ji}{ex ex':Ps->Ex×Ps}{jM:Ps->List jG×Ps}{d:Nat}{p:Ps}
def DR(s:ji)(jM:Ps->List jG×Ps)(d:Nat):Prop:=∀p,p.Ok s->Deep d p->mQ s p (jM p).2/\∀e∈(jM p).1,oI e
structure Fg(s:ji)(p:Ps)(r:jG×Ps):Prop where
 goes:mQ s p r.2
 Ar:oI r.1
 more:p.k.at'+1<=r.2.k.at'
theorem uJ{l:List jG}(h:∀e∈l,oI e):Lawful (mW l):=Qa λb hb=>(h b hb).law
theorem Gh(ok:p.Ok s)(hz:1<=p.k.text.size){q:Ps}(h:mQ s (p.next s) q):p.k.at'+1<=q.k.at':=by
 have:=F6 ok;have:=h.mono;omega
theorem anW(h:qI s ex (d+1))(ok:p.Ok s)(hd:Deep (d+1) p)(ht:p.is [118,97,114]=true):Fg s p (JC s ex p):=by
 have g1:=nZ ok (oU (by simp) ht);have g2:=Ej g1.ok;obtain⟨g3,e3⟩:=Jj h g2.ok (hd.good (g1.trans g2));exact⟨(g1.trans g2).trans g3,uK (by simp[o7]) (qW (e3.law _)) (qj e3.jw),Gh ok (qQ (by simp) ht) (g2.trans g3)⟩
theorem asw(h:qI s ex (d+1))(ok:p.Ok s)(hd:Deep (d+1) p)(hk:p.k.kind=2):Fg s p (J4 s ex p):=by
 have e1:(p.name s).2=p.next s:=by unfold Hx.Ps.name;rw[jh hk]
 have g1:=nZ ok (H9 (by rw[hk];decide));obtain⟨g3,e3⟩:=Jj h g1.ok (hd.good g1);refine⟨?_,?_,?_⟩
 .show mQ s p (qF s ex (p.name s).2).2;rw[e1];exact g1.trans g3
 .show oI (sO _ (qF s ex (p.name s).2).1);rw[e1];exact uK (by simp[o7]) (qW (e3.law _)) (qj e3.jw)
 .show p.k.at'+1<=(qF s ex (p.name s).2).2.k.at';rw[e1];exact Gh ok (ok.kinds.name hk) g3
theorem atc(h:qI s ex (d+1))(ok:p.Ok s)(hd:Deep (d+1) p)(hk:p.k.kind=4):Fg s p (Ir s ex p):=by
 have g1:=nZ ok (H9 (by rw[hk];decide));obtain⟨g3,e3⟩:=Jj h g1.ok (hd.good g1);refine⟨g1.trans g3,uK (by simp[o7]) (qW (e3.law _)) (qj e3.jw),Gh ok ?_ g3⟩;obtain⟨x,hx,_⟩:=ok.kinds.register hk;exact J9 (by simp) hx
theorem apZ(h:qI s ex' d)(ok:p.Ok s)(hd:Deep (d+1) p)(ht:p.is [112,117,115,104]=true):Fg s p (JX s ex' p):=by
 have g1:=nZ ok (oU (by simp) ht);have d1:=(hd.good g1).jZ g1.ok (t:=[40]) (by simp);obtain⟨g2,e2⟩:=h _ (g1.ok.jZ [40]) d1;have g3:=yC g2.ok (t:=[44]) (by simp);obtain⟨g4,e4⟩:=h _ g3.ok (d1.good (g2.trans g3));have g5:=Jl g1.ok (t:=[40]) (u:=[41]) (by simp) (by simp) ((g2.trans g3).trans g4);have g6:=g5.trans (yC g5.ok (t:=[59]) (by simp));exact⟨g1.trans g6,uK (by simp[o7]) (wJ (e2.law _) (e4.law _)) (rG e2.jw e4.jw),Gh ok (qQ (by simp) ht) g6⟩
theorem ara(ok:p.Ok s)(ht:p.is [114,101,116,117,114,110]=true):Fg s p (JZ s p):=by
 have g1:=nZ ok (oU (by simp) ht);have g2:=yC g1.ok (t:=[59]) (by simp);exact⟨g1.trans g2,uK (by simp[o7]) Cc (by omega),Gh ok (qQ (by simp) ht) g2⟩
theorem Ib{a b c:Int}(h:0<=a/\a<=1000001)(k:0<=b/\b<=1000001)(l:0<=c/\c<=1000001):0<=jR [a,b,c]/\jR [a,b,c]<=1000001:=VL _ (by simp;exact⟨h,k,l⟩)
theorem ajJ(h:qI s ex (d+1))(hb:DR s jM (d+1))(ok:p.Ok s)(hd:Deep (d+1) p)(ht:p.is [105,102]=true):Fg s p (yT s ex jM p):=by
 have g1:=nZ ok (oU (by simp) ht);obtain⟨g2,e2⟩:=h _ g1.ok (hd.good g1);have g12:=g1.trans g2;obtain⟨g3,e3⟩:=hb _ g2.ok (hd.good g12);have Di:=g12.trans g3;unfold yT;simp only;split
 .rename_i hel;have g4:=nZ g3.ok (oU (by simp) hel);obtain⟨g5,e5⟩:=hb _ g4.ok (hd.good (Di.trans g4));exact⟨(Di.trans g4).trans g5,uK (by simp[o7]) (MP (e2.law _) (uJ e3) (uJ e5)) (Ib e2.jw (rH e3) (rH e5)),Gh ok (qQ (by simp) ht) ((g2.trans g3).trans (g4.trans g5))⟩
 .exact⟨Di,uK (by simp[o7]) (MP (e2.law _) (uJ e3) (uJ (by simp))) (Ib e2.jw (rH e3) (rH (by simp))),Gh ok (qQ (by simp) ht) (g2.trans g3)⟩
theorem ane(n:Nat)(h:qI s ex' d)(hb:DR s jM (d+1))(ok:p.Ok s)(hd:Deep (d+1) p)(ht:p.is [101,97,99,104]=true):Fg s p (Hu s jM ex' n p):=by
 have g1:=nZ ok (oU (by simp) ht);have g2:=Ej g1.ok;have g3:=yC g2.ok (t:=[105,110]) (by simp);have Di:=(g1.trans g2).trans g3;obtain⟨g4,e4⟩:=QV h n g3.ok (hd.good Di);have g5:mQ s (oD s ex' n (((p.next s).name s).2.expect s [105,110])).2 (if (oD s ex' n (((p.next s).name s).2.expect s [105,110])).1.2 then (oD s ex' n (((p.next s).name s).2.expect s [105,110])).2.fail else (oD s ex' n (((p.next s).name s).2.expect s [105,110])).2):=by
  split
  .exact Ei g4.ok
  .exact mQ.refl g4.ok
 obtain⟨g6,e6⟩:=hb _ g5.ok (hd.good ((Di.trans g4).trans g5));exact⟨((Di.trans g4).trans g5).trans g6,uK (by simp[o7]) (wJ e4.law (uJ e6)) (rG e4.jw (uo (rH e6))),Gh ok (qQ (by simp) ht) ((((g2.trans g3).trans g4).trans g5).trans g6)⟩
def Oa(s:ji)(st:Ps->Option jG×Ps)(d:Nat):Prop:=∀p,p.Ok s->Deep d p->(∃e q,st p=(some e,q)/\Fg s p (e,q))\/st p=(none,p)
theorem agf(n:Nat)(h:qI s ex (d+1))(h':qI s ex' d)(hb:DR s jM (d+1)):Oa s (nD s ex jM ex' n) (d+1):=by
 intro p ok hd;unfold nD;split
 .rename_i h1;exact jf ⟨_,_,rfl,asw h ok hd h1⟩
 split
 .rename_i h1;exact jf ⟨_,_,rfl,atc h ok hd h1⟩
 split
 .rename_i h1;exact jf ⟨_,_,rfl,anW h ok hd h1⟩
 split
 .rename_i h1;exact jf ⟨_,_,rfl,apZ h' ok hd h1⟩
 split
 .rename_i h1;exact jf ⟨_,_,rfl,ara ok h1⟩
 split
 .rename_i h1;exact jf ⟨_,_,rfl,ajJ h hb ok hd h1⟩
 split
 .rename_i h1;exact jf ⟨_,_,rfl,ane n h' hb ok hd h1⟩
 .exact je rfl
theorem af7{st:Ps->Option jG×Ps}(h:Oa s st d):∀(n:Nat)(l:List jG)(p:Ps),(∀e∈l,oI e)->p.Ok s->Deep d p->mQ s p (pX st n l p).2/\∀e∈(pX st n l p).1,oI e
 |0,l,p,hl,ok,_=>⟨mQ.refl ok,hl⟩
 |n+1,l,p,hl,ok,hd=>by
  unfold pX;rcases h p ok hd with⟨e,q,he,hg⟩|he
  .rw[he];obtain⟨g2,e2⟩:=af7 h n (l++[e]) q (λx hx=>by
    rcases List.mem_append.1 hx with hx|hx
    .exact hl x hx
    .rw[cO.1 hx];exact hg.Ar) hg.goes.ok (hd.good hg.goes)
   exact⟨hg.goes.trans g2,e2⟩
  .rw[he];exact⟨mQ.refl ok,hl⟩
theorem Z9{tu:Ps->List jG×Ps}(h:DR s tu d):DR s (oJ s tu) (d+1):=by
 intro p ok hd;obtain⟨h1,h2⟩:=h _ (ok.jZ [123]) (hd.jZ ok (by simp));exact⟨Jl ok (by simp) (by simp) h1,h2⟩
theorem Rf(s:ji):∀(d:Nat),DR s (lZ s d) d
 |0=>λ_ ok _=>⟨mQ.refl ok,by simp[lZ]⟩
 |d+1=>λp ok hd=>af7 (agf (s.size+1) (GV s (d+1)) (GV s d) (Z9 (Rf s d))) (s.size+1) [] p (by simp) ok hd
end
end
end Go.Proofs.YthllhabjfchgiaaGreatDoor
