import Derived.Test.YthllhabjfchgiaaGreatDoorHk31
set_option maxRecDepth 100000
set_option maxHeartbeats 8000000
set_option linter.unusedSimpArgs false
namespace Go.Proofs.YthllhabjfchgiaaGreatDoor
open _root_.Go.Proofs.Tryz
section
open Go.RowKit Hx
attribute [local go_sem ↓] Go.wp_at_zero Go.wp_at_succ
attribute [local go_sem] kP
section
variable {s:ji}{ex:Ps->Ex×Ps}{jM:Ps->List jG×Ps}{d:Nat}{p:Ps}
theorem P9{l:List jG}{w:jk}{lo hi:Nat}{v:jm}(h:mW l w lo hi v):∃a n c,v=.slice a n c:=by
 rcases h with⟨_,h⟩|⟨g,cap,us,arr,h,_⟩
 .exact⟨_,_,_,h⟩
 .exact⟨_,_,_,h⟩
theorem agG(w:jk)(T:jo)(a b c:Int)(ha:0<=a/\a<=1000001)(hb:0<=b/\b<=1000001)(hc:0<=c/\c<=1000001):CU (w.alloc (.cells #[Im a,Im b,Im c] T)) (.slice (some (Ad w.heap.size 0)) 3 3) [a,b,c]:=by
 refine⟨by simp;exact⟨ha,hb,hc⟩,by simp,je ⟨_,_,rfl,λi y hy=>?_⟩⟩
 match i,hy with
 |0,hy=>cases hy;exact jI (aY w _)
 |1,hy=>cases hy;exact jI (aY w _)
 |2,hy=>cases hy;exact jI (aY w _)
theorem amS{l:List jG}(hl:∀e∈l,oI e){w w':jk}{lo hi P:Nat}{v:jm}(hh:mW l w lo hi v)(hP:P<lo)(hi':hi<=w.heap.size)(hg:w.grownBy w' (some P)):mW l w' lo hi v:=
 (uJ hl).loc _ _ _ _ _ hh λb b1 b2=>hg.block b (by omega) (by simp;omega)
theorem amT(w:jk)(lo hi:Nat):mW [] w lo hi (Nl):=jf ⟨rfl,rfl⟩
def NU(e:Ex)(y n:List jG)(P:Nat)(s:ji)(q:Ps)(w w7:jk)(T1:jo)(A1:Nat)(vy vn:jm):Prop:=
 ∃m k,w.heap.size<=m/\m<=k/\k<=w7.heap.size/\e.here e.at' w7 w.heap.size m (.iface T1 (Pt A1 0))/\mW y w7 m k vy/\mW n w7 k w7.heap.size vn/\jQ w7 P s q/\w.grownBy w7 (some P)
theorem NU.done{ka:Int}{e:Ex}{y n:List jG}{P:Nat}{s:ji}{q:Ps}{w w7:jk}{T1:jo}{A1:Nat}{vy vn:jm}(h:NU e y n P s q w w7 T1 A1 vy vn)(he:kV e)(hy:∀x∈y,oI x)(hn:∀x∈n,oI x){w10:jk}(hg:w7.grownBy w10 none)(o o2:Obj)
 (ho:o2=Obj.cells #[Im ka,Im (jR [e.jw,sumOf y,sumOf n]),.iface T1 (Pt A1 0),vy,vn,.bool false] 341):
 (nY ka e y n).here ((w10.alloc o).alloc o2) w.heap.size ((w10.alloc o).alloc o2).heap.size (.iface 339 (Pt (w10.heap.size+1) 0))/\jQ ((w10.alloc o).alloc o2) P s q/\w.grownBy ((w10.alloc o).alloc o2) (some P):=by
 obtain⟨m,k,h1,h2,h3,k1,k2,k3,k4,k5⟩:=h;have gg:=hg.trans (ah w10 o none);have gf:=gg.trans (ah (w10.alloc o) o2 none);have sg:=gg.size;have ly:=uJ hy;have ln:=uJ hn;have hK:UU (e.here e.at') (mW y) (mW n) (w10.alloc o) w.heap.size (w10.alloc o).heap.size [.iface T1 (Pt A1 0),vy,vn]:=
  ⟨m,k,_,_,_,rfl,h1,h2,by omega,(he.law _).loc _ _ _ _ _ k1 (λb _ hb=>gg.block b (by omega) (by simp)),ly.loc _ _ _ _ _ k2 (λb _ hb=>gg.block b (by omega) (by simp)),ln.wide _ _ _ _ _ _ (ln.loc _ _ _ _ _ k3 (λb _ hb=>gg.block b hb (by simp))) (aj _) sg⟩
 have hn:=JM (ds:={}) (T':=339) (T:=341) (at':=ka) (jw:=jR [e.jw,sumOf y,sumOf n]) (mk:=λus=>us++[.bool false]) (MP (he.law _) ly ln) hK (by omega) ho;rw[nX w10 o]at hn;exact⟨hn,k4.grow gf,k5.trans (gf.but _)⟩
theorem ajK(hs:s.size<=4000)(h:Reader s ex (d+1))(hb:DR s jM (d+1))(hblk:∀p,p.Ok s->Deep (d+1) p->GK 241 s p (jM p))(hlen:∀p,(jM p).1.length<=1000000)(ok:p.Ok s)(hd:Deep (d+1) p)(ht:p.is [105,102]=true):uD 225 s p (yT s ex jM p):=by
 intro P w hp;have hlt:=hp.lt;have g1:=nZ ok (oU (by simp) ht);have d1:=hd.good g1;obtain⟨g2,x2⟩:=h.good _ g1.ok d1;have d2:=d1.good g2;obtain⟨g3,x3⟩:=hb _ g2.ok d2;have d3:=d2.good g3;have HN:Hid (Calls prog 236 #[Pt P 0] w (qO P s w (.agg #[Im p.k.kind,.string p.k.text,Im p.k.at']) (p.next s))):=xw hp ok hs;have H1:=jA (λx (hx:jQ x P s (p.next s))=>h.reads _ g1.ok d1 P x hx);have H2:=jA (λx (hx:jQ x P s (ex (p.next s)).2)=>hblk _ g2.ok d2 P x hx);have hfa:=LP p.k.kind p.k.at' p.k.text;have HX:=jA x2;have HY:Hid ((∀e∈(jM (ex (p.next s)).2).1,oI e)/\(jM (ex (p.next s)).2).1.length<=1000000):=⟨x3,hlen _⟩;have HE:Hid ((jM (ex (p.next s)).2).2.is [101,108,115,101]=true->(∀x,jQ x P s (jM (ex (p.next s)).2).2->Calls prog 236 #[Pt P 0] x (qO P s x (xJ (jM (ex (p.next s)).2).2.k) ((jM (ex (p.next s)).2).2.next s)))/\(∀x,jQ x P s ((jM (ex (p.next s)).2).2.next s)->Calls prog 241 #[Pt P 0] x λe w'=>∃v,e=.returned v/\mW (jM ((jM (ex (p.next s)).2).2.next s)).1 w' x.heap.size w'.heap.size v/\jQ w' P s (jM ((jM (ex (p.next s)).2).2.next s)).2/\x.grownBy w' (some P))/\(∀e∈(jM ((jM (ex (p.next s)).2).2.next s)).1,oI e)/\(jM ((jM (ex (p.next s)).2).2.next s)).1.length<=1000000):=λhel=>by
  have g4:=nZ g3.ok (oU (by simp) hel);exact⟨λx hx=>xw hx g3.ok hs,λx hx=>hblk _ g4.ok (d3.good g4) P x hx,(hb _ g4.ok (d3.good g4)).2,hlen _⟩
 have HM:Hid (yT s ex jM p=if (jM (ex (p.next s)).2).2.is [101,108,115,101]then (nY p.k.at' (ex (p.next s)).1 (jM (ex (p.next s)).2).1 (jM ((jM (ex (p.next s)).2).2.next s)).1,(jM ((jM (ex (p.next s)).2).2.next s)).2)else (nY p.k.at' (ex (p.next s)).1 (jM (ex (p.next s)).2).1 [],(jM (ex (p.next s)).2).2)):=rfl;generalize yT s ex jM p=R at *;generalize jM ((jM (ex (p.next s)).2).2.next s)=n2 at *;generalize jM (ex (p.next s)).2=y2 at *;generalize ex (p.next s)=c2 at *;generalize y2.2.next s=q4 at *;generalize p.next s=q at *;generalize p.k.kind=kk at *;generalize p.k.text=kt at *;generalize p.k.at'=ka at *;clear hp g1 d1 g2 x2 d2 g3 x3 d3 ok hd ht h hb hblk hlen;go_enter func225,ntmps225;go_wp2_with fail;refine HN.out.mono ?_;rintro e w1 ⟨rfl,p1,g1⟩;have kJ:=jA (jd p1 g1);clear p1 g1 HN;go_wp2_with fail;refine(H1.out _ kJ.out.1).mono ?_;rintro e w2 ⟨v1,rfl,e2,p2,g2⟩;obtain⟨T1,A1,hv1,hm1,a1,a2,a3⟩:=HX.out.rZ e2;subst hv1;have HP2:=jA (jd e2 (jd p2 g2));clear e2 p2 g2 H1;go_wp2_with fail;refine(H2.out _ HP2.out.2.1).mono ?_;rintro e w3 ⟨vy,rfl,e3,p3,g3⟩;obtain⟨ya,yn,yc,hvy⟩:=P9 e3;subst hvy;have lI:=jA (jd e3 (jd p3 g3));clear e3 p3 g3 H2;have HI:=jA (Ho lI.out.2.1 [101,108,115,101]);cases hel:y2.2.is [101,108,115,101]with
 |false=>
  have wX:Hid (R=(nY ka c2.1 y2.1 [],y2.2)):=by have:=HM.out;rw[hel]at this;exact this
  rw[hel]at HI;clear hel HM HE;go_wp2_with fail;refine HI.out.mono ?_;rintro e w4 ⟨rfl,hw4⟩;rw[hw4];clear hw4 HI;have HT:Hid (NU c2.1 y2.1 [] P s y2.2 w w3 T1 A1 (.slice ya yn yc) (Nl)):=by
   have s1:=kJ.out.2.size;have s2:=HP2.out.2.2.size;have s3:=lI.out.2.2.size;exact⟨w2.heap.size,w3.heap.size,by omega,s3,aj _,(HX.out.law _).wide _ _ _ _ _ _ (HX.out.keep HP2.out.1 (by omega) (aj _) lI.out.2.2) s1 (aj _),lI.out.1,amT _ _ _,lI.out.2.1,kJ.out.2.trans (HP2.out.2.2.trans lI.out.2.2)⟩
  have xO:Hid ((∀e∈([]:List jG),oI e)/\([]:List jG).length<=1000000):=⟨by simp,by simp⟩;generalize hnl:([]:List jG)=nl at *;clear hnl;generalize y2.2=qf at *;clear kJ HP2 lI;obtain⟨m,k,_,_,_,t1,t2,t3,_,_⟩:=HT.out;obtain⟨T1',A1',z1,_,_,_,b3⟩:=HX.out.rZ t1;cases z1;have Bz:=jA (uh A1 0 _ b3);have KP:=jA (λx (hx:w3.grownBy x none)=>Iw HY.out.1 HY.out.2 (Ic HY.out.1 ((uJ HY.out.1).loc _ _ _ _ _ t2 (λb _ hb=>hx.block b (by omega) (by simp)))));have KO:=jA (λx (hx:w3.grownBy x none)=>Iw xO.out.1 xO.out.2 (Ic xO.out.1 ((uJ xO.out.1).loc _ _ _ _ _ t3 (λb _ hb=>hx.block b (by omega) (by simp)))));clear t1 t2 t3 b3;go_wp2_with fail;refine Bz.out.mono ?_;rintro e w8 ⟨rfl,hw8⟩;rw[hw8];clear hw8 Bz;go_wp2_with fail;refine(KP.out _ (aN _ _)).mono ?_;rintro e w9 ⟨rfl,g9⟩;have zu:=jA g9;clear g9;go_wp2_with fail;refine(KO.out _ zu.out).mono ?_;rintro e w10 ⟨rfl,g10⟩;have Bo:=jA (zu.out.trans g10);clear g10 zu KP KO;go_wp2_with fail;refine(zS ka _ [c2.1.jw,sumOf y2.1,sumOf nl] (agG w10 _ _ _ _ HX.out.jw (rH HY.out.1) (rH xO.out.1))).mono ?_;rintro e w11 ⟨rfl,g11⟩;have RG:=jA (Bo.out.trans ((ah w10 _ none).trans g11));clear g11 Bo;go_wp2_with fail;go_ret;rw[wX.out];exact⟨_,rfl,HT.out.done HX.out HY.out.1 xO.out.1 RG.out _ _ rfl⟩
 |true=>
  obtain⟨hnx,hbk,hno,hnl⟩:=HE.out hel;have wX:Hid (R=(nY ka c2.1 y2.1 n2.1,n2.2)):=by have:=HM.out;rw[hel]at this;exact this
  have Zi:=jA hnx;have Kz:=jA hbk;have xO:=jA (jd hno hnl);rw[hel]at HI;clear hel HM HE hnx hbk hno hnl;generalize xJ y2.2.k=tv at *;go_wp2_with fail;refine HI.out.mono ?_;rintro e w4 ⟨rfl,hw4⟩;rw[hw4];clear hw4 HI;go_wp2_with fail;refine(Zi.out _ lI.out.2.1).mono ?_;rintro e w5 ⟨rfl,p5,g5⟩;have vG:=jA (jd p5 g5);clear p5 g5 Zi;go_wp2_with fail;refine(Kz.out _ vG.out.1).mono ?_;rintro e w6 ⟨vn,rfl,e6,p6,g6⟩;obtain⟨na,nn,nc,hvn⟩:=P9 e6;subst hvn;have HT:Hid (NU c2.1 y2.1 n2.1 P s n2.2 w w6 T1 A1 (.slice ya yn yc) (.slice na nn nc)):=by
   have s1:=kJ.out.2.size;have s2:=HP2.out.2.2.size;have s3:=lI.out.2.2.size;have s5:=vG.out.2.size;have s6:=g6.size;have GZ:=vG.out.2.trans g6;exact⟨w2.heap.size,w5.heap.size,by omega,by omega,s6,(HX.out.law _).wide _ _ _ _ _ _ (HX.out.keep HP2.out.1 (by omega) (aj _) (lI.out.2.2.trans GZ)) s1 (aj _),(uJ HY.out.1).wide _ _ _ _ _ _ (amS HY.out.1 lI.out.1 (by omega) (aj _) GZ) (aj _) s5,e6,p6,kJ.out.2.trans (HP2.out.2.2.trans (lI.out.2.2.trans GZ))⟩
  generalize n2.1=nl at *;generalize n2.2=qf at *;clear e6 p6 g6 Kz kJ HP2 lI vG;obtain⟨m,k,_,_,_,t1,t2,t3,_,_⟩:=HT.out;obtain⟨T1',A1',z1,_,_,_,b3⟩:=HX.out.rZ t1;cases z1;have Bz:=jA (uh A1 0 _ b3);have KP:=jA (λx (hx:w6.grownBy x none)=>Iw HY.out.1 HY.out.2 (Ic HY.out.1 ((uJ HY.out.1).loc _ _ _ _ _ t2 (λb _ hb=>hx.block b (by omega) (by simp)))));have KO:=jA (λx (hx:w6.grownBy x none)=>Iw xO.out.1 xO.out.2 (Ic xO.out.1 ((uJ xO.out.1).loc _ _ _ _ _ t3 (λb _ hb=>hx.block b (by omega) (by simp)))));clear t1 t2 t3 b3;go_wp2_with fail;refine Bz.out.mono ?_;rintro e w8 ⟨rfl,hw8⟩;rw[hw8];clear hw8 Bz;go_wp2_with fail;refine(KP.out _ (aN _ _)).mono ?_;rintro e w9 ⟨rfl,g9⟩;have zu:=jA g9;clear g9;go_wp2_with fail;refine(KO.out _ zu.out).mono ?_;rintro e w10 ⟨rfl,g10⟩;have Bo:=jA (zu.out.trans g10);clear g10 zu KP KO;go_wp2_with fail;refine(zS ka _ [c2.1.jw,sumOf y2.1,sumOf nl] (agG w10 _ _ _ _ HX.out.jw (rH HY.out.1) (rH xO.out.1))).mono ?_;rintro e w11 ⟨rfl,g11⟩;have RG:=jA (Bo.out.trans ((ah w10 _ none).trans g11));clear g11 Bo;go_wp2_with fail;go_ret;rw[wX.out];exact⟨_,rfl,HT.out.done HX.out HY.out.1 xO.out.1 RG.out _ _ rfl⟩
end
section
variable {s:ji}{ex ex':Ps->Ex×Ps}{jM:Ps->List jG×Ps}{d:Nat}{p:Ps}{r:jG×Ps}
def CY(s:ji)(p:Ps)(r:Option jG×Ps):Prop:=
 ∀(P:Nat)(w:jk),jQ w P s p->Calls prog 191 #[Pt P 0] w λe w'=>(∃v,e=.returned v/\(match r.1 with|some st=>st.here w' w.heap.size w'.heap.size v|none=>v=.nilIface))/\jQ w' P s r.2/\w.grownBy w' (some P)
theorem aoU(hk:p.k.kind=2)(hq:uD 220 s p r):CY s p (some r.1,r.2):=by
 intro P w h;have HQ:=jA (hq P w h);have c1:=kG.c1 h;have c2:=kG.c2 h;rw[hk]at c1;generalize p.k.kind=kk at *;generalize p.k.text=kt at *;clear h hq;go_enter func191,ntmps191;go_wp2_with fail;refine HQ.out.mono ?_;rintro e w2 ⟨v,rfl,h1,h2,h3⟩;have HH:=jA (jd h1 (jd h2 h3));clear h1 h2 h3 HQ;go_wp2_with fail;go_ret;exact⟨⟨_,rfl,HH.out.1⟩,HH.out.2⟩
theorem aoV(hk:p.k.kind=4)(hq:uD 221 s p r):CY s p (some r.1,r.2):=by
 intro P w h;have HQ:=jA (hq P w h);have c1:=kG.c1 h;have c2:=kG.c2 h;rw[hk]at c1;generalize p.k.kind=kk at *;generalize p.k.text=kt at *;clear h hq;go_enter func191,ntmps191;go_wp2_with fail;refine HQ.out.mono ?_;rintro e w2 ⟨v,rfl,h1,h2,h3⟩;have HH:=jA (jd h1 (jd h2 h3));clear h1 h2 h3 HQ;go_wp2_with fail;go_ret;exact⟨⟨_,rfl,HH.out.1⟩,HH.out.2⟩
theorem aoP(hk2:¬p.k.kind=2)(hk4:¬p.k.kind=4)(tp:p.is [118,97,114]=true)(hq:uD 222 s p r):CY s p (some r.1,r.2):=by
 intro P w h;have HQ:=jA (hq P w h);have c1:=kG.c1 h;have c2:=kG.c2 h;have n2:(p.k.kind==2)=false:=by simp[hk2]
 have n4:(p.k.kind==4)=false:=by simp[hk4]
 have tp:=lN tp;generalize p.k.kind=kk at *;generalize p.k.text=kt at *;clear h hq;go_enter func191,ntmps191;go_wp2_with fail;refine HQ.out.mono ?_;rintro e w2 ⟨v,rfl,h1,h2,h3⟩;have HH:=jA (jd h1 (jd h2 h3));clear h1 h2 h3 HQ;go_wp2_with fail;go_ret;exact⟨⟨_,rfl,HH.out.1⟩,HH.out.2⟩
theorem aoS(hk2:¬p.k.kind=2)(hk4:¬p.k.kind=4)(t0:p.is [118,97,114]=false)(tp:p.is [112,117,115,104]=true)(hq:uD 223 s p r):CY s p (some r.1,r.2):=by
 intro P w h;have HQ:=jA (hq P w h);have c1:=kG.c1 h;have c2:=kG.c2 h;have n2:(p.k.kind==2)=false:=by simp[hk2]
 have n4:(p.k.kind==4)=false:=by simp[hk4]
 have t0:=lN t0;have tp:=lN tp;generalize p.k.kind=kk at *;generalize p.k.text=kt at *;clear h hq;go_enter func191,ntmps191;go_wp2_with fail;refine HQ.out.mono ?_;rintro e w2 ⟨v,rfl,h1,h2,h3⟩;have HH:=jA (jd h1 (jd h2 h3));clear h1 h2 h3 HQ;go_wp2_with fail;go_ret;exact⟨⟨_,rfl,HH.out.1⟩,HH.out.2⟩
theorem aoT(hk2:¬p.k.kind=2)(hk4:¬p.k.kind=4)(t0:p.is [118,97,114]=false)(t1:p.is [112,117,115,104]=false)(tp:p.is [114,101,116,117,114,110]=true)(hq:uD 224 s p r):CY s p (some r.1,r.2):=by
 intro P w h;have HQ:=jA (hq P w h);have c1:=kG.c1 h;have c2:=kG.c2 h;have n2:(p.k.kind==2)=false:=by simp[hk2]
 have n4:(p.k.kind==4)=false:=by simp[hk4]
 have t0:=lN t0;have t1:=lN t1;have tp:=lN tp;generalize p.k.kind=kk at *;generalize p.k.text=kt at *;clear h hq;go_enter func191,ntmps191;go_wp2_with fail;refine HQ.out.mono ?_;rintro e w2 ⟨v,rfl,h1,h2,h3⟩;have HH:=jA (jd h1 (jd h2 h3));clear h1 h2 h3 HQ;go_wp2_with fail;go_ret;exact⟨⟨_,rfl,HH.out.1⟩,HH.out.2⟩
theorem aoM(hk2:¬p.k.kind=2)(hk4:¬p.k.kind=4)(t0:p.is [118,97,114]=false)(t1:p.is [112,117,115,104]=false)(t2:p.is [114,101,116,117,114,110]=false)(tp:p.is [105,102]=true)(hq:uD 225 s p r):CY s p (some r.1,r.2):=by
 intro P w h;have HQ:=jA (hq P w h);have c1:=kG.c1 h;have c2:=kG.c2 h;have n2:(p.k.kind==2)=false:=by simp[hk2]
 have n4:(p.k.kind==4)=false:=by simp[hk4]
 have t0:=lN t0;have t1:=lN t1;have t2:=lN t2;have tp:=lN tp;generalize p.k.kind=kk at *;generalize p.k.text=kt at *;clear h hq;go_enter func191,ntmps191;go_wp2_with fail;refine HQ.out.mono ?_;rintro e w2 ⟨v,rfl,h1,h2,h3⟩;have HH:=jA (jd h1 (jd h2 h3));clear h1 h2 h3 HQ;go_wp2_with fail;go_ret;exact⟨⟨_,rfl,HH.out.1⟩,HH.out.2⟩
theorem aoO(hk2:¬p.k.kind=2)(hk4:¬p.k.kind=4)(t0:p.is [118,97,114]=false)(t1:p.is [112,117,115,104]=false)(t2:p.is [114,101,116,117,114,110]=false)(t3:p.is [105,102]=false)(tp:p.is [101,97,99,104]=true)(hq:uD 226 s p r):CY s p (some r.1,r.2):=by
 intro P w h;have HQ:=jA (hq P w h);have c1:=kG.c1 h;have c2:=kG.c2 h;have n2:(p.k.kind==2)=false:=by simp[hk2]
 have n4:(p.k.kind==4)=false:=by simp[hk4]
 have t0:=lN t0;have t1:=lN t1;have t2:=lN t2;have t3:=lN t3;have tp:=lN tp;generalize p.k.kind=kk at *;generalize p.k.text=kt at *;clear h hq;go_enter func191,ntmps191;go_wp2_with fail;refine HQ.out.mono ?_;rintro e w2 ⟨v,rfl,h1,h2,h3⟩;have HH:=jA (jd h1 (jd h2 h3));clear h1 h2 h3 HQ;go_wp2_with fail;go_ret;exact⟨⟨_,rfl,HH.out.1⟩,HH.out.2⟩
theorem ad9(hk2:¬p.k.kind=2)(hk4:¬p.k.kind=4)(t0:p.is [118,97,114]=false)(t1:p.is [112,117,115,104]=false)(t2:p.is [114,101,116,117,114,110]=false)(t3:p.is [105,102]=false)(t4:p.is [101,97,99,104]=false):CY s p (none,p):=by
 intro P w h;have HH:Hid (jQ w P s p/\w.grownBy w (some P)):=⟨h,aN _ _⟩;have c1:=kG.c1 h;have c2:=kG.c2 h;have n2:(p.k.kind==2)=false:=by simp[hk2]
 have n4:(p.k.kind==4)=false:=by simp[hk4]
 have t0:=lN t0;have t1:=lN t1;have t2:=lN t2;have t3:=lN t3;have t4:=lN t4;clear h;go_enter func191,ntmps191;go_wp2_with fail;go_ret;exact⟨⟨_,rfl,rfl⟩,HH.out⟩
theorem asV(n:Nat)(h2:p.k.kind=2->uD 220 s p (J4 s ex p))(h4:p.k.kind=4->uD 221 s p (Ir s ex p))(hv:p.is [118,97,114]=true->uD 222 s p (JC s ex p))
 (hp:p.is [112,117,115,104]=true->uD 223 s p (JX s ex' p))(hr:p.is [114,101,116,117,114,110]=true->uD 224 s p (JZ s p))(hi:p.is [105,102]=true->uD 225 s p (yT s ex jM p))
 (he:p.is [101,97,99,104]=true->uD 226 s p (Hu s jM ex' n p)):CY s p (nD s ex jM ex' n p):=by
 unfold nD;split
 .rename_i k;exact aoU k (h2 k)
 rename_i k2;split
 .rename_i k;exact aoV k (h4 k)
 rename_i k4;cases t0:p.is [118,97,114]with
 |true=>exact aoP k2 k4 t0 (hv t0)
 |false=>
 cases t1:p.is [112,117,115,104]with
 |true=>exact aoS k2 k4 t0 t1 (hp t1)
 |false=>
 cases t2:p.is [114,101,116,117,114,110]with
 |true=>exact aoT k2 k4 t0 t1 t2 (hr t2)
 |false=>
 cases t3:p.is [105,102]with
 |true=>exact aoM k2 k4 t0 t1 t2 t3 (hi t3)
 |false=>
 cases t4:p.is [101,97,99,104]with
 |true=>exact aoO k2 k4 t0 t1 t2 t3 t4 (he t4)
 |false=>exact ad9 k2 k4 t0 t1 t2 t3 t4
end
section
variable {s:ji}{ex:Ps->Ex×Ps}{d:Nat}{p:Ps}
theorem abw{W y:jk}{o:Obj}(h:W.grownBy y none):W.grownBy (y.alloc o) none:=h.trans (ah y o none)
theorem abx{W y:jk}(h:W.grownBy y none):W.grownBy y.drew none:=h.trans ⟨rfl,rfl,rfl,aj _,λ_ _ _=>rfl⟩
theorem aby{W y:jk}{k:Nat}(h:W.grownBy y none):W.grownBy (y.drewN k) none:=h.trans (lK y k)
theorem anY(hs:s.size<=4000)(h:Reader s ex (d+1))(ok:p.Ok s)(hd:Deep (d+1) p)(ht:p.is [118,97,114]=true):uD 222 s p (JC s ex p):=by
 intro P w hp;have hlt:=hp.lt;have g1:=nZ ok (oU (by simp) ht);have gn:=Ej g1.ok;have dn:=hd.good (g1.trans gn);have HN:Hid (Calls prog 236 #[Pt P 0] w (qO P s w (.agg #[Im p.k.kind,.string p.k.text,Im p.k.at']) (p.next s))):=xw hp ok hs;have HM:=jA (λx (hx:jQ x P s (p.next s))=>JH hx g1.ok hs);have hfa:=LP p.k.kind p.k.at' p.k.text;obtain⟨g2,x2⟩:=Jj h.good gn.ok dn;have HG:=jA (λx (hx:jQ x P s ((p.next s).name s).2)=>TU hs h gn.ok dn P x hx);have HX:=jA x2;show Calls prog 222 #[Pt P 0] w λe w'=>∃v,e=.returned v/\(sJ p.k.at' ((p.next s).name s).1 (qF s ex ((p.next s).name s).2).1).here w' w.heap.size w'.heap.size v/\jQ w' P s (qF s ex ((p.next s).name s).2).2/\w.grownBy w' (some P);generalize qF s ex ((p.next s).name s).2=r at *;generalize (p.next s).name s=dq at *;obtain⟨⟨dt,da⟩,q2⟩:=dq;generalize p.next s=q1 at *;generalize p.k.kind=kk at *;generalize p.k.text=kt at *;generalize p.k.at'=ka at *;have HM:Hid (∀x,jQ x P s q1->Calls prog 232 #[Pt P 0] x (qO P s x (.agg #[.string dt,Im da]) q2)):=HM.out;simp only at HG⊢;clear hp gn dn g2 x2 ok hd h g1 ht;go_enter func222,ntmps222;go_wp2_with fail;refine HN.out.mono ?_;rintro e w1 ⟨rfl,p1,g1⟩;have kJ:=jA (jd p1 g1);clear p1 g1 HN;go_wp2_with fail;refine(HM.out _ kJ.out.1).mono ?_;rintro e w2 ⟨rfl,p2,g2⟩;have HP2:Hid (jQ (w2.alloc (.cells #[.string dt,Im da] 316)) P s q2/\w.grownBy w2 (some P)):=⟨p2.grow (ah _ _ none),kJ.out.2.trans g2⟩;clear p2 g2 HM kJ;go_wp2_with fail;refine(HG.out _ HP2.out.1).mono ?_
 rintro e W ⟨v,rfl,e2,p3,g3⟩;obtain⟨T,A,rfl,hmp,b1,b2,a1⟩:=HX.out.rZ e2;have hgb:=(g3.block _ (by rw[nX];omega) (by have:=HP2.out.2.size;simp;omega)).trans (aY _ _);have l3:=lY hgb;have g0:=jK 0 hgb rfl;have g1:=jK 1 hgb rfl;have Qx:w2.heap.size<W.heap.size+1:=by omega
 have pG2:w2.heap.size<W.heap.size+1+1:=by omega
 have pG3:w2.heap.size<W.heap.size+1+1+1:=by omega
 have rG2:w2.heap.size<W.heap.size+2:=by omega
 have rG3:w2.heap.size<W.heap.size+3:=by omega
 have OA:=jA (λy (hy:W.grownBy y none)=>hy.cell a1 (by simp));have lI:Hid (r.1.here r.1.at' W w.heap.size W.heap.size (.iface T (Pt A 0))/\jQ W P s r.2/\w.grownBy W (some P)):=by
  have s2:=HP2.out.2.size;have hw:=HP2.out.2.trans (((ah w2 (.cells #[.string dt,Im da] 316) none).but (some P)).trans g3);exact⟨(HX.out.law _).wide _ _ _ _ _ _ e2 (by rw[nX];omega) (aj _),p3,hw⟩
 have hcb:=HX.out.jw;have DV:Hid (Calls prog 234 #[Im ka,.slice (some (Ad W.heap.size 0)) 1 1] (W.alloc (.cells #[Im r.1.jw] 3)).drew λe w'=>e=.returned (.agg #[Im ka,Im (jR [r.1.jw])])/\w'=((W.alloc (.cells #[Im r.1.jw] 3)).drew.alloc (.cells #[Im ka,Im (jR [r.1.jw])] 323)).alloc (.cells #[Im 1,Im (lu [r.1.jw])] 3)):=by
  refine JI ka _ [r.1.jw] ⟨by simpa using hcb,by simp,je ⟨_,_,rfl,λi y hy=>?_⟩⟩
  match i,hy with
  |0,hy=>
   cases hy;have hh:(W.alloc (.cells #[Im r.1.jw] 3)).drew.heap[W.heap.size]? =some (.cells #[Im r.1.jw] 3):=aY W _;exact jI hh
 have HFin:Hid (∀a b c,(sJ ka ⟨dt,da⟩ r.1).here ((((W.alloc a).alloc b).alloc c).alloc (.cells #[Im ka,Im (jR [r.1.jw]),.string dt,Im da,.iface T (Pt A 0)] 332)).drew w.heap.size ((((W.alloc a).alloc b).alloc c).alloc (.cells #[Im ka,Im (jR [r.1.jw]),.string dt,Im da,.iface T (Pt A 0)] 332)).drew.heap.size (.iface 331 (Pt (W.heap.size+1+1+1) 0))/\jQ ((((W.alloc a).alloc b).alloc c).alloc (.cells #[Im ka,Im (jR [r.1.jw]),.string dt,Im da,.iface T (Pt A 0)] 332)).drew P s r.2/\w.grownBy ((((W.alloc a).alloc b).alloc c).alloc (.cells #[Im ka,Im (jR [r.1.jw]),.string dt,Im da,.iface T (Pt A 0)] 332)).drew (some P)):=λa b c=>by
  obtain⟨h1,h2⟩:=OW W a b c (.cells #[Im ka,Im (jR [r.1.jw]),.string dt,Im da,.iface T (Pt A 0)] 332);have s3:=lI.out.2.2.size;exact⟨⟨_,_,rfl,by omega,lY h1,⟨_,rfl,(HX.out.law _).wide _ _ _ _ _ _ ((HX.out.law _).loc _ _ _ _ _ lI.out.1 (λb _ hb=>h2.block b hb (by simp))) (aj _) (by omega)⟩,h1⟩,lI.out.2.1.grow h2,lI.out.2.2.trans (h2.but _)⟩
 clear hgb e2 p3 g3 HG b1 b2 a1 hcb;go_upto_region 4 with fail;go_region_with (first|(go_at_call 244;refine(uh A 0 r.1.jw (OA.out _ (by repeat (first|exact aN _ _|refine abw ?_|refine abx ?_|refine aby ?_)))).mono ?_;rintro e w' ⟨rfl,rfl⟩)|(go_at_call 234;refine DV.out.mono ?_;rintro e w' ⟨rfl,rfl⟩));all_goals
  go_wp2_with fail;go_ret;exact⟨_,rfl,HFin.out _ _ _⟩
theorem asy(hs:s.size<=4000)(h:Reader s ex (d+1))(ok:p.Ok s)(hd:Deep (d+1) p):uD 220 s p (J4 s ex p):=by
 intro P w hp;have hlt:=hp.lt;have gn:=Ej ok;have dn:=hd.good gn;have HM:=jA (λx (hx:jQ x P s p)=>JH hx ok hs);have Zk:=jA hp;obtain⟨g2,x2⟩:=Jj h.good gn.ok dn;have HG:Hid (∀x,jQ x P s (p.name s).2->Calls prog 233 #[Pt P 0] x λe w'=>∃v,e=.returned v/\(qF s ex (p.name s).2).1.here (qF s ex (p.name s).2).1.at' w' x.heap.size w'.heap.size v/\jQ w' P s (qF s ex (p.name s).2).2/\x.grownBy w' (some P)):=λx hx=>TU hs h gn.ok dn P x hx;have HX:=jA x2;show Calls prog 220 #[Pt P 0] w λe w'=>∃v,e=.returned v/\(sO (p.name s).1 (qF s ex (p.name s).2).1).here w' w.heap.size w'.heap.size v/\jQ w' P s (qF s ex (p.name s).2).2/\w.grownBy w' (some P);generalize qF s ex (p.name s).2=r at *;generalize p.name s=dq at *;obtain⟨⟨dt,da⟩,q2⟩:=dq;have HM:Hid (∀x,jQ x P s p->Calls prog 232 #[Pt P 0] x (qO P s x (.agg #[.string dt,Im da]) q2)):=HM.out;simp only at HG⊢;clear hp gn dn g2 x2 ok hd h;go_enter func220,ntmps220;go_wp2_with fail;refine(HM.out _ Zk.out).mono ?_;rintro e w2 ⟨rfl,p2,g2⟩;have HP2:Hid (jQ (w2.alloc (.cells #[.string dt,Im da] 316)) P s q2/\w.grownBy w2 (some P)):=⟨p2.grow (ah _ _ none),g2⟩;clear p2 g2 HM Zk;go_wp2_with fail;refine(HG.out _ HP2.out.1).mono ?_;rintro e W ⟨v,rfl,e2,p3,g3⟩;obtain⟨T,A,rfl,hmp,b1,b2,a1⟩:=HX.out.rZ e2;have hgb:=(g3.block _ (by rw[nX];omega) (by have:=HP2.out.2.size;simp;omega)).trans (aY _ _);have l3:=lY hgb;have g0:=jK 0 hgb rfl;have g1:=jK 1 hgb rfl;have Qx:w2.heap.size<W.heap.size+1:=by omega
 have pG2:w2.heap.size<W.heap.size+1+1:=by omega
 have pG3:w2.heap.size<W.heap.size+1+1+1:=by omega
 have rG2:w2.heap.size<W.heap.size+2:=by omega
 have rG3:w2.heap.size<W.heap.size+3:=by omega
 have OA:=jA (λy (hy:W.grownBy y none)=>hy.cell a1 (by simp));have lI:Hid (r.1.here r.1.at' W w.heap.size W.heap.size (.iface T (Pt A 0))/\jQ W P s r.2/\w.grownBy W (some P)):=by
  have s2:=HP2.out.2.size;have hw:=HP2.out.2.trans (((ah w2 (.cells #[.string dt,Im da] 316) none).but (some P)).trans g3);exact⟨(HX.out.law _).wide _ _ _ _ _ _ e2 (by rw[nX];omega) (aj _),p3,hw⟩
 have hcb:=HX.out.jw;have DV:Hid (Calls prog 234 #[Im da,.slice (some (Ad W.heap.size 0)) 1 1] (W.alloc (.cells #[Im r.1.jw] 3)).drew λe w'=>e=.returned (.agg #[Im da,Im (jR [r.1.jw])])/\w'=((W.alloc (.cells #[Im r.1.jw] 3)).drew.alloc (.cells #[Im da,Im (jR [r.1.jw])] 323)).alloc (.cells #[Im 1,Im (lu [r.1.jw])] 3)):=by
  refine JI da _ [r.1.jw] ⟨by simpa using hcb,by simp,je ⟨_,_,rfl,λi y hy=>?_⟩⟩
  match i,hy with
  |0,hy=>
   cases hy;have hh:(W.alloc (.cells #[Im r.1.jw] 3)).drew.heap[W.heap.size]? =some (.cells #[Im r.1.jw] 3):=aY W _;exact jI hh
 have HFin:Hid (∀a b c,(sO ⟨dt,da⟩ r.1).here ((((W.alloc a).alloc b).alloc c).alloc (.cells #[Im da,Im (jR [r.1.jw]),.string dt,Im da,.iface T (Pt A 0)] 326)).drew w.heap.size ((((W.alloc a).alloc b).alloc c).alloc (.cells #[Im da,Im (jR [r.1.jw]),.string dt,Im da,.iface T (Pt A 0)] 326)).drew.heap.size (.iface 321 (Pt (W.heap.size+1+1+1) 0))/\jQ ((((W.alloc a).alloc b).alloc c).alloc (.cells #[Im da,Im (jR [r.1.jw]),.string dt,Im da,.iface T (Pt A 0)] 326)).drew P s r.2/\w.grownBy ((((W.alloc a).alloc b).alloc c).alloc (.cells #[Im da,Im (jR [r.1.jw]),.string dt,Im da,.iface T (Pt A 0)] 326)).drew (some P)):=λa b c=>by
  obtain⟨h1,h2⟩:=OW W a b c (.cells #[Im da,Im (jR [r.1.jw]),.string dt,Im da,.iface T (Pt A 0)] 326);have s3:=lI.out.2.2.size;exact⟨⟨_,_,rfl,by omega,lY h1,⟨_,rfl,(HX.out.law _).wide _ _ _ _ _ _ ((HX.out.law _).loc _ _ _ _ _ lI.out.1 (λb _ hb=>h2.block b hb (by simp))) (aj _) (by omega)⟩,h1⟩,lI.out.2.1.grow h2,lI.out.2.2.trans (h2.but _)⟩
 clear hgb e2 p3 g3 HG b1 b2 a1 hcb;go_upto_region 3 with fail;go_region_with (first|(go_at_call 244;refine(uh A 0 r.1.jw (OA.out _ (by repeat (first|exact aN _ _|refine abw ?_|refine abx ?_|refine aby ?_)))).mono ?_;rintro e w' ⟨rfl,rfl⟩)|(go_at_call 234;refine DV.out.mono ?_;rintro e w' ⟨rfl,rfl⟩));all_goals
  go_wp2_with fail;go_ret;exact⟨_,rfl,HFin.out _ _ _⟩
end
end
section
open Go.RowKit Hx
theorem af8(st:Ps->Option jG×Ps):∀(n:Nat)(l:List jG)(p:Ps),(pX st n l p).1.length<=l.length+n
 |0,l,_=>aj _
 |n+1,l,p=>by
  unfold pX;split
  .rename_i e q _;have:=af8 st n (l++[e]) q;simp only[aA,aF,bg]at this;omega
  .simp only;omega
theorem agi(s:ji):∀(d:Nat)(p:Ps),(lZ s d p).1.length<=s.size+1
 |0,_=>by simp[lZ]
 |d+1,p=>by
  have:=af8 (nD s (kT s (d+1)) (oJ s (lZ s d)) (kT s d) (s.size+1)) (s.size+1) [] p;simpa [lZ]using this
theorem ajn(s:ji)(d:Nat)(p:Ps):(oJ s (lZ s d) p).1.length<=s.size+1:=agi s d _
theorem agu{g:Nat}:∀{bs:List jG}{w w':jk}{lo hi:Nat}{us:List jm},(∀b∈bs,Lawful b.here)->tC g bs w lo hi us->(∀b,lo<=b->b<hi->b≠g->w'.heap[b]? =w.heap[b]?)->tC g bs w' lo hi us
 |[],_,_,_,_,_,_,h,_=>h
 |b::bs,_,_,_,_,_,hl,⟨l,m,u,us',h0,h1,h2,h3,h4,h5,h6⟩,hk=>
  ⟨l,m,u,us',h0,h1,h2,h3,h4,(hl b (aW ..)).loc _ _ _ _ _ h5 (λk k1 k2=>hk k (by omega) (by omega) (by omega)),agu (λc hc=>hl c (aI _ hc)) h6 (λk k1 k2 k3=>hk k (by omega) k2 k3)⟩
theorem amU{l:List jG}{w:jk}{B g lo hi:Nat}{v:jm}{us:List jm}(ho:w.ownsRow B 192 1 v l.length us)(hg:v.ownBlock=some g\/l=[])(hs:tC g l w lo hi us)(hlo:lo<=B)(hhi:w.heap.size<=hi):mW l w lo hi v:=by
 rcases ho with⟨h1,⟨h2,h3⟩|⟨g',cap,cur,h2,h3,h4,h5,h6,h7,h8⟩⟩
 .exact jf ⟨List.length_eq_zero_iff.1 h3,h2⟩
 .rcases hg with hg|hg
  .subst h2;simp only[Value.ownBlock,bJ]at hg;subst hg;refine je ⟨g',cap,us,cur,rfl,by omega,by have:=lY h4;omega,hs,h4,λj u hj=>?_⟩;rw[<-h8]at hj;rw[iW]at hj;split at hj
   .simpa using hj
   .cases hj
  .subst hg;have hs:us=[]:=hs;subst hs;subst h2;refine je ⟨g',cap,[],cur,rfl,by omega,by have:=lY h4;omega,rfl,h4,λj u hj=>by simp at hj⟩
end
section
open Go.RowKit Hx
attribute [local go_sem ↓] Go.wp_at_zero Go.wp_at_succ
attribute [local go_sem] kP
section
variable {s:ji}{st:Ps->Option jG×Ps}{d:Nat}{p:Ps}
def asN(st:Ps->Option jG×Ps)(gg:Nat)(l:List jG)(q:Ps):Option jG->List jG×Ps
 |some e=>pX st gg (l++[e]) q
 |none=>(l,q)
structure Fe(s:ji)(st:Ps->Option jG×Ps)(d:Nat)(R:List jG×Ps)(P:Nat)(w wr:jk)(vl vc:jm)(gg:Nat)(g:Nat)(l:List jG)(us:List jm)(cur:Option jG)(q:Ps)(m:Nat):Prop where
 tu:tC g l wr w.heap.size m us
 own:wr.ownsRow w.heap.size 192 1 vl l.length us
 jM:(vl.ownBlock=some g/\g<m)\/(l=[]/\vl=Nl)
 FZ:w.heap.size<=m
 Ey:m<=wr.heap.size
 here:∀e,cur=some e->e.here wr m wr.heap.size vc/\oI e/\(s.size:Int)+1-q.k.at'<=gg
 nil:cur=none->vc=.nilIface
 pr:jQ wr P s q
 grown:w.grownBy wr (some P)
 ok:q.Ok s
 deep:Deep d q
 Ar:∀e∈l,oI e
 len:l.length+gg<=100000
 eq:asN st gg l q cur=R
theorem VK{w:jk}{B n:Nat}{v:jm}{us:List jm}(h:w.ownsRow B 192 1 v n us):∃a c,v=.slice a n c:=by
 rcases h with⟨_,⟨h2,h3⟩|⟨g,cap,cur,h2,_⟩⟩
 .subst h3;exact⟨_,_,h2⟩
 .exact⟨_,_,h2⟩
variable {R:List jG×Ps}{P:Nat}{w wr w2 w3:jk}{la:Option Addr}{lc ln gk g m gg cap:Nat}{l:List jG}{us:List jm}{vc:jm}{e:jG}{q:Ps}{o:Obj}
theorem Fe.abv(h:Fe s st d R P w wr (.slice la ln lc) vc gk g l us (some e) q m)(hgr:(wr.alloc o).grownBy w2 (Value.slice la ln lc).ownBlock)(hP:P<w.heap.size):
 (∀b,b<wr.heap.size->(b≠g\/m<=b)->w2.heap[b]? =wr.heap[b]?)/\jQ w2 P s q/\w.grownBy w2 (some P)/\wr.heap.size<w2.heap.size:=by
 have Dl:=(ah wr o _).trans hgr;have hs1:=hgr.size;rw[nX]at hs1;have hg0:=h.grown.size;rcases h.jM with⟨h1,h2⟩|⟨h1,h2⟩
 .rw[h1]at Dl;have hgB:w.heap.size<=g:=by
   rcases h.own with⟨_,⟨k2,k3⟩|⟨g',cap',cur',k2,k3,_⟩⟩
   .rw[k2]at h1;cases h1
   .rw[k2]at h1;simp only[Value.ownBlock,bJ]at h1;omega
  exact⟨λb hb hb2=>Dl.block b hb (by simp;omega),kG.pF h.pr Dl (by omega),h.grown.andThen Dl (λj ej=>by cases ej;exact jf hgB),by omega⟩
 .rw[h2]at Dl;have Dl:wr.grownBy w2 none:=Dl;exact⟨λb hb _=>Dl.block b hb (by simp),h.pr.grow Dl,h.grown.trans (Dl.but _),by omega⟩
theorem Fe.next(h:Fe s st d R P w wr (.slice la ln lc) vc gk g l us (some e) q m)(hst:Oa s st d)(hP:P<w.heap.size)(hln:l.length=ln)(hgr:(wr.alloc o).grownBy w2 (Value.slice la ln lc).ownBlock)
 (hown:w2.ownsRow w.heap.size 192 1 (.slice (some (Ad gg 0)) (ln+1) cap) (ln+1) (us++[vc]))(hat:(Value.slice la ln lc).ownBlock=some gg\/gg=wr.heap.size+1)(hlt2:gg<w2.heap.size)
 {v3:jm}(hv:match (st q).1 with|some st=>st.here w3 w2.heap.size w3.heap.size v3|none=>v3=.nilIface)(p3:jQ w3 P s (st q).2)(g3:w2.grownBy w3 (some P)):
 ∃g',gk=g'+1/\Fe s st d R P w w3 (.slice (some (Ad gg 0)) (ln+1) cap) v3 g' gg (l++[e]) (us++[vc]) (st q).1 (st q).2 w2.heap.size:=by
 obtain⟨eh,eo,ef⟩:=h.here e rfl;obtain⟨n1,n2,n3,n4⟩:=h.abv hgr hP;have hbd:=h.ok.tok.bd;have auA:=h.ok.tok.yR;obtain⟨g',hg'⟩:∃g',gk=g'+1:=⟨gk-1,by omega⟩;have hs0:=h.grown.size;have hs3:=g3.size;have alD:=h.FZ;have alA:=h.Ey;have hgm:gg=g/\g<m\/wr.heap.size<=gg:=by
  rcases hat with h1|h1
  .rcases h.jM with⟨h2,h3⟩|⟨_,h2⟩
   .rw[h2]at h1;exact jf ⟨(fZ h1).symm,h3⟩
   .rw[h2]at h1;cases h1
  .exact je (by omega)
 have hl:∀b∈l,Lawful b.here:=λb hb=>(h.Ar b hb).law;have k1:=agu hl h.tu (λb b1 b2 b3=>n1 b (by omega) (jf b3));have k2:tC gg l w2 w.heap.size m us:=by
  rcases hgm with⟨h1,_⟩|h1
  .rw[h1];exact k1
  .exact agv k1 (by omega)
 have k3:=eo.law.loc _ _ _ _ _ eh (λb b1 b2=>n1 b b2 (je b1));have k4:tC gg (l++[e]) w2 w.heap.size w2.heap.size (us++[vc]):=agw k2 k3 alD alA (by omega) (by omega);have abL:∀x∈l++[e],oI x:=λx hx=>by
  rcases List.mem_append.1 hx with hx|hx
  .exact h.Ar x hx
  .rw[cO.1 hx];exact eo
 have hBg:w.heap.size<=gg:=by
  rcases hown with⟨_,⟨z2,_⟩|⟨g2,cap2,aur,z2,z3,_⟩⟩
  .cases z2
  .cases z2;exact z3
 refine⟨g',hg',⟨J7 (λb hb=>(abL b hb).law) k4 (λb b1 b2=>g3.block b b2 (by simp;omega)),?_,jf ⟨rfl,hlt2⟩,by omega,hs3,?_,?_,p3,n3.trans g3,?_,?_,abL,?_,?_⟩⟩
 .have:=hown.kept g3 (je (by simp[Value.ownBlock];omega));simpa [hln]using this
 .intro x hx;rcases hst q h.ok h.deep with⟨e',q',h4,h5⟩|h4
  .rw[h4]at hx hv⊢;simp only[bJ]at hx;subst hx;have hm:=h5.more;simp only at hm;exact⟨hv,h5.Ar,by show(s.size:Int)+1-q'.k.at'<=(g':Int);omega⟩
  .rw[h4]at hx;cases hx
 .intro hx;rw[hx]at hv;exact hv
 .rcases hst q h.ok h.deep with⟨e',q',h4,h5⟩|h4
  .rw[h4];exact h5.goes.ok
  .rw[h4];exact h.ok
 .rcases hst q h.ok h.deep with⟨e',q',h4,h5⟩|h4
  .rw[h4];exact h.deep.good h5.goes
  .rw[h4];exact h.deep
 .have:=h.len;simp only[aA,aF,bg];omega
 .have hR:pX st gk (l++[e]) q=R:=h.eq;rw[hg']at hR;unfold pX at hR;rcases hst q h.ok h.deep with⟨e',q',h4,h5⟩|h4
  .rw[h4]at hR⊢;exact hR
  .rw[h4]at hR⊢;exact hR
theorem agb(hst:Oa s st d)(hr:∀p,p.Ok s->Deep d p->CY s p (st p))(n:Nat)(hn:s.size<=n)(hn2:n<=50000)(ok:p.Ok s)(hd:Deep d p):GK 141 s p (pX st (n+1) [] p):=by
 intro P w hp;have hlt:=hp.lt;obtain⟨i0,hi,hz0,hz1,hz2⟩:=info_parts amd;have H1:=jA (hr p ok hd P w hp);have H2:=jA (λq (h1:q.Ok s)(h2:Deep d q) x (hx:jQ x P s q)=>hr q h1 h2 P x hx);have HI:Hid (∀w' v,(match (st p).1 with|some st=>st.here w' w.heap.size w'.heap.size v|none=>v=.nilIface)->jQ w' P s (st p).2->w.grownBy w' (some P)->Fe s st d (pX st (n+1) [] p) P w w' (Nl) v n 0 [] [] (st p).1 (st p).2 w.heap.size):=λw' v hv h2 h3=>by
  have hat:=ok.tok.yR;refine⟨rfl,fK _ _ _ _,je ⟨rfl,rfl⟩,aj _,h3.size,?_,?_,h2,h3,?_,?_,by simp,by simp;omega,?_⟩
  .intro e he;rcases hst p ok hd with⟨e',q',h4,h5⟩|h4
   .rw[h4]at he hv⊢;simp only[bJ]at he;subst he;have hm:=h5.more;simp only at hm;exact⟨hv,h5.Ar,by show(s.size:Int)+1-q'.k.at'<=(n:Int);omega⟩
   .rw[h4]at he;cases he
  .intro he;rw[he]at hv;exact hv
  .rcases hst p ok hd with⟨e',q',h4,h5⟩|h4
   .rw[h4];exact h5.goes.ok
   .rw[h4];exact ok
  .rcases hst p ok hd with⟨e',q',h4,h5⟩|h4
   .rw[h4];exact hd.good h5.goes
   .rw[h4];exact hd
  .conv=>rhs;unfold pX
   rcases hst p ok hd with⟨e',q',h4,h5⟩|h4
   .rw[h4];rfl
   .rw[h4];rfl
 have HST:=jA hst;generalize pX st (n+1) [] p=R at *;clear hp hr hst ok hd;go_enter func141,ntmps141;go_wp2_with fail;refine H1.out.mono ?_;rintro e w1 ⟨⟨v,rfl,hv⟩,h2,h3⟩;have HO:=jA (HI.out w1 v hv h2 h3);clear hv h2 h3 H1 HI;go_wp2_with fail;go_loopg [3,4] n (λgg vl vc wr=>Hid (∃g l us cur q m,Fe s st d R P w wr vl vc gg g l us cur q m))
 case atStart=>exact⟨_,_,_,_,_,_,HO.out⟩
 case round=>
  obtain⟨g,l,us,cur,q,m,hI⟩:=hrel.out;clear hrel HO;obtain⟨la,lc,hvl⟩:=VK hI.own;subst hvl;cases cur with
  |none=>
   have Uw:=hI.nil rfl;subst Uw;have HF:Hid (mW R.1 wr w.heap.size wr.heap.size (.slice la l.length lc)/\jQ wr P s R.2/\w.grownBy wr (some P)):=by
    have hR:=hI.eq;rw[<-hR];refine⟨amU hI.own ?_ (WV hI.tu hI.Ey) (aj _) (aj _),hI.pr,hI.grown⟩;rcases hI.jM with⟨h1,_⟩|⟨h1,_⟩
    .exact jf h1
    .exact je h1
   clear hI H2 HST;go_wp2_with fail;go_ret;exact⟨_,rfl,HF.out⟩
  |some e=>
   obtain⟨eh,eo,ef⟩:=hI.here e rfl;obtain⟨T,b,Uw,hT,b1,b2,b3⟩:=eo.head _ _ _ _ eh;subst Uw;have HN:=jA hI;have hlen:l.length<=100000:=by have:=hI.len;omega
   have RS:=jA (λo=>hI.own.alloc o);have hsz:=hI.grown.size;obtain⟨ln,hln⟩:∃ln,l.length=ln:=⟨_,rfl⟩;rw[hln]at RS hlen⊢;have RN:=jA hln;clear hI eh eo ef b1 b2 b3 hln;go_wp2_with (at_builtin;refine wpList_append_lies _ rfl _ _ 105 rfl w.heap.size 192 i0 .nilIface 1 16 Tryz.underlying105 hi hz0 hz1 hz2 rfl (by decide) (.slice la ln lc) ln us rfl (RS.out _) (Ad wr.heap.size 0) 1 1 [.iface T (Pt b 0)] rfl rfl (cell_one_new _ _ _) (by simp[Value.oneCell']) (by decide) (by unfold maxLen;omega) (by omega) (by simp;omega) (wr.heap.size+1) (by simp) ?_;intro gg cap w2 hown hgr hat hlt2);have HG:=jA (jd hgr (jd hown (jd hat hlt2)));have ET:Hid (Fe s st d R P w wr (.slice la ln lc) (.iface T (Pt b 0)) gk g l us (some e) q m):=by
    have:=HN.out;rw[RN.out]at this;exact this
   clear hgr hown hat hlt2 HN RS;refine(H2.out q ET.out.ok ET.out.deep _ (ET.out.abv HG.out.1 hlt).2.1).mono ?_;rintro e1 w3 ⟨⟨v3,rfl,hv⟩,p3,g3⟩;obtain⟨g',hg',hnew⟩:=ET.out.next HST.out hlt RN.out HG.out.1 HG.out.2.1 HG.out.2.2.1 HG.out.2.2.2 hv p3 g3;have wW:=jA hnew;clear hv p3 g3 hnew H2 ET HG;go_wp2_with fail;go_roundg g'
   case measure=>omega
   case rel=>exact⟨_,_,_,_,_,_,wW.out⟩
end
end
end Go.Proofs.YthllhabjfchgiaaGreatDoor
