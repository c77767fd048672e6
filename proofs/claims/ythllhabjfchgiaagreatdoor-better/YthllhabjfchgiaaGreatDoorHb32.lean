import Derived.Test.YthllhabjfchgiaaGreatDoorHb31
set_option maxRecDepth 100000
set_option maxHeartbeats 8000000
set_option linter.unusedSimpArgs false
namespace Go.Proofs.YthllhabjfchgiaaGreatDoor
open _root_.Go.Proofs.Tryz
section
open Go.RowKit Hx
attribute [local go_sem ↓] Go.wp_at_zero Go.wp_at_succ
attribute [local go_sem] kL
section
variable {s:jm}{ex:Ps->Ex×Ps}{jL:Ps->List jK×Ps}{d:Nat}{p:Ps}
theorem Qg{l:List jK}{w:jo}{lo hi:Nat}{v:jr}(h:mO l w lo hi v):∃a n c,v=.slice a n c:=by
 rcases h with⟨_,h⟩|⟨g,cap,us,arr,h,_⟩
 .exact⟨_,_,_,h⟩
 .exact⟨_,_,_,h⟩
theorem af6(w:jo)(T:jv)(a b c:Int)(ha:0<=a/\a<=1000001)(hb:0<=b/\b<=1000001)(hc:0<=c/\c<=1000001):Ce (w.alloc (.cells #[Im a,Im b,Im c] T)) (.slice (some (Ad w.heap.size 0)) 3 3) [a,b,c]:=by
 refine⟨by simp;exact⟨ha,hb,hc⟩,by simp,jh ⟨_,_,rfl,λi y hy=>?_⟩⟩
 match i,hy with
 |0,hy=>cases hy;exact jH (aY w _)
 |1,hy=>cases hy;exact jH (aY w _)
 |2,hy=>cases hy;exact jH (aY w _)
theorem ame{l:List jK}(hl:∀e∈l,nZ e){w w':jo}{lo hi P:Nat}{v:jr}(hh:mO l w lo hi v)(hP:P<lo)(hi':hi<=w.heap.size)(hg:w.grownBy w' (some P)):mO l w' lo hi v:=
 (uz hl).loc _ _ _ _ _ hh λb b1 b2=>hg.block b (by omega) (by simp;omega)
theorem amf(w:jo)(lo hi:Nat):mO [] w lo hi (Nl):=ji ⟨rfl,rfl⟩
def NY(e:Ex)(y n:List jK)(P:Nat)(s:jm)(q:Ps)(w w7:jo)(T1:jv)(A1:Nat)(vy vn:jr):Prop:=
 ∃m k,w.heap.size<=m/\m<=k/\k<=w7.heap.size/\e.here e.at' w7 w.heap.size m (.iface T1 (Pt A1 0))/\mO y w7 m k vy/\mO n w7 k w7.heap.size vn/\jR w7 P s q/\w.grownBy w7 (some P)
theorem NY.done{ka:Int}{e:Ex}{y n:List jK}{P:Nat}{s:jm}{q:Ps}{w w7:jo}{T1:jv}{A1:Nat}{vy vn:jr}(h:NY e y n P s q w w7 T1 A1 vy vn)(he:kV e)(hy:∀x∈y,nZ x)(hn:∀x∈n,nZ x){w10:jo}(hg:w7.grownBy w10 none)(o o2:Obj)
 (ho:o2=Obj.cells #[Im ka,Im (jS [e.jy,kN y,kN n]),.iface T1 (Pt A1 0),vy,vn,.bool false] 341):
 (rY ka e y n).here ((w10.alloc o).alloc o2) w.heap.size ((w10.alloc o).alloc o2).heap.size (.iface 339 (Pt (w10.heap.size+1) 0))/\jR ((w10.alloc o).alloc o2) P s q/\w.grownBy ((w10.alloc o).alloc o2) (some P):=by
 obtain⟨m,k,h1,h2,h3,k1,k2,k3,k4,k5⟩:=h;have gg:=hg.trans (ah w10 o none);have gf:=gg.trans (ah (w10.alloc o) o2 none);have sg:=gg.size;have ly:=uz hy;have ln:=uz hn;have hK:U9 (e.here e.at') (mO y) (mO n) (w10.alloc o) w.heap.size (w10.alloc o).heap.size [.iface T1 (Pt A1 0),vy,vn]:=
  ⟨m,k,_,_,_,rfl,h1,h2,by omega,(he.law _).loc _ _ _ _ _ k1 (λb _ hb=>gg.block b (by omega) (by simp)),ly.loc _ _ _ _ _ k2 (λb _ hb=>gg.block b (by omega) (by simp)),ln.wide _ _ _ _ _ _ (ln.loc _ _ _ _ _ k3 (λb _ hb=>gg.block b hb (by simp))) (aj _) sg⟩
 have hn:=JO (ds:={}) (T':=339) (T:=341) (at':=ka) (jy:=jS [e.jy,kN y,kN n]) (mk:=λus=>us++[.bool false]) (MK (he.law _) ly ln) hK (by omega) ho;rw[nU w10 o]at hn;exact⟨hn,k4.grow gf,k5.trans (gf.but _)⟩
theorem aiP(hs:s.size<=4000)(h:Reader s ex (d+1))(hb:DL s jL (d+1))(hblk:∀p,p.Ok s->Deep (d+1) p->G6 241 s p (jL p))(hlen:∀p,(jL p).1.length<=1000000)(ok:p.Ok s)(hd:Deep (d+1) p)(ht:p.is [105,102]=true):um 225 s p (yP s ex jL p):=by
 intro P w hp;have hlt:=hp.lt;have g1:=nV ok (oM (by simp) ht);have d1:=hd.good g1;obtain⟨g2,x2⟩:=h.good _ g1.ok d1;have d2:=d1.good g2;obtain⟨g3,x3⟩:=hb _ g2.ok d2;have d3:=d2.good g3;have HN:Hid (Calls prog 236 #[Pt P 0] w (qG P s w (.agg #[Im p.k.kind,.string p.k.text,Im p.k.at']) (p.next s))):=wX hp ok hs;have H1:=jB (λx (hx:jR x P s (p.next s))=>h.reads _ g1.ok d1 P x hx);have H2:=jB (λx (hx:jR x P s (ex (p.next s)).2)=>hblk _ g2.ok d2 P x hx);have hfa:=LJ p.k.kind p.k.at' p.k.text;have HX:=jB x2;have HY:Hid ((∀e∈(jL (ex (p.next s)).2).1,nZ e)/\(jL (ex (p.next s)).2).1.length<=1000000):=⟨x3,hlen _⟩;have HE:Hid ((jL (ex (p.next s)).2).2.is [101,108,115,101]=true->(∀x,jR x P s (jL (ex (p.next s)).2).2->Calls prog 236 #[Pt P 0] x (qG P s x (xu (jL (ex (p.next s)).2).2.k) ((jL (ex (p.next s)).2).2.next s)))/\(∀x,jR x P s ((jL (ex (p.next s)).2).2.next s)->Calls prog 241 #[Pt P 0] x λe w'=>∃v,e=.returned v/\mO (jL ((jL (ex (p.next s)).2).2.next s)).1 w' x.heap.size w'.heap.size v/\jR w' P s (jL ((jL (ex (p.next s)).2).2.next s)).2/\x.grownBy w' (some P))/\(∀e∈(jL ((jL (ex (p.next s)).2).2.next s)).1,nZ e)/\(jL ((jL (ex (p.next s)).2).2.next s)).1.length<=1000000):=λhel=>by
  have g4:=nV g3.ok (oM (by simp) hel);exact⟨λx hx=>wX hx g3.ok hs,λx hx=>hblk _ g4.ok (d3.good g4) P x hx,(hb _ g4.ok (d3.good g4)).2,hlen _⟩
 have HM:Hid (yP s ex jL p=if (jL (ex (p.next s)).2).2.is [101,108,115,101]then (rY p.k.at' (ex (p.next s)).1 (jL (ex (p.next s)).2).1 (jL ((jL (ex (p.next s)).2).2.next s)).1,(jL ((jL (ex (p.next s)).2).2.next s)).2)else (rY p.k.at' (ex (p.next s)).1 (jL (ex (p.next s)).2).1 [],(jL (ex (p.next s)).2).2)):=rfl;generalize yP s ex jL p=R at *;generalize jL ((jL (ex (p.next s)).2).2.next s)=n2 at *;generalize jL (ex (p.next s)).2=y2 at *;generalize ex (p.next s)=c2 at *;generalize y2.2.next s=q4 at *;generalize p.next s=q at *;generalize p.k.kind=kk at *;generalize p.k.text=kt at *;generalize p.k.at'=ka at *;clear hp g1 d1 g2 x2 d2 g3 x3 d3 ok hd ht h hb hblk hlen;go_enter func225,ntmps225;go_wp2_with fail;refine HN.out.mono ?_;rintro e w1 ⟨rfl,p1,g1⟩;have kH:=jB (jg p1 g1);clear p1 g1 HN;go_wp2_with fail;refine(H1.out _ kH.out.1).mono ?_;rintro e w2 ⟨v1,rfl,e2,p2,g2⟩;obtain⟨T1,A1,hv1,hm1,a1,a2,a3⟩:=HX.out.rP e2;subst hv1;have HP2:=jB (jg e2 (jg p2 g2));clear e2 p2 g2 H1;go_wp2_with fail;refine(H2.out _ HP2.out.2.1).mono ?_;rintro e w3 ⟨vy,rfl,e3,p3,g3⟩;obtain⟨ya,yn,yc,hvy⟩:=Qg e3;subst hvy;have lF:=jB (jg e3 (jg p3 g3));clear e3 p3 g3 H2;have HI:=jB (H9 lF.out.2.1 [101,108,115,101]);cases hel:y2.2.is [101,108,115,101]with
 |false=>
  have wO:Hid (R=(rY ka c2.1 y2.1 [],y2.2)):=by have:=HM.out;rw[hel]at this;exact this
  rw[hel]at HI;clear hel HM HE;go_wp2_with fail;refine HI.out.mono ?_;rintro e w4 ⟨rfl,hw4⟩;rw[hw4];clear hw4 HI;have HT:Hid (NY c2.1 y2.1 [] P s y2.2 w w3 T1 A1 (.slice ya yn yc) (Nl)):=by
   have s1:=kH.out.2.size;have s2:=HP2.out.2.2.size;have s3:=lF.out.2.2.size;exact⟨w2.heap.size,w3.heap.size,by omega,s3,aj _,(HX.out.law _).wide _ _ _ _ _ _ (HX.out.keep HP2.out.1 (by omega) (aj _) lF.out.2.2) s1 (aj _),lF.out.1,amf _ _ _,lF.out.2.1,kH.out.2.trans (HP2.out.2.2.trans lF.out.2.2)⟩
  have xA:Hid ((∀e∈([]:List jK),nZ e)/\([]:List jK).length<=1000000):=⟨by simp,by simp⟩;generalize hnl:([]:List jK)=nl at *;clear hnl;generalize y2.2=qf at *;clear kH HP2 lF;obtain⟨m,k,_,_,_,t1,t2,t3,_,_⟩:=HT.out;obtain⟨T1',A1',z1,_,_,_,b3⟩:=HX.out.rP t1;cases z1;have A8:=jB (tX A1 0 _ b3);have KJ:=jB (λx (hx:w3.grownBy x none)=>IG HY.out.1 HY.out.2 (Ip HY.out.1 ((uz HY.out.1).loc _ _ _ _ _ t2 (λb _ hb=>hx.block b (by omega) (by simp)))));have KI:=jB (λx (hx:w3.grownBy x none)=>IG xA.out.1 xA.out.2 (Ip xA.out.1 ((uz xA.out.1).loc _ _ _ _ _ t3 (λb _ hb=>hx.block b (by omega) (by simp)))));clear t1 t2 t3 b3;go_wp2_with fail;refine A8.out.mono ?_;rintro e w8 ⟨rfl,hw8⟩;rw[hw8];clear hw8 A8;go_wp2_with fail;refine(KJ.out _ (aN _ _)).mono ?_;rintro e w9 ⟨rfl,g9⟩;have zi:=jB g9;clear g9;go_wp2_with fail;refine(KI.out _ zi.out).mono ?_;rintro e w10 ⟨rfl,g10⟩;have AX:=jB (zi.out.trans g10);clear g10 zi KJ KI;go_wp2_with fail;refine(zH ka _ [c2.1.jy,kN y2.1,kN nl] (af6 w10 _ _ _ _ HX.out.jy (rD HY.out.1) (rD xA.out.1))).mono ?_;rintro e w11 ⟨rfl,g11⟩;have RS:=jB (AX.out.trans ((ah w10 _ none).trans g11));clear g11 AX;go_wp2_with fail;go_ret;rw[wO.out];exact⟨_,rfl,HT.out.done HX.out HY.out.1 xA.out.1 RS.out _ _ rfl⟩
 |true=>
  obtain⟨hnx,hbk,hno,hnl⟩:=HE.out hel;have wO:Hid (R=(rY ka c2.1 y2.1 n2.1,n2.2)):=by have:=HM.out;rw[hel]at this;exact this
  have Y5:=jB hnx;have Ku:=jB hbk;have xA:=jB (jg hno hnl);rw[hel]at HI;clear hel HM HE hnx hbk hno hnl;generalize xu y2.2.k=tv at *;go_wp2_with fail;refine HI.out.mono ?_;rintro e w4 ⟨rfl,hw4⟩;rw[hw4];clear hw4 HI;go_wp2_with fail;refine(Y5.out _ lF.out.2.1).mono ?_;rintro e w5 ⟨rfl,p5,g5⟩;have vk:=jB (jg p5 g5);clear p5 g5 Y5;go_wp2_with fail;refine(Ku.out _ vk.out.1).mono ?_;rintro e w6 ⟨vn,rfl,e6,p6,g6⟩;obtain⟨na,nn,nc,hvn⟩:=Qg e6;subst hvn;have HT:Hid (NY c2.1 y2.1 n2.1 P s n2.2 w w6 T1 A1 (.slice ya yn yc) (.slice na nn nc)):=by
   have s1:=kH.out.2.size;have s2:=HP2.out.2.2.size;have s3:=lF.out.2.2.size;have s5:=vk.out.2.size;have s6:=g6.size;have Hr:=vk.out.2.trans g6;exact⟨w2.heap.size,w5.heap.size,by omega,by omega,s6,(HX.out.law _).wide _ _ _ _ _ _ (HX.out.keep HP2.out.1 (by omega) (aj _) (lF.out.2.2.trans Hr)) s1 (aj _),(uz HY.out.1).wide _ _ _ _ _ _ (ame HY.out.1 lF.out.1 (by omega) (aj _) Hr) (aj _) s5,e6,p6,kH.out.2.trans (HP2.out.2.2.trans (lF.out.2.2.trans Hr))⟩
  generalize n2.1=nl at *;generalize n2.2=qf at *;clear e6 p6 g6 Ku kH HP2 lF vk;obtain⟨m,k,_,_,_,t1,t2,t3,_,_⟩:=HT.out;obtain⟨T1',A1',z1,_,_,_,b3⟩:=HX.out.rP t1;cases z1;have A8:=jB (tX A1 0 _ b3);have KJ:=jB (λx (hx:w6.grownBy x none)=>IG HY.out.1 HY.out.2 (Ip HY.out.1 ((uz HY.out.1).loc _ _ _ _ _ t2 (λb _ hb=>hx.block b (by omega) (by simp)))));have KI:=jB (λx (hx:w6.grownBy x none)=>IG xA.out.1 xA.out.2 (Ip xA.out.1 ((uz xA.out.1).loc _ _ _ _ _ t3 (λb _ hb=>hx.block b (by omega) (by simp)))));clear t1 t2 t3 b3;go_wp2_with fail;refine A8.out.mono ?_;rintro e w8 ⟨rfl,hw8⟩;rw[hw8];clear hw8 A8;go_wp2_with fail;refine(KJ.out _ (aN _ _)).mono ?_;rintro e w9 ⟨rfl,g9⟩;have zi:=jB g9;clear g9;go_wp2_with fail;refine(KI.out _ zi.out).mono ?_;rintro e w10 ⟨rfl,g10⟩;have AX:=jB (zi.out.trans g10);clear g10 zi KJ KI;go_wp2_with fail;refine(zH ka _ [c2.1.jy,kN y2.1,kN nl] (af6 w10 _ _ _ _ HX.out.jy (rD HY.out.1) (rD xA.out.1))).mono ?_;rintro e w11 ⟨rfl,g11⟩;have RS:=jB (AX.out.trans ((ah w10 _ none).trans g11));clear g11 AX;go_wp2_with fail;go_ret;rw[wO.out];exact⟨_,rfl,HT.out.done HX.out HY.out.1 xA.out.1 RS.out _ _ rfl⟩
end
section
variable {s:jm}{ex ex':Ps->Ex×Ps}{jL:Ps->List jK×Ps}{d:Nat}{p:Ps}{r:jK×Ps}
def CG(s:jm)(p:Ps)(r:Option jK×Ps):Prop:=
 ∀(P:Nat)(w:jo),jR w P s p->Calls prog 191 #[Pt P 0] w λe w'=>(∃v,e=.returned v/\(match r.1 with|some st=>st.here w' w.heap.size w'.heap.size v|none=>v=.nilIface))/\jR w' P s r.2/\w.grownBy w' (some P)
theorem an1(hk:p.k.kind=2)(hq:um 220 s p r):CG s p (some r.1,r.2):=by
 intro P w h;have HQ:=jB (hq P w h);have c1:=kG.c1 h;have c2:=kG.c2 h;rw[hk]at c1;generalize p.k.kind=kk at *;generalize p.k.text=kt at *;clear h hq;go_enter func191,ntmps191;go_wp2_with fail;refine HQ.out.mono ?_;rintro e w2 ⟨v,rfl,h1,h2,h3⟩;have HH:=jB (jg h1 (jg h2 h3));clear h1 h2 h3 HQ;go_wp2_with fail;go_ret;exact⟨⟨_,rfl,HH.out.1⟩,HH.out.2⟩
theorem an2(hk:p.k.kind=4)(hq:um 221 s p r):CG s p (some r.1,r.2):=by
 intro P w h;have HQ:=jB (hq P w h);have c1:=kG.c1 h;have c2:=kG.c2 h;rw[hk]at c1;generalize p.k.kind=kk at *;generalize p.k.text=kt at *;clear h hq;go_enter func191,ntmps191;go_wp2_with fail;refine HQ.out.mono ?_;rintro e w2 ⟨v,rfl,h1,h2,h3⟩;have HH:=jB (jg h1 (jg h2 h3));clear h1 h2 h3 HQ;go_wp2_with fail;go_ret;exact⟨⟨_,rfl,HH.out.1⟩,HH.out.2⟩
theorem anW(hk2:¬p.k.kind=2)(hk4:¬p.k.kind=4)(tp:p.is [118,97,114]=true)(hq:um 222 s p r):CG s p (some r.1,r.2):=by
 intro P w h;have HQ:=jB (hq P w h);have c1:=kG.c1 h;have c2:=kG.c2 h;have n2:(p.k.kind==2)=false:=by simp[hk2]
 have n4:(p.k.kind==4)=false:=by simp[hk4]
 have tp:=lJ tp;generalize p.k.kind=kk at *;generalize p.k.text=kt at *;clear h hq;go_enter func191,ntmps191;go_wp2_with fail;refine HQ.out.mono ?_;rintro e w2 ⟨v,rfl,h1,h2,h3⟩;have HH:=jB (jg h1 (jg h2 h3));clear h1 h2 h3 HQ;go_wp2_with fail;go_ret;exact⟨⟨_,rfl,HH.out.1⟩,HH.out.2⟩
theorem anZ(hk2:¬p.k.kind=2)(hk4:¬p.k.kind=4)(t0:p.is [118,97,114]=false)(tp:p.is [112,117,115,104]=true)(hq:um 223 s p r):CG s p (some r.1,r.2):=by
 intro P w h;have HQ:=jB (hq P w h);have c1:=kG.c1 h;have c2:=kG.c2 h;have n2:(p.k.kind==2)=false:=by simp[hk2]
 have n4:(p.k.kind==4)=false:=by simp[hk4]
 have t0:=lJ t0;have tp:=lJ tp;generalize p.k.kind=kk at *;generalize p.k.text=kt at *;clear h hq;go_enter func191,ntmps191;go_wp2_with fail;refine HQ.out.mono ?_;rintro e w2 ⟨v,rfl,h1,h2,h3⟩;have HH:=jB (jg h1 (jg h2 h3));clear h1 h2 h3 HQ;go_wp2_with fail;go_ret;exact⟨⟨_,rfl,HH.out.1⟩,HH.out.2⟩
theorem an0(hk2:¬p.k.kind=2)(hk4:¬p.k.kind=4)(t0:p.is [118,97,114]=false)(t1:p.is [112,117,115,104]=false)(tp:p.is [114,101,116,117,114,110]=true)(hq:um 224 s p r):CG s p (some r.1,r.2):=by
 intro P w h;have HQ:=jB (hq P w h);have c1:=kG.c1 h;have c2:=kG.c2 h;have n2:(p.k.kind==2)=false:=by simp[hk2]
 have n4:(p.k.kind==4)=false:=by simp[hk4]
 have t0:=lJ t0;have t1:=lJ t1;have tp:=lJ tp;generalize p.k.kind=kk at *;generalize p.k.text=kt at *;clear h hq;go_enter func191,ntmps191;go_wp2_with fail;refine HQ.out.mono ?_;rintro e w2 ⟨v,rfl,h1,h2,h3⟩;have HH:=jB (jg h1 (jg h2 h3));clear h1 h2 h3 HQ;go_wp2_with fail;go_ret;exact⟨⟨_,rfl,HH.out.1⟩,HH.out.2⟩
theorem anT(hk2:¬p.k.kind=2)(hk4:¬p.k.kind=4)(t0:p.is [118,97,114]=false)(t1:p.is [112,117,115,104]=false)(t2:p.is [114,101,116,117,114,110]=false)(tp:p.is [105,102]=true)(hq:um 225 s p r):CG s p (some r.1,r.2):=by
 intro P w h;have HQ:=jB (hq P w h);have c1:=kG.c1 h;have c2:=kG.c2 h;have n2:(p.k.kind==2)=false:=by simp[hk2]
 have n4:(p.k.kind==4)=false:=by simp[hk4]
 have t0:=lJ t0;have t1:=lJ t1;have t2:=lJ t2;have tp:=lJ tp;generalize p.k.kind=kk at *;generalize p.k.text=kt at *;clear h hq;go_enter func191,ntmps191;go_wp2_with fail;refine HQ.out.mono ?_;rintro e w2 ⟨v,rfl,h1,h2,h3⟩;have HH:=jB (jg h1 (jg h2 h3));clear h1 h2 h3 HQ;go_wp2_with fail;go_ret;exact⟨⟨_,rfl,HH.out.1⟩,HH.out.2⟩
theorem anV(hk2:¬p.k.kind=2)(hk4:¬p.k.kind=4)(t0:p.is [118,97,114]=false)(t1:p.is [112,117,115,104]=false)(t2:p.is [114,101,116,117,114,110]=false)(t3:p.is [105,102]=false)(tp:p.is [101,97,99,104]=true)(hq:um 226 s p r):CG s p (some r.1,r.2):=by
 intro P w h;have HQ:=jB (hq P w h);have c1:=kG.c1 h;have c2:=kG.c2 h;have n2:(p.k.kind==2)=false:=by simp[hk2]
 have n4:(p.k.kind==4)=false:=by simp[hk4]
 have t0:=lJ t0;have t1:=lJ t1;have t2:=lJ t2;have t3:=lJ t3;have tp:=lJ tp;generalize p.k.kind=kk at *;generalize p.k.text=kt at *;clear h hq;go_enter func191,ntmps191;go_wp2_with fail;refine HQ.out.mono ?_;rintro e w2 ⟨v,rfl,h1,h2,h3⟩;have HH:=jB (jg h1 (jg h2 h3));clear h1 h2 h3 HQ;go_wp2_with fail;go_ret;exact⟨⟨_,rfl,HH.out.1⟩,HH.out.2⟩
theorem adQ(hk2:¬p.k.kind=2)(hk4:¬p.k.kind=4)(t0:p.is [118,97,114]=false)(t1:p.is [112,117,115,104]=false)(t2:p.is [114,101,116,117,114,110]=false)(t3:p.is [105,102]=false)(t4:p.is [101,97,99,104]=false):CG s p (none,p):=by
 intro P w h;have HH:Hid (jR w P s p/\w.grownBy w (some P)):=⟨h,aN _ _⟩;have c1:=kG.c1 h;have c2:=kG.c2 h;have n2:(p.k.kind==2)=false:=by simp[hk2]
 have n4:(p.k.kind==4)=false:=by simp[hk4]
 have t0:=lJ t0;have t1:=lJ t1;have t2:=lJ t2;have t3:=lJ t3;have t4:=lJ t4;clear h;go_enter func191,ntmps191;go_wp2_with fail;go_ret;exact⟨⟨_,rfl,rfl⟩,HH.out⟩
theorem aqN(n:Nat)(h2:p.k.kind=2->um 220 s p (EO s ex p))(h4:p.k.kind=4->um 221 s p (EP s ex p))(hv:p.is [118,97,114]=true->um 222 s p (Ez s ex p))
 (hp:p.is [112,117,115,104]=true->um 223 s p (ED s ex' p))(hr:p.is [114,101,116,117,114,110]=true->um 224 s p (EI s p))(hi:p.is [105,102]=true->um 225 s p (yP s ex jL p))
 (he:p.is [101,97,99,104]=true->um 226 s p (Dl s jL ex' n p)):CG s p (uJ s ex jL ex' n p):=by
 unfold uJ;split
 .rename_i k;exact an1 k (h2 k)
 rename_i k2;split
 .rename_i k;exact an2 k (h4 k)
 rename_i k4;cases t0:p.is [118,97,114]with
 |true=>exact anW k2 k4 t0 (hv t0)
 |false=>
 cases t1:p.is [112,117,115,104]with
 |true=>exact anZ k2 k4 t0 t1 (hp t1)
 |false=>
 cases t2:p.is [114,101,116,117,114,110]with
 |true=>exact an0 k2 k4 t0 t1 t2 (hr t2)
 |false=>
 cases t3:p.is [105,102]with
 |true=>exact anT k2 k4 t0 t1 t2 t3 (hi t3)
 |false=>
 cases t4:p.is [101,97,99,104]with
 |true=>exact anV k2 k4 t0 t1 t2 t3 t4 (he t4)
 |false=>exact adQ k2 k4 t0 t1 t2 t3 t4
end
section
variable {s:jm}{ex:Ps->Ex×Ps}{d:Nat}{p:Ps}
theorem abl{W y:jo}{o:Obj}(h:W.grownBy y none):W.grownBy (y.alloc o) none:=h.trans (ah y o none)
theorem abm{W y:jo}(h:W.grownBy y none):W.grownBy y.drew none:=h.trans ⟨rfl,rfl,rfl,aj _,λ_ _ _=>rfl⟩
theorem abn{W y:jo}{k:Nat}(h:W.grownBy y none):W.grownBy (y.drewN k) none:=h.trans (lH y k)
theorem amX(hs:s.size<=4000)(h:Reader s ex (d+1))(ok:p.Ok s)(hd:Deep (d+1) p)(ht:p.is [118,97,114]=true):um 222 s p (Ez s ex p):=by
 intro P w hp;have hlt:=hp.lt;have g1:=nV ok (oM (by simp) ht);have gn:=Ej g1.ok;have dn:=hd.good (g1.trans gn);have HN:Hid (Calls prog 236 #[Pt P 0] w (qG P s w (.agg #[Im p.k.kind,.string p.k.text,Im p.k.at']) (p.next s))):=wX hp ok hs;have HM:=jB (λx (hx:jR x P s (p.next s))=>JI hx g1.ok hs);have hfa:=LJ p.k.kind p.k.at' p.k.text;obtain⟨g2,x2⟩:=Jk h.good gn.ok dn;have HG:=jB (λx (hx:jR x P s ((p.next s).name s).2)=>Ui hs h gn.ok dn P x hx);have HX:=jB x2;show Calls prog 222 #[Pt P 0] w λe w'=>∃v,e=.returned v/\(uD p.k.at' ((p.next s).name s).1 (pF s ex ((p.next s).name s).2).1).here w' w.heap.size w'.heap.size v/\jR w' P s (pF s ex ((p.next s).name s).2).2/\w.grownBy w' (some P);generalize pF s ex ((p.next s).name s).2=r at *;generalize (p.next s).name s=dq at *;obtain⟨⟨dt,da⟩,q2⟩:=dq;generalize p.next s=q1 at *;generalize p.k.kind=kk at *;generalize p.k.text=kt at *;generalize p.k.at'=ka at *;have HM:Hid (∀x,jR x P s q1->Calls prog 232 #[Pt P 0] x (qG P s x (.agg #[.string dt,Im da]) q2)):=HM.out;simp only at HG⊢;clear hp gn dn g2 x2 ok hd h g1 ht;go_enter func222,ntmps222;go_wp2_with fail;refine HN.out.mono ?_;rintro e w1 ⟨rfl,p1,g1⟩;have kH:=jB (jg p1 g1);clear p1 g1 HN;go_wp2_with fail;refine(HM.out _ kH.out.1).mono ?_;rintro e w2 ⟨rfl,p2,g2⟩;have HP2:Hid (jR (w2.alloc (.cells #[.string dt,Im da] 316)) P s q2/\w.grownBy w2 (some P)):=⟨p2.grow (ah _ _ none),kH.out.2.trans g2⟩;clear p2 g2 HM kH;go_wp2_with fail;refine(HG.out _ HP2.out.1).mono ?_
 rintro e W ⟨v,rfl,e2,p3,g3⟩;obtain⟨T,A,rfl,hmp,b1,b2,a1⟩:=HX.out.rP e2;have hgb:=(g3.block _ (by rw[nU];omega) (by have:=HP2.out.2.size;simp;omega)).trans (aY _ _);have l3:=lN hgb;have g0:=jJ 0 hgb rfl;have g1:=jJ 1 hgb rfl;have QB:w2.heap.size<W.heap.size+1:=by omega
 have pG2:w2.heap.size<W.heap.size+1+1:=by omega
 have pG3:w2.heap.size<W.heap.size+1+1+1:=by omega
 have rG2:w2.heap.size<W.heap.size+2:=by omega
 have rG3:w2.heap.size<W.heap.size+3:=by omega
 have OA:=jB (λy (hy:W.grownBy y none)=>hy.cell a1 (by simp));have lF:Hid (r.1.here r.1.at' W w.heap.size W.heap.size (.iface T (Pt A 0))/\jR W P s r.2/\w.grownBy W (some P)):=by
  have s2:=HP2.out.2.size;have hw:=HP2.out.2.trans (((ah w2 (.cells #[.string dt,Im da] 316) none).but (some P)).trans g3);exact⟨(HX.out.law _).wide _ _ _ _ _ _ e2 (by rw[nU];omega) (aj _),p3,hw⟩
 have hcb:=HX.out.jy;have DT:Hid (Calls prog 234 #[Im ka,.slice (some (Ad W.heap.size 0)) 1 1] (W.alloc (.cells #[Im r.1.jy] 3)).drew λe w'=>e=.returned (.agg #[Im ka,Im (jS [r.1.jy])])/\w'=((W.alloc (.cells #[Im r.1.jy] 3)).drew.alloc (.cells #[Im ka,Im (jS [r.1.jy])] 323)).alloc (.cells #[Im 1,Im (lg [r.1.jy])] 3)):=by
  refine JJ ka _ [r.1.jy] ⟨by simpa using hcb,by simp,jh ⟨_,_,rfl,λi y hy=>?_⟩⟩
  match i,hy with
  |0,hy=>
   cases hy;have hh:(W.alloc (.cells #[Im r.1.jy] 3)).drew.heap[W.heap.size]? =some (.cells #[Im r.1.jy] 3):=aY W _;exact jH hh
 have HFin:Hid (∀a b c,(uD ka ⟨dt,da⟩ r.1).here ((((W.alloc a).alloc b).alloc c).alloc (.cells #[Im ka,Im (jS [r.1.jy]),.string dt,Im da,.iface T (Pt A 0)] 332)).drew w.heap.size ((((W.alloc a).alloc b).alloc c).alloc (.cells #[Im ka,Im (jS [r.1.jy]),.string dt,Im da,.iface T (Pt A 0)] 332)).drew.heap.size (.iface 331 (Pt (W.heap.size+1+1+1) 0))/\jR ((((W.alloc a).alloc b).alloc c).alloc (.cells #[Im ka,Im (jS [r.1.jy]),.string dt,Im da,.iface T (Pt A 0)] 332)).drew P s r.2/\w.grownBy ((((W.alloc a).alloc b).alloc c).alloc (.cells #[Im ka,Im (jS [r.1.jy]),.string dt,Im da,.iface T (Pt A 0)] 332)).drew (some P)):=λa b c=>by
  obtain⟨h1,h2⟩:=O5 W a b c (.cells #[Im ka,Im (jS [r.1.jy]),.string dt,Im da,.iface T (Pt A 0)] 332);have s3:=lF.out.2.2.size;exact⟨⟨_,_,rfl,by omega,lN h1,⟨_,rfl,(HX.out.law _).wide _ _ _ _ _ _ ((HX.out.law _).loc _ _ _ _ _ lF.out.1 (λb _ hb=>h2.block b hb (by simp))) (aj _) (by omega)⟩,h1⟩,lF.out.2.1.grow h2,lF.out.2.2.trans (h2.but _)⟩
 clear hgb e2 p3 g3 HG b1 b2 a1 hcb;go_upto_region 4 with fail;go_region_with (first|(go_at_call 244;refine(tX A 0 r.1.jy (OA.out _ (by repeat (first|exact aN _ _|refine abl ?_|refine abm ?_|refine abn ?_)))).mono ?_;rintro e w' ⟨rfl,rfl⟩)|(go_at_call 234;refine DT.out.mono ?_;rintro e w' ⟨rfl,rfl⟩));all_goals
  go_wp2_with fail;go_ret;exact⟨_,rfl,HFin.out _ _ _⟩
theorem aqt(hs:s.size<=4000)(h:Reader s ex (d+1))(ok:p.Ok s)(hd:Deep (d+1) p):um 220 s p (EO s ex p):=by
 intro P w hp;have hlt:=hp.lt;have gn:=Ej ok;have dn:=hd.good gn;have HM:=jB (λx (hx:jR x P s p)=>JI hx ok hs);have Y7:=jB hp;obtain⟨g2,x2⟩:=Jk h.good gn.ok dn;have HG:Hid (∀x,jR x P s (p.name s).2->Calls prog 233 #[Pt P 0] x λe w'=>∃v,e=.returned v/\(pF s ex (p.name s).2).1.here (pF s ex (p.name s).2).1.at' w' x.heap.size w'.heap.size v/\jR w' P s (pF s ex (p.name s).2).2/\x.grownBy w' (some P)):=λx hx=>Ui hs h gn.ok dn P x hx;have HX:=jB x2;show Calls prog 220 #[Pt P 0] w λe w'=>∃v,e=.returned v/\(sQ (p.name s).1 (pF s ex (p.name s).2).1).here w' w.heap.size w'.heap.size v/\jR w' P s (pF s ex (p.name s).2).2/\w.grownBy w' (some P);generalize pF s ex (p.name s).2=r at *;generalize p.name s=dq at *;obtain⟨⟨dt,da⟩,q2⟩:=dq;have HM:Hid (∀x,jR x P s p->Calls prog 232 #[Pt P 0] x (qG P s x (.agg #[.string dt,Im da]) q2)):=HM.out;simp only at HG⊢;clear hp gn dn g2 x2 ok hd h;go_enter func220,ntmps220;go_wp2_with fail;refine(HM.out _ Y7.out).mono ?_;rintro e w2 ⟨rfl,p2,g2⟩;have HP2:Hid (jR (w2.alloc (.cells #[.string dt,Im da] 316)) P s q2/\w.grownBy w2 (some P)):=⟨p2.grow (ah _ _ none),g2⟩;clear p2 g2 HM Y7;go_wp2_with fail;refine(HG.out _ HP2.out.1).mono ?_;rintro e W ⟨v,rfl,e2,p3,g3⟩;obtain⟨T,A,rfl,hmp,b1,b2,a1⟩:=HX.out.rP e2;have hgb:=(g3.block _ (by rw[nU];omega) (by have:=HP2.out.2.size;simp;omega)).trans (aY _ _);have l3:=lN hgb;have g0:=jJ 0 hgb rfl;have g1:=jJ 1 hgb rfl;have QB:w2.heap.size<W.heap.size+1:=by omega
 have pG2:w2.heap.size<W.heap.size+1+1:=by omega
 have pG3:w2.heap.size<W.heap.size+1+1+1:=by omega
 have rG2:w2.heap.size<W.heap.size+2:=by omega
 have rG3:w2.heap.size<W.heap.size+3:=by omega
 have OA:=jB (λy (hy:W.grownBy y none)=>hy.cell a1 (by simp));have lF:Hid (r.1.here r.1.at' W w.heap.size W.heap.size (.iface T (Pt A 0))/\jR W P s r.2/\w.grownBy W (some P)):=by
  have s2:=HP2.out.2.size;have hw:=HP2.out.2.trans (((ah w2 (.cells #[.string dt,Im da] 316) none).but (some P)).trans g3);exact⟨(HX.out.law _).wide _ _ _ _ _ _ e2 (by rw[nU];omega) (aj _),p3,hw⟩
 have hcb:=HX.out.jy;have DT:Hid (Calls prog 234 #[Im da,.slice (some (Ad W.heap.size 0)) 1 1] (W.alloc (.cells #[Im r.1.jy] 3)).drew λe w'=>e=.returned (.agg #[Im da,Im (jS [r.1.jy])])/\w'=((W.alloc (.cells #[Im r.1.jy] 3)).drew.alloc (.cells #[Im da,Im (jS [r.1.jy])] 323)).alloc (.cells #[Im 1,Im (lg [r.1.jy])] 3)):=by
  refine JJ da _ [r.1.jy] ⟨by simpa using hcb,by simp,jh ⟨_,_,rfl,λi y hy=>?_⟩⟩
  match i,hy with
  |0,hy=>
   cases hy;have hh:(W.alloc (.cells #[Im r.1.jy] 3)).drew.heap[W.heap.size]? =some (.cells #[Im r.1.jy] 3):=aY W _;exact jH hh
 have HFin:Hid (∀a b c,(sQ ⟨dt,da⟩ r.1).here ((((W.alloc a).alloc b).alloc c).alloc (.cells #[Im da,Im (jS [r.1.jy]),.string dt,Im da,.iface T (Pt A 0)] 326)).drew w.heap.size ((((W.alloc a).alloc b).alloc c).alloc (.cells #[Im da,Im (jS [r.1.jy]),.string dt,Im da,.iface T (Pt A 0)] 326)).drew.heap.size (.iface 321 (Pt (W.heap.size+1+1+1) 0))/\jR ((((W.alloc a).alloc b).alloc c).alloc (.cells #[Im da,Im (jS [r.1.jy]),.string dt,Im da,.iface T (Pt A 0)] 326)).drew P s r.2/\w.grownBy ((((W.alloc a).alloc b).alloc c).alloc (.cells #[Im da,Im (jS [r.1.jy]),.string dt,Im da,.iface T (Pt A 0)] 326)).drew (some P)):=λa b c=>by
  obtain⟨h1,h2⟩:=O5 W a b c (.cells #[Im da,Im (jS [r.1.jy]),.string dt,Im da,.iface T (Pt A 0)] 326);have s3:=lF.out.2.2.size;exact⟨⟨_,_,rfl,by omega,lN h1,⟨_,rfl,(HX.out.law _).wide _ _ _ _ _ _ ((HX.out.law _).loc _ _ _ _ _ lF.out.1 (λb _ hb=>h2.block b hb (by simp))) (aj _) (by omega)⟩,h1⟩,lF.out.2.1.grow h2,lF.out.2.2.trans (h2.but _)⟩
 clear hgb e2 p3 g3 HG b1 b2 a1 hcb;go_upto_region 3 with fail;go_region_with (first|(go_at_call 244;refine(tX A 0 r.1.jy (OA.out _ (by repeat (first|exact aN _ _|refine abl ?_|refine abm ?_|refine abn ?_)))).mono ?_;rintro e w' ⟨rfl,rfl⟩)|(go_at_call 234;refine DT.out.mono ?_;rintro e w' ⟨rfl,rfl⟩));all_goals
  go_wp2_with fail;go_ret;exact⟨_,rfl,HFin.out _ _ _⟩
end
end
section
open Go.RowKit Hx
theorem afz(st:Ps->Option jK×Ps):∀(n:Nat)(l:List jK)(p:Ps),(pR st n l p).1.length<=l.length+n
 |0,l,_=>aj _
 |n+1,l,p=>by
  unfold pR;split
  .rename_i e q _;have:=afz st n (l++[e]) q;simp only[aA,aF,bg]at this;omega
  .simp only;omega
theorem afH(s:jm):∀(d:Nat)(p:Ps),(oH s d p).1.length<=s.size+1
 |0,_=>by simp[oH]
 |d+1,p=>by
  have:=afz (uJ s (vF s (d+1)) (xZ s (oH s d)) (vF s d) (s.size+1)) (s.size+1) [] p;simpa [oH]using this
theorem air(s:jm)(d:Nat)(p:Ps):(xZ s (oH s d) p).1.length<=s.size+1:=afH s d _
theorem afU{g:Nat}:∀{bs:List jK}{w w':jo}{lo hi:Nat}{us:List jr},(∀b∈bs,Lawful b.here)->sS g bs w lo hi us->(∀b,lo<=b->b<hi->b≠g->w'.heap[b]? =w.heap[b]?)->sS g bs w' lo hi us
 |[],_,_,_,_,_,_,h,_=>h
 |b::bs,_,_,_,_,_,hl,⟨l,m,u,us',h0,h1,h2,h3,h4,h5,h6⟩,hk=>
  ⟨l,m,u,us',h0,h1,h2,h3,h4,(hl b (aW ..)).loc _ _ _ _ _ h5 (λk k1 k2=>hk k (by omega) (by omega) (by omega)),afU (λc hc=>hl c (aI _ hc)) h6 (λk k1 k2 k3=>hk k (by omega) k2 k3)⟩
theorem amg{l:List jK}{w:jo}{B g lo hi:Nat}{v:jr}{us:List jr}(ho:w.ownsRow B 192 1 v l.length us)(hg:v.ownBlock=some g\/l=[])(hs:sS g l w lo hi us)(hlo:lo<=B)(hhi:w.heap.size<=hi):mO l w lo hi v:=by
 rcases ho with⟨h1,⟨h2,h3⟩|⟨g',cap,cur,h2,h3,h4,h5,h6,h7,h8⟩⟩
 .exact ji ⟨List.length_eq_zero_iff.1 h3,h2⟩
 .rcases hg with hg|hg
  .subst h2;simp only[Value.ownBlock,bJ]at hg;subst hg;refine jh ⟨g',cap,us,cur,rfl,by omega,by have:=lN h4;omega,hs,h4,λj u hj=>?_⟩;rw[<-h8]at hj;rw[iZ]at hj;split at hj
   .simpa using hj
   .cases hj
  .subst hg;have hs:us=[]:=hs;subst hs;subst h2;refine jh ⟨g',cap,[],cur,rfl,by omega,by have:=lN h4;omega,rfl,h4,λj u hj=>by simp at hj⟩
end
section
open Go.RowKit Hx
attribute [local go_sem ↓] Go.wp_at_zero Go.wp_at_succ
attribute [local go_sem] kL
section
variable {s:jm}{st:Ps->Option jK×Ps}{d:Nat}{p:Ps}
def aqH(st:Ps->Option jK×Ps)(gg:Nat)(l:List jK)(q:Ps):Option jK->List jK×Ps
 |some e=>pR st gg (l++[e]) q
 |none=>(l,q)
structure Fz(s:jm)(st:Ps->Option jK×Ps)(d:Nat)(R:List jK×Ps)(P:Nat)(w wr:jo)(vl vc:jr)(gg:Nat)(g:Nat)(l:List jK)(us:List jr)(cur:Option jK)(q:Ps)(m:Nat):Prop where
 vg:sS g l wr w.heap.size m us
 own:wr.ownsRow w.heap.size 192 1 vl l.length us
 jL:(vl.ownBlock=some g/\g<m)\/(l=[]/\vl=Nl)
 Gg:w.heap.size<=m
 EC:m<=wr.heap.size
 here:∀e,cur=some e->e.here wr m wr.heap.size vc/\nZ e/\(s.size:Int)+1-q.k.at'<=gg
 nil:cur=none->vc=.nilIface
 pr:jR wr P s q
 grown:w.grownBy wr (some P)
 ok:q.Ok s
 deep:Deep d q
 zZ:∀e∈l,nZ e
 len:l.length+gg<=100000
 eq:aqH st gg l q cur=R
theorem VY{w:jo}{B n:Nat}{v:jr}{us:List jr}(h:w.ownsRow B 192 1 v n us):∃a c,v=.slice a n c:=by
 rcases h with⟨_,⟨h2,h3⟩|⟨g,cap,cur,h2,_⟩⟩
 .subst h3;exact⟨_,_,h2⟩
 .exact⟨_,_,h2⟩
variable {R:List jK×Ps}{P:Nat}{w wr w2 w3:jo}{la:Option Addr}{lc ln gk g m gg cap:Nat}{l:List jK}{us:List jr}{vc:jr}{e:jK}{q:Ps}{o:Obj}
theorem Fz.abk(h:Fz s st d R P w wr (.slice la ln lc) vc gk g l us (some e) q m)(hgr:(wr.alloc o).grownBy w2 (Value.slice la ln lc).ownBlock)(hP:P<w.heap.size):
 (∀b,b<wr.heap.size->(b≠g\/m<=b)->w2.heap[b]? =wr.heap[b]?)/\jR w2 P s q/\w.grownBy w2 (some P)/\wr.heap.size<w2.heap.size:=by
 have C9:=(ah wr o _).trans hgr;have hs1:=hgr.size;rw[nU]at hs1;have hg0:=h.grown.size;rcases h.jL with⟨h1,h2⟩|⟨h1,h2⟩
 .rw[h1]at C9;have hgB:w.heap.size<=g:=by
   rcases h.own with⟨_,⟨k2,k3⟩|⟨g',cap',cur',k2,k3,_⟩⟩
   .rw[k2]at h1;cases h1
   .rw[k2]at h1;simp only[Value.ownBlock,bJ]at h1;omega
  exact⟨λb hb hb2=>C9.block b hb (by simp;omega),kG.oV h.pr C9 (by omega),h.grown.andThen C9 (λj ej=>by cases ej;exact ji hgB),by omega⟩
 .rw[h2]at C9;have C9:wr.grownBy w2 none:=C9;exact⟨λb hb _=>C9.block b hb (by simp),h.pr.grow C9,h.grown.trans (C9.but _),by omega⟩
theorem Fz.next(h:Fz s st d R P w wr (.slice la ln lc) vc gk g l us (some e) q m)(hst:Oc s st d)(hP:P<w.heap.size)(hln:l.length=ln)(hgr:(wr.alloc o).grownBy w2 (Value.slice la ln lc).ownBlock)
 (hown:w2.ownsRow w.heap.size 192 1 (.slice (some (Ad gg 0)) (ln+1) cap) (ln+1) (us++[vc]))(hat:(Value.slice la ln lc).ownBlock=some gg\/gg=wr.heap.size+1)(hlt2:gg<w2.heap.size)
 {v3:jr}(hv:match (st q).1 with|some st=>st.here w3 w2.heap.size w3.heap.size v3|none=>v3=.nilIface)(p3:jR w3 P s (st q).2)(g3:w2.grownBy w3 (some P)):
 ∃g',gk=g'+1/\Fz s st d R P w w3 (.slice (some (Ad gg 0)) (ln+1) cap) v3 g' gg (l++[e]) (us++[vc]) (st q).1 (st q).2 w2.heap.size:=by
 obtain⟨eh,eo,ef⟩:=h.here e rfl;obtain⟨n1,n2,n3,n4⟩:=h.abk hgr hP;have hbd:=h.ok.tok.bd;have ash:=h.ok.tok.oQ;obtain⟨g',hg'⟩:∃g',gk=g'+1:=⟨gk-1,by omega⟩;have hs0:=h.grown.size;have hs3:=g3.size;have akA:=h.Gg;have akx:=h.EC;have hgm:gg=g/\g<m\/wr.heap.size<=gg:=by
  rcases hat with h1|h1
  .rcases h.jL with⟨h2,h3⟩|⟨_,h2⟩
   .rw[h2]at h1;exact ji ⟨(fZ h1).symm,h3⟩
   .rw[h2]at h1;cases h1
  .exact jh (by omega)
 have hl:∀b∈l,Lawful b.here:=λb hb=>(h.zZ b hb).law;have k1:=afU hl h.vg (λb b1 b2 b3=>n1 b (by omega) (ji b3));have k2:sS gg l w2 w.heap.size m us:=by
  rcases hgm with⟨h1,_⟩|h1
  .rw[h1];exact k1
  .exact afV k1 (by omega)
 have k3:=eo.law.loc _ _ _ _ _ eh (λb b1 b2=>n1 b b2 (jh b1));have k4:sS gg (l++[e]) w2 w.heap.size w2.heap.size (us++[vc]):=afW k2 k3 akA akx (by omega) (by omega);have abB:∀x∈l++[e],nZ x:=λx hx=>by
  rcases List.mem_append.1 hx with hx|hx
  .exact h.zZ x hx
  .rw[cO.1 hx];exact eo
 have hBg:w.heap.size<=gg:=by
  rcases hown with⟨_,⟨z2,_⟩|⟨g2,cap2,asb,z2,z3,_⟩⟩
  .cases z2
  .cases z2;exact z3
 refine⟨g',hg',⟨J3 (λb hb=>(abB b hb).law) k4 (λb b1 b2=>g3.block b b2 (by simp;omega)),?_,ji ⟨rfl,hlt2⟩,by omega,hs3,?_,?_,p3,n3.trans g3,?_,?_,abB,?_,?_⟩⟩
 .have:=hown.kept g3 (jh (by simp[Value.ownBlock];omega));simpa [hln]using this
 .intro x hx;rcases hst q h.ok h.deep with⟨e',q',h4,h5⟩|h4
  .rw[h4]at hx hv⊢;simp only[bJ]at hx;subst hx;have hm:=h5.more;simp only at hm;exact⟨hv,h5.zZ,by show(s.size:Int)+1-q'.k.at'<=(g':Int);omega⟩
  .rw[h4]at hx;cases hx
 .intro hx;rw[hx]at hv;exact hv
 .rcases hst q h.ok h.deep with⟨e',q',h4,h5⟩|h4
  .rw[h4];exact h5.goes.ok
  .rw[h4];exact h.ok
 .rcases hst q h.ok h.deep with⟨e',q',h4,h5⟩|h4
  .rw[h4];exact h.deep.good h5.goes
  .rw[h4];exact h.deep
 .have:=h.len;simp only[aA,aF,bg];omega
 .have hR:pR st gk (l++[e]) q=R:=h.eq;rw[hg']at hR;unfold pR at hR;rcases hst q h.ok h.deep with⟨e',q',h4,h5⟩|h4
  .rw[h4]at hR⊢;exact hR
  .rw[h4]at hR⊢;exact hR
theorem afC(hst:Oc s st d)(hr:∀p,p.Ok s->Deep d p->CG s p (st p))(n:Nat)(hn:s.size<=n)(hn2:n<=50000)(ok:p.Ok s)(hd:Deep d p):G6 141 s p (pR st (n+1) [] p):=by
 intro P w hp;have hlt:=hp.lt;obtain⟨i0,hi,hz0,hz1,hz2⟩:=info_parts ala;have H1:=jB (hr p ok hd P w hp);have H2:=jB (λq (h1:q.Ok s)(h2:Deep d q) x (hx:jR x P s q)=>hr q h1 h2 P x hx);have HI:Hid (∀w' v,(match (st p).1 with|some st=>st.here w' w.heap.size w'.heap.size v|none=>v=.nilIface)->jR w' P s (st p).2->w.grownBy w' (some P)->Fz s st d (pR st (n+1) [] p) P w w' (Nl) v n 0 [] [] (st p).1 (st p).2 w.heap.size):=λw' v hv h2 h3=>by
  have hat:=ok.tok.oQ;refine⟨rfl,fK _ _ _ _,jh ⟨rfl,rfl⟩,aj _,h3.size,?_,?_,h2,h3,?_,?_,by simp,by simp;omega,?_⟩
  .intro e he;rcases hst p ok hd with⟨e',q',h4,h5⟩|h4
   .rw[h4]at he hv⊢;simp only[bJ]at he;subst he;have hm:=h5.more;simp only at hm;exact⟨hv,h5.zZ,by show(s.size:Int)+1-q'.k.at'<=(n:Int);omega⟩
   .rw[h4]at he;cases he
  .intro he;rw[he]at hv;exact hv
  .rcases hst p ok hd with⟨e',q',h4,h5⟩|h4
   .rw[h4];exact h5.goes.ok
   .rw[h4];exact ok
  .rcases hst p ok hd with⟨e',q',h4,h5⟩|h4
   .rw[h4];exact hd.good h5.goes
   .rw[h4];exact hd
  .conv=>rhs;unfold pR
   rcases hst p ok hd with⟨e',q',h4,h5⟩|h4
   .rw[h4];rfl
   .rw[h4];rfl
 have HST:=jB hst;generalize pR st (n+1) [] p=R at *;clear hp hr hst ok hd;go_enter func141,ntmps141;go_wp2_with fail;refine H1.out.mono ?_;rintro e w1 ⟨⟨v,rfl,hv⟩,h2,h3⟩;have HO:=jB (HI.out w1 v hv h2 h3);clear hv h2 h3 H1 HI;go_wp2_with fail;go_loopg [3,4] n (λgg vl vc wr=>Hid (∃g l us cur q m,Fz s st d R P w wr vl vc gg g l us cur q m))
 case atStart=>exact⟨_,_,_,_,_,_,HO.out⟩
 case round=>
  obtain⟨g,l,us,cur,q,m,hI⟩:=hrel.out;clear hrel HO;obtain⟨la,lc,hvl⟩:=VY hI.own;subst hvl;cases cur with
  |none=>
   have UM:=hI.nil rfl;subst UM;have HF:Hid (mO R.1 wr w.heap.size wr.heap.size (.slice la l.length lc)/\jR wr P s R.2/\w.grownBy wr (some P)):=by
    have hR:=hI.eq;rw[<-hR];refine⟨amg hI.own ?_ (WO hI.vg hI.EC) (aj _) (aj _),hI.pr,hI.grown⟩;rcases hI.jL with⟨h1,_⟩|⟨h1,_⟩
    .exact ji h1
    .exact jh h1
   clear hI H2 HST;go_wp2_with fail;go_ret;exact⟨_,rfl,HF.out⟩
  |some e=>
   obtain⟨eh,eo,ef⟩:=hI.here e rfl;obtain⟨T,b,UM,hT,b1,b2,b3⟩:=eo.head _ _ _ _ eh;subst UM;have HN:=jB hI;have hlen:l.length<=100000:=by have:=hI.len;omega
   have Sj:=jB (λo=>hI.own.alloc o);have hsz:=hI.grown.size;obtain⟨ln,hln⟩:∃ln,l.length=ln:=⟨_,rfl⟩;rw[hln]at Sj hlen⊢;have RX:=jB hln;clear hI eh eo ef b1 b2 b3 hln;go_wp2_with (at_builtin;refine wpList_append_lies _ rfl _ _ 105 rfl w.heap.size 192 i0 .nilIface 1 16 Tryz.underlying105 hi hz0 hz1 hz2 rfl (by decide) (.slice la ln lc) ln us rfl (Sj.out _) (Ad wr.heap.size 0) 1 1 [.iface T (Pt b 0)] rfl rfl (cell_one_new _ _ _) (by simp[Value.oneCell']) (by decide) (by unfold maxLen;omega) (by omega) (by simp;omega) (wr.heap.size+1) (by simp) ?_;intro gg cap w2 hown hgr hat hlt2);have HG:=jB (jg hgr (jg hown (jg hat hlt2)));have Fa:Hid (Fz s st d R P w wr (.slice la ln lc) (.iface T (Pt b 0)) gk g l us (some e) q m):=by
    have:=HN.out;rw[RX.out]at this;exact this
   clear hgr hown hat hlt2 HN Sj;refine(H2.out q Fa.out.ok Fa.out.deep _ (Fa.out.abk HG.out.1 hlt).2.1).mono ?_;rintro e1 w3 ⟨⟨v3,rfl,hv⟩,p3,g3⟩;obtain⟨g',hg',hnew⟩:=Fa.out.next HST.out hlt RX.out HG.out.1 HG.out.2.1 HG.out.2.2.1 HG.out.2.2.2 hv p3 g3;have wM:=jB hnew;clear hv p3 g3 hnew H2 Fa HG;go_wp2_with fail;go_roundg g'
   case measure=>omega
   case rel=>exact⟨_,_,_,_,_,_,wM.out⟩
end
end
end Go.Proofs.YthllhabjfchgiaaGreatDoor
