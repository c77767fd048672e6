import Derived.Test.YthllhabjfchgiaaGreatDoorHz30
set_option maxRecDepth 100000
set_option maxHeartbeats 8000000
namespace Go.Proofs.YthllhabjfchgiaaGreatDoor
open _root_.Go.Proofs.Tryz
section
open Go.RowKit Hx
attribute [local go_sem ↓] Go.wp_at_zero Go.wp_at_succ
attribute [local go_sem] bT
section
variable {w w' w1 w2:World}{C lo hi b S:Nat}{c:Co}{u:Value}{e l r:Ex}{a:Int}{T:TypeId}{x:Sx}
theorem ae1{kind aj:Int}{us:List Value}(hb:w.heap[b]? =some (.cells (Im a::Im aj::Im kind::us).toArray 415)):
 Calls prog 397 #[Pt b 0] w fun e w'=>e=.returned (Im (if kind=3\/kind=4 then -1 else 0))/\w'=w:=by
 have c2:w.cell? (Ad b 2)=some (Im kind):=aA hb;clear hb;by_cases h3:kind=3
 .subst h3;go_enter func397,ntmps397;go_wp2;go_ret;exact⟨rfl,rfl⟩
 .have b3:(kind==3)=false:=by simp[h3]
  by_cases h4:kind=4
  .subst h4;go_enter func397,ntmps397;go_wp2;go_ret;exact⟨rfl,rfl⟩
  .have b4:(kind==4)=false:=by simp[h4]
   rw[if_neg (by omega)];go_enter func397,ntmps397;go_wp2;go_ret;exact⟨rfl,rfl⟩
def uM(what:List UInt8)(c:Co)(answer best one with':Int):Co:=
 if what==[109,105,110]then c.lay 25 [answer,best,one,with']else if what==[109,97,120]then c.lay 26 [answer,best,one,with']
 else if what==[115,117,109]then c.lay 10 [answer,answer,with']else if what==[97,110,121]then c.lay 20 [answer,answer,with']else c
theorem aex(what:List UInt8)(c:Co)(a b o i:Int):(uM what c a b o i).au=c.au:=by
 unfold uM;repeat' split
 all_goals rfl
theorem VO(what:List UInt8)(c:Co)(a b o i:Int):(uM what c a b o i).code.length<=c.code.length+41:=by
 have h1:=kG c 25 [a,b,o,i];have h2:=kG c 26 [a,b,o,i];have h3:=kG c 10 [a,a,i];have h4:=kG c 20 [a,a,i];simp only[List.length_cons,List.length_nil]at h1 h2 h3 h4;unfold uM;repeat' split
 all_goals omega
structure Jq(kind:Int)(x:Sx)(b:Wd×Ex)(c:Co)(c1 c2 c3 c4:Co)(answer best one is:Int):Prop where
 h1:c.hold=(c1,answer)
 h2:c1.hold=(c2,best)
 h3:(c2.lay 6 [answer,if kind=3\/kind=4 then -1 else 0]).open' (bZ x.base) x.aH=(c3,one)
 h4:c3.inside b.1.text b.2.does one=(c4,is)
theorem Lj{kind:Int}{what:ByteArray}{b:Wd×Ex}{c1 c2 c3 c4:Co}{answer best one is:Int}(h:Jq kind x b c c1 c2 c3 c4 answer best one is)(into:Int):
 (Lh kind what x b).bJ c into=(((uM what.data.toList c4 answer best one is).lay 0 []).dw (wrap64 (answer+1)),answer):=by
 show((_:Co),c.hold.2)=_;rw[h.h1];simp only;rw[h.h2];simp only;rw[h.h3];simp only;rw[h.h4]
 rfl
theorem PE(kind:Int)(x:Sx)(b:Wd×Ex)(c:Co):∃c1 c2 c3 c4 answer best one is,Jq kind x b c c1 c2 c3 c4 answer best one is:=⟨_,_,_,_,_,_,_,_,rfl,rfl,rfl,rfl⟩
theorem Jq.dB{kind:Int}{t:Wd}{c1 c2 c3 c4:Co}{answer best one is:Int}(h:Jq kind x (t,e) c c1 c2 c3 c4 answer best one is)(hs:qL x)(he:dJ e)(hk:e.aj<=1000000):
 c1.code=c.code/\c1.au=c.au/\c2.code=c.code/\c2.au=c.au/\c3.au=c.au/\(c3.code.length:Int)<=c.code.length+73+200 * (x.aj-1)/\c4.au=c.au/\(c4.code.length:Int)<=c.code.length+123+200 * (x.aj-1)+200 * e.aj:=by
 have e1:c1=c.hold.1:=by rw[h.h1]
 have e2:c2=c1.hold.1:=by rw[h.h2]
 have e3:c3=((c2.lay 6 [answer,if kind=3\/kind=4 then -1 else 0]).open' (bZ x.base) x.aH).1:=by rw[h.h3]
 have e4:c4=(c3.inside t.text e.does one).1:=by have:=h.h4;simp only at this;rw[this]
 have k1:c1.code=c.code:=by rw[e1];rfl
 have n1:c1.au=c.au:=by rw[e1];rfl
 have k2:c2.code=c.code:=by rw[e2];exact k1
 have n2:c2.au=c.au:=by rw[e2];exact n1
 have n3:c3.au=c.au:=by rw[e3,afs hs];exact n2
 have k3:=P6 (c:=c2.lay 6 [answer,if kind=3\/kind=4 then -1 else 0]) hs (bZ x.base);rw[<-e3]at k3;have Vp:=kG c2 6 [answer,if kind=3\/kind=4 then -1 else 0];rw[k2]at Vp;simp only[List.length_cons,List.length_nil]at Vp;have n4:c4.au=c.au:=by rw[e4,OY he];exact n3
 have k4:=OX (c:=c3) he t.text one hk;rw[<-e4]at k4;exact⟨k1,n1,k2,n2,n3,by omega,n4,by omega⟩
theorem aey{N:Nat}(hN:N<=100000)(h:nO N dJ x)(kind:Int)(what:ByteArray)(t:Wd)(he:dJ e):dJ (tH kind what x (t,e)):=by
 have hx:fM x:=⟨h.aj,h.of,fun b hb=>(h.all b hb).ok⟩;have rV:Lawful (dF x):=IK fun b hb a=>(h.all b hb).ok.law a;have ec:=he.ok.aj;have hsg:bD [x.aj,x.round e.aj]<=1000000->qL x/\e.aj<=1000000/\2+x.aj+e.aj<=bD [x.aj,x.round e.aj]:=fun hk=>by
  have hrb:=tY (x:=x) ec;have hp:=Fg h.aj.1 h.aj.2 hrb.1 hrb.2 hk;have hg:=Qn (x:=x) ec.1 (by have:=h.aj;omega);exact⟨qL.of hN h (by omega),by have:=h.aj;omega,by omega⟩
 refine⟨PD kind what hx (b:=(t,e)) he.ok,fun c into=>?_,fun c into hk=>?_,?_⟩
 .obtain⟨c1,c2,c3,c4,answer,best,one,is,hm⟩:=PE kind x (t,e) c;show((Lh kind what x (t,e)).bJ c into).1.au=c.au;rw[Lj hm];show(uM what.data.toList c4 answer best one is).au=c.au;rw[aex];have e4:c4=(c3.inside t.text e.does one).1:=by have:=hm.h4;simp only at this;rw[this]
  have e3:c3=((c2.lay 6 [answer,if kind=3\/kind=4 then -1 else 0]).open' (bZ x.base) x.aH).1:=by rw[hm.h3]
  have e2:c2=c1.hold.1:=by rw[hm.h2]
  have e1:c1=c.hold.1:=by rw[hm.h1]
  have hfn:∀(fs:List (Wd×Ex))(c:Co)(one:Int),(∀b∈fs,dJ b.2)->(Co.aH one fs c).au=c.au:=by
   intro fs;induction fs with
   |nil=>intro c one _;rfl
   |cons b fs ih=>
    intro c one hb;have e:Co.aH one (b::fs) c=Co.aH one fs (zM one c b):=rfl;rw[e,ih _ _ (fun d hd=>hb d (List.mem_cons_of_mem _ hd)),N7 one (hb b (List.mem_cons_self ..))]
  rw[e4,OY he,e3];refine(hfn _ _ _ h.all).trans ?_;rw[e2,e1]
  rfl
 .obtain⟨c1,c2,c3,c4,answer,best,one,is,hm⟩:=PE kind x (t,e) c;obtain⟨hs,Kw,hp⟩:=hsg hk;have hg:=hm.dB hs he Kw;show(((Lh kind what x (t,e)).bJ c into).1.code.length:Int)<=c.code.length+200 * bD [x.aj,x.round e.aj]+50;rw[Lj hm];have h1:=VO what.data.toList c4 answer best one is;have h2:=kG (uM what.data.toList c4 answer best one is) 0 [];simp only[List.length_nil]at h2;show((((uM what.data.toList c4 answer best one is).lay 0 []).code.length:Nat):Int)<=_;have:=hg.2.2.2.2.2.2.2;omega
 rintro a w lo hi T b C c into ⟨b',us,hv,h1,h2,⟨m,u,v,rfl,hm1,hm2,hu,hv2⟩,hb⟩ hC hc hr;cases hv;obtain⟨hs,Kw,hp⟩:=hsg hr.aj;have hr:lQ c (bD [x.aj,x.round e.aj]):=hr;have hrc:=hr.code;have hrn:=hr.au;have hrk:=hr.aj;obtain⟨c1,c2,c3,c4,answer,best,one,is,hm⟩:=PE kind x (t,e) c;obtain⟨g1,g2,g3,g4,g5,g6,g7,g8⟩:=hm.dB hs he Kw;obtain⟨S,fv,rfl,_⟩:=oG hu;obtain⟨T2,b2,rfl,_⟩:=he.ok.head _ _ _ _ _ hv2;obtain⟨tt,ta⟩:=t;have hbC:b<C:=by omega
 have lJ:Hid (∀y,Gk w y C->y.heap[b]? =some (.cells (Im a::Im (bD [x.aj,x.round e.aj])::Im kind::[.string what,Pt S 0,.string tt,Im ta,.iface T2 (Pt b2 0)]).toArray 415)):=fun y hy=>(hy.aN b hbC).trans hb;have hxs:=h.aj;have BO:Hid (∀y,Gk w y C->aV y C (c2.lay 6 [answer,if kind=3\/kind=4 then -1 else 0])->Calls prog 350 #[Pt C 0,Pt S 0] y fun en w'=>en=.returned (Im one)/\aV w' C c3/\Gk y w' C):=fun y hy hg=>by
  have h3:=kG c2 6 [answer,if kind=3\/kind=4 then -1 else 0];simp only[List.length_cons,List.length_nil]at h3;rw[g3]at h3;have:=Uc hs (rV.gk hu hy (by omega)) (by omega:m<=C) hg ⟨by omega,by omega,by show((c2.au).length:Int)+_<=_;rw[g4];omega⟩;rw[hm.h3]at this;exact this
 have xZ:Hid (∀y,Gk w y C->aV y C c3->Calls prog 352 #[Pt C 0,.agg #[.string tt,Im ta,.iface T2 (Pt b2 0)],Im one] y fun en w'=>en=.returned (Im is)/\aV w' C c4/\Gk y w' C):=fun y hy hg=>by
  have:=TY he ((he.ok.law _).gk hv2 hy (by omega)) (by omega:b<=C) hg ⟨by omega,by omega,by rw[g5];omega⟩ tt ta one;rw[hm.h4]at this;exact this
 have Ar:Hid (Calls prog 306 #[Pt C 0] w fun e w'=>e=.returned (Im answer)/\aV w' C c1/\Gk w w' C):=by
  have:=GK hc;rw[hm.h1]at this;exact this
 have FT:Hid (∀y,aV y C c1->Calls prog 306 #[Pt C 0] y fun e w'=>e=.returned (Im best)/\aV w' C c2/\Gk y w' C):=fun y hy=>by
  have:=GK hy;rw[hm.h2]at this;exact this
 have Y6:Hid (∀y,Gk w y C->Calls prog 397 #[Pt b 0] y fun e w'=>e=.returned (Im (if kind=3\/kind=4 then -1 else 0))/\w'=y):=fun y hy=>ae1 (lJ.out y hy);have l2:c2.code.length<=850000000:=by rw[g3];omega
 have l4:c4.code.length<=850000000:=by omega
 refine⟨395,fun w=>by kernel_rfl,fun args w=>by kernel_rfl,?_⟩;have fP:Hid (∀y,Gk w y C->aV y C ((uM what.data.toList c4 answer best one is).lay 0 [])->((∃u,y.cell? (Ad C 2)=some u)/\∀j,y.frozen? (Ad C j)=false)/\aV (y.setCell (Ad C 2) (Im (wrap64 (answer+1)))) C (((tH kind what x (⟨tt,ta⟩,e)).does.bJ c into).1)/\Gk w (y.setCell (Ad C 2) (Im (wrap64 (answer+1)))) C):=fun y hy hg=>by
  have e0:(tH kind what x (⟨tt,ta⟩,e)).does.bJ c into=_:=Lj hm into;rw[e0];obtain⟨v5,Il,p5⟩:=hg;exact⟨⟨⟨_,aA p5.aW⟩,fun j=>eu p5.aW⟩,⟨v5,Il,p5.dw _⟩,hy.trans (Gk.free _ _ _)⟩
 have hres:((tH kind what x (⟨tt,ta⟩,e)).does.bJ c into).2=answer:=by
  have e0:(tH kind what x (⟨tt,ta⟩,e)).does.bJ c into=_:=Lj hm into;rw[e0]
 rw[hres];clear hres hm hu hv2 hb hc hr h hx rV ec hsg hs he Kw hp hrc hrn hrk g1 g2 g3 g4 g5 g6 g7 g8 hxs;generalize ((tH kind what x (⟨tt,ta⟩,e)).does.bJ c into).1=R at *;generalize (if kind=3\/kind=4 then (-1:Int)else 0)=zz at *;have lN:Hid (∀y,aV y C (uM what.data.toList c4 answer best one is)->Calls prog 92 #[Pt C 0,.int .u8 0,Nl] y fun e w'=>e=.returned (.tuple #[])/\aV w' C ((uM what.data.toList c4 answer best one is).lay 0 [])/\Gk y w' C):=fun y hy=>AZ hy 0 (by have:=VO what.data.toList c4 answer best one is;omega);obtain⟨m1,acs⟩:∃m1:Bool,(what.toList==[109,105,110])=m1:=⟨_,rfl⟩;obtain⟨m2,acu⟩:∃m2:Bool,(what.toList==[109,97,120])=m2:=⟨_,rfl⟩;obtain⟨m3,acv⟩:∃m3:Bool,(what.toList==[115,117,109])=m3:=⟨_,rfl⟩;obtain⟨m4,acw⟩:∃m4:Bool,(what.toList==[97,110,121])=m4:=⟨_,rfl⟩;have Rt:Hid (uM what.data.toList c4 answer best one is=if m1 then c4.lay 25 [answer,best,one,is]else if m2 then c4.lay 26 [answer,best,one,is]else if m3 then c4.lay 10 [answer,answer,is]else if m4 then c4.lay 20 [answer,answer,is]else c4):=by
  unfold uM;rw[<-ByteArray.toList_eq,acs,acu,acv,acw];exact bC rfl
 rw[Rt.out]at fP lN;clear Rt;go_enter func395,ntmps395;go_wp2_with fail;refine Ar.out.mono ?_;rintro en w1 ⟨rfl,p1,q1⟩;have eG:Hid (aV w1 C c1/\Gk w w1 C):=⟨p1,q1⟩;clear p1 q1 Ar;go_wp2_with fail;refine(FT.out _ eG.out.1).mono ?_;rintro en w2 ⟨rfl,p2,q2⟩;have qm:Hid (Calls prog 92 #[Pt C 0,.int .u8 6,.slice (some (Ad w2.heap.size 0)) 2 2] (w2.alloc (.cells #[Im answer,Im zz] 3)) fun e w'=>e=.returned (.tuple #[])/\aV w' C (c2.lay 6 [answer,zz])/\Gk w2 w' C):=vT p2 6 answer zz (by omega);have dO:Hid (Gk w w2 C):=eG.out.2.trans q2;clear p2 q2 FT eG;go_wp2_with fail;refine(Y6.out _ dO.out).mono ?_;rintro en w2' ⟨rfl,rfl⟩;go_wp2_with fail;refine qm.out.mono ?_;rintro en w3 ⟨rfl,p3,q3⟩;have hb3:=lJ.out w3 (dO.out.trans q3);have d4:w3.cell? (Ad b 4)=some (Pt S 0):=aA hb3;have lC:Hid (aV w3 C (c2.lay 6 [answer,zz])/\Gk w w3 C):=⟨p3,dO.out.trans q3⟩;clear p3 q3 hb3 qm dO;go_wp2_with fail;refine(BO.out _ lC.out.2 lC.out.1).mono ?_;rintro en w4 ⟨rfl,p4,q4⟩;have hb4:=lJ.out w4 (lC.out.2.trans q4);have e5:w4.cell? (Ad b 5)=some (.string tt):=aA hb4;have e6:w4.cell? (Ad b 6)=some (Im ta):=aA hb4;have e7:w4.cell? (Ad b 7)=some (.iface T2 (Pt b2 0)):=aA hb4;have nN:Hid (aV w4 C c3/\Gk w w4 C):=⟨p4,lC.out.2.trans q4⟩;clear p4 q4 hb4 lC BO;go_wp2_with fail;refine(xZ.out _ nN.out.2 nN.out.1).mono ?_;rintro en w5 ⟨rfl,p5,q5⟩;have hb5:=lJ.out w5 (nN.out.2.trans q5);have f3:w5.cell? (Ad b 3)=some (.string what):=aA hb5;have qY:Hid (aV w5 C c4/\Gk w w5 C):=⟨p5,nN.out.2.trans q5⟩
 clear p5 q5 hb5 nN xZ lJ e5 e6 e7 d4;have D7:Hid (∀o,Calls prog 92 #[Pt C 0,.int .u8 o,.slice (some (Ad w5.heap.size 0)) 4 4] (w5.alloc (.cells #[Im answer,Im best,Im one,Im is] 3)) fun e w'=>e=.returned (.tuple #[])/\aV w' C (c4.lay o [answer,best,one,is])/\Gk w5 w' C):=fun o=>abG qY.out.1 o answer best one is (by omega);have pF:Hid (∀o,Calls prog 92 #[Pt C 0,.int .u8 o,.slice (some (Ad w5.heap.size 0)) 3 3] (w5.alloc (.cells #[Im answer,Im answer,Im is] 3)) fun e w'=>e=.returned (.tuple #[])/\aV w' C (c4.lay o [answer,answer,is])/\Gk w5 w' C):=fun o=>J7 qY.out.1 o answer answer is (by omega);cases m1 with
 |true=>
  simp only[if_true]at fP lN;go_wp2_with fail;refine(D7.out _).mono ?_;rintro en w6 ⟨rfl,p6,q6⟩;have rJ:Hid (aV w6 C (c4.lay 25 [answer,best,one,is])/\Gk w w6 C):=⟨p6,qY.out.2.trans q6⟩;clear p6 q6 D7 pF qY;go_wp2_with fail;refine(lN.out _ rJ.out.1).mono ?_;rintro en w7 ⟨rfl,p7,q7⟩;obtain⟨⟨⟨uu,d2⟩,fz⟩,z1,z2⟩:=fP.out w7 (rJ.out.2.trans q7) p7;have HE:=bC (And.intro z1 z2);clear p7 q7 z1 z2 lN fP rJ;go_wp2_with fail;go_ret;exact⟨rfl,HE.out⟩
 |false=>
  simp only[Bool.false_eq_true,if_false]at fP lN;cases m2 with
  |true=>
   simp only[if_true]at fP lN;go_wp2_with fail;refine(D7.out _).mono ?_;rintro en w6 ⟨rfl,p6,q6⟩;have rJ:Hid (aV w6 C (c4.lay 26 [answer,best,one,is])/\Gk w w6 C):=⟨p6,qY.out.2.trans q6⟩;clear p6 q6 D7 pF qY;go_wp2_with fail;refine(lN.out _ rJ.out.1).mono ?_;rintro en w7 ⟨rfl,p7,q7⟩;obtain⟨⟨⟨uu,d2⟩,fz⟩,z1,z2⟩:=fP.out w7 (rJ.out.2.trans q7) p7;have HE:=bC (And.intro z1 z2);clear p7 q7 z1 z2 lN fP rJ;go_wp2_with fail;go_ret;exact⟨rfl,HE.out⟩
  |false=>
   simp only[Bool.false_eq_true,if_false]at fP lN;cases m3 with
   |true=>
    simp only[if_true]at fP lN;go_wp2_with fail;refine(pF.out _).mono ?_;rintro en w6 ⟨rfl,p6,q6⟩;have rJ:Hid (aV w6 C (c4.lay 10 [answer,answer,is])/\Gk w w6 C):=⟨p6,qY.out.2.trans q6⟩;clear p6 q6 D7 pF qY;go_wp2_with fail;refine(lN.out _ rJ.out.1).mono ?_;rintro en w7 ⟨rfl,p7,q7⟩;obtain⟨⟨⟨uu,d2⟩,fz⟩,z1,z2⟩:=fP.out w7 (rJ.out.2.trans q7) p7;have HE:=bC (And.intro z1 z2);clear p7 q7 z1 z2 lN fP rJ;go_wp2_with fail;go_ret;exact⟨rfl,HE.out⟩
   |false=>
    simp only[Bool.false_eq_true,if_false]at fP lN;cases m4 with
    |true=>
     simp only[if_true]at fP lN;go_wp2_with fail;refine(pF.out _).mono ?_;rintro en w6 ⟨rfl,p6,q6⟩;have rJ:Hid (aV w6 C (c4.lay 20 [answer,answer,is])/\Gk w w6 C):=⟨p6,qY.out.2.trans q6⟩;clear p6 q6 D7 pF qY;go_wp2_with fail;refine(lN.out _ rJ.out.1).mono ?_;rintro en w7 ⟨rfl,p7,q7⟩;obtain⟨⟨⟨uu,d2⟩,fz⟩,z1,z2⟩:=fP.out w7 (rJ.out.2.trans q7) p7;have HE:=bC (And.intro z1 z2);clear p7 q7 z1 z2 lN fP rJ;go_wp2_with fail;go_ret;exact⟨rfl,HE.out⟩
    |false=>
     simp only[Bool.false_eq_true,if_false]at fP lN;go_wp2_with fail;refine(lN.out _ qY.out.1).mono ?_;rintro en w7 ⟨rfl,p7,q7⟩;obtain⟨⟨⟨uu,d2⟩,fz⟩,z1,z2⟩:=fP.out w7 (qY.out.2.trans q7) p7;have HE:=bC (And.intro z1 z2);clear p7 q7 z1 z2 lN fP qY;go_wp2_with fail;go_ret;exact⟨rfl,HE.out⟩
theorem abI(N:Nat)(hN:N<=100000):zu N dJ dJ where
 aj:=fun _ h=>h.ok.aj
 number:=aeU
 sK:=aiZ
 none:=V7
 register:=agO
 use:=ajf
 rF:=fun _ a h=>ajp h a
 isNone:=fun a _ h=>adr h a
 minus:=fun a sign _ _ h=>Wp h a 1 sign
 not:=fun a sign _ _ h=>Wp h a 2 sign
 two:=fun a sign _ _ h k=>ai4 h k a _ sign
 property:=fun a _ t h=>afW h a _ _ t
 PV:=fun a _ _ h k=>ae8 h k a
 JB:=fun k what _ h=>SC hN h k what
 Dq:=fun k what _ b h hb=>aey hN h k what b.1 hb
theorem abo(s:ByteArray)(hs:s.size<=4000)(d:Nat)(p:Ps):dJ (pJ s d p).1:=
 NV s (fun _=>dJ) V7 (fun _=>abI (s.size+1) (by omega)) d p
end
section
variable {w w' w1 w2 w3 w4:World}{C lo hi b d m k:Nat}{c:Ck}{u v:Value}{e f:Ex}{a:Int}{T:TypeId}{x:Sx}
structure uy(d:Nat)(s:bI):Prop where
 ok:fQ s
 au:∀c,∃more,(s.does.look c).au=c.au++more/\more.length<=1
 look:∀w lo hi T b C c,s.here w lo hi (.iface T (Pt b 0))->hi<=C->bU w C c->c.au.length+10000 * d<=805000->
  ∃f,(∀w,(method 576 T (Pt b 0) "helm/lang.look").run prog w=.ok (f,Pt b 0) w)/\Enters f/\
   Calls prog f #[Pt b 0,Pt C 0] w fun en w'=>en=.returned (.tuple #[])/\s.here w' lo hi (.iface T (Pt b 0))/\bU w' C (s.does.look c)/\Lk w w' lo hi C
theorem Fz{c c':Ck}(h:c'.au=c.au):∃more,c'.au=c.au++more/\more.length<=1:=⟨[],by rw[h,List.append_nil],by simp⟩
theorem O7{T' T:TypeId}{at' aj:Int}{mk:List Value->List Value}{ds:Ds}{c':Ck}{w0:World}(he:cZ e)(h1:lo<=b)(h2:b<hi)(hC:hi<=C)(hb:w.heap[b]? =some (.cells (Im at'::Im aj::mk [u]).toArray T))
 {bk:Nat}(h0:Lk w w0 0 0 C)(hl:dW e e.at' w0 w1 lo b u bk C c')(hw:Lk w1 w2 0 0 C)(hc:bU w2 C (ds.look c)):(xE T' T at' aj (nU (e.here e.at')) mk ds).here w2 lo hi (.iface T' (Pt b 0))/\bU w2 C ((xE T' T at' aj (nU (e.here e.at')) mk ds).does.look c)/\Lk w w2 lo hi C:=by
 have kk:Lk w w2 lo b C:=(h0.all _ _).trans (hl.aN.trans (hw.all _ _));have hb2:=(kk.aN b (by omega) (Or.inr (Nat.le_refl _))).trans hb;exact⟨⟨b,[u],rfl,h1,h2,⟨u,rfl,(he.law _).lk hl.here hw (by omega) (Or.inr (Nat.zero_le _))⟩,hb2⟩,hc,kk.wide (Nat.le_refl _) (by omega)⟩
theorem Xt(a:Int):fQ (Bq a):=qR (by simp[mJ]) Ac (by omega)
theorem Yc(a i:Int)(h:cZ e):fQ (BF a i e):=qR (by simp[mJ]) (uJ (h.law _)) (yQ h.aj)
theorem XT(t:Wd)(h:cZ e):fQ (tZ t e):=qR (by simp[mJ]) (uJ (h.law _)) (yQ h.aj)
theorem VL(a:Int)(t:Wd)(h:cZ e):fQ (yO a t e):=qR (by simp[mJ]) (uJ (h.law _)) (yQ h.aj)
theorem Xc(a:Int)(h:cZ e)(k:cZ f):fQ (yR a e f):=qR (by simp[mJ]) (tu (h.law _) (k.law _)) (Bo h.aj k.aj)
theorem agW(d:Nat)(a:Int):uy d (Bq a):=by
 refine⟨Xt a,fun c=>Fz rfl,?_⟩;rintro w lo hi T b C c ⟨b',us,hv,h1,h2,h3,hb⟩ hC hc hn;cases hv;refine⟨333,fun w=>by kernel_rfl,fun args w=>by kernel_rfl,?_⟩;have HE:Hid ((Bq a).here w lo hi (.iface 336 (Pt b 0))/\bU w C c/\Lk w w lo hi C):=⟨⟨b,us,rfl,h1,h2,h3,hb⟩,hc,Lk.refl _ _ _ _⟩;clear hb hc h3;go_enter func333,ntmps333;go_wp2_with fail;go_end0;exact⟨rfl,HE.out⟩
theorem aiy(h:dQ k e)(hk:k<=10000 * d)(a i:Int):uy d (BF a i e):=by
 refine⟨Yc a i h.ok,fun c=>Fz ?_,?_⟩
 .show((e.does.look c).want (e.does.bY c.au) e.at' 1).au=c.au;rw[ql,h.au]
 rintro w lo hi T b C c ⟨b',us,hv,h1,h2,⟨u,rfl,hu⟩,hb⟩ hC hc hn;cases hv;obtain⟨T1,b1,f1,rfl,hT1,l1,l2,m1,dU,H1⟩:=h.use (C:=C) (c:=c) hu (by omega) hc (by omega);have c3:w.cell? (Ad b 3)=some (.iface T1 (Pt b1 0)):=aA hb;have dU:∀args w,(callFunc f1 args).run prog w=.ok (.enter f1 args) w:=dU;have H1:Hid (Calls prog f1 #[Pt b1 0,Pt C 0] w fun en w'=>en=.returned (.tuple #[])/\dW e e.at' w w' lo b (.iface T1 (Pt b1 0)) b1 C c):=H1;have HC:Hid (dQ k e/\hi<=C):=⟨h,hC⟩;have HB:Hid (w.heap[b]? =some (.cells (Im a::Im (bD [e.aj])::[Im i,.iface T1 (Pt b1 0)]).toArray 329)):=hb;refine⟨320,fun w=>by kernel_rfl,fun args w=>by kernel_rfl,?_⟩;clear hu hb hc hn hC h;go_enter func320,ntmps320;go_wp2_with fail;refine H1.out.mono ?_;rintro en w1 ⟨rfl,hl⟩;have hb1:=(hl.aN.aN b (by have:=HC.out.2;omega) (Or.inr (Nat.le_refl _))).trans HB.out;have e3:w1.cell? (Ad b 3)=some (.iface T1 (Pt b1 0)):=aA hb1;have HW:Hid (Calls prog 317 #[Pt C 0,.iface T1 (Pt b1 0),Im 1] w1 fun en w2=>en=.returned (.tuple #[])/\bU w2 C ((e.does.look c).want (e.does.bY c.au) e.at' 1)/\Lk w1 w2 0 0 C):=hl.want HC.out.1.ok 1 0;have HL:Hid (dW e e.at' w w1 lo b (.iface T1 (Pt b1 0)) b1 C c):=hl;clear hl hb1 H1;go_wp2_with fail;refine HW.out.mono ?_;rintro en w2 ⟨rfl,p1,p2⟩;have HE:Hid ((BF a i e).here w2 lo hi (.iface 327 (Pt b 0))/\bU w2 C ((BF a i e).does.look c)/\Lk w w2 lo hi C):=O7 HC.out.1.ok h1 h2 HC.out.2 HB.out (Lk.refl _ _ _ _) HL.out p2 p1;clear p1 p2;go_wp2_with fail;go_end0;exact⟨rfl,HE.out⟩
theorem aep(h:dQ k e)(hk:k<=10000 * d)(a:Int)(t:Wd):uy d (yO a t e):=by
 obtain⟨tt,ta⟩:=t;refine⟨VL a _ h.ok,fun c=>⟨[⟨tt,e.does.bY (c.eX tt ta).au,true⟩],?_,by simp⟩,?_⟩
 .show((e.does.look (c.eX tt ta)).add tt (e.does.bY (c.eX tt ta).au) true).au=_;unfold Ck.add;rw[h.au,FH]
 rintro w lo hi T b C c ⟨b',us,hv,h1,h2,⟨u,rfl,hu⟩,hb⟩ hC hc hn;cases hv;obtain⟨T1,b1,rfl,hT1,_⟩:=h.ok.head _ _ _ _ _ hu;have c2:w.cell? (Ad b 2)=some (.string tt):=aA hb;have c3:w.cell? (Ad b 3)=some (Im ta):=aA hb;have HN:Hid (Calls prog 325 #[Pt C 0,.agg #[.string tt,Im ta]] w fun en w'=>en=.returned (.tuple #[])/\bU w' C (c.eX tt ta)/\Lk w w' 0 0 C):=NU hc tt ta (by omega);have HC:Hid (dQ k e/\hi<=C/\c.au.length+k<=899999/\e.here e.at' w lo b (.iface T1 (Pt b1 0))):=⟨h,hC,by omega,hu⟩;have HB:Hid (w.heap[b]? =some (.cells (Im a::Im (bD [e.aj])::[.string tt,Im ta,.iface T1 (Pt b1 0)]).toArray 332)):=hb;refine⟨323,fun w=>by kernel_rfl,fun args w=>by kernel_rfl,?_⟩;have m2:=hT1.sort b1;clear hu hb hc hn hC h;go_enter func323,ntmps323;go_wp2_with fail;refine HN.out.mono ?_;rintro en w0 ⟨rfl,p1,p2⟩;have hbC:b<C:=by have:=HC.out.2.1;omega
 have hb0:=(p2.aN b hbC (Or.inr (Nat.zero_le _))).trans HB.out;have d4:w0.cell? (Ad b 4)=some (.iface T1 (Pt b1 0)):=aA hb0;have hh0:=(HC.out.1.ok.law _).lk HC.out.2.2.2 p2 (by omega) (Or.inr (Nat.zero_le _));have hnm:(c.eX tt ta).au=c.au:=FH c tt ta;obtain⟨f1,m1,dU,H1⟩:=HC.out.1.look _ _ _ _ _ _ C _ hh0 (by omega) p1 (by rw[hnm];have:=HC.out.2.2.1;omega);have dU:∀args w,(callFunc f1 args).run prog w=.ok (.enter f1 args) w:=dU;have H1:Hid (Calls prog f1 #[Pt b1 0,Pt C 0] w0 fun en w'=>en=.returned (.tuple #[])/\dW e e.at' w0 w' lo b (.iface T1 (Pt b1 0)) b1 C (c.eX tt ta)):=H1;have Jh:Hid (Lk w w0 0 0 C/\w0.heap[b]? =some (.cells (Im a::Im (bD [e.aj])::[.string tt,Im ta,.iface T1 (Pt b1 0)]).toArray 332)):=⟨p2,hb0⟩;clear p1 p2 hb0 hh0 HN;go_wp2_with fail;refine H1.out.mono ?_;rintro en w1 ⟨rfl,hl⟩;have hb1:=(hl.aN.aN b hbC (Or.inr (Nat.le_refl _))).trans Jh.out.2;have e2:w1.cell? (Ad b 2)=some (.string tt):=aA hb1;have e3:w1.cell? (Ad b 3)=some (Im ta):=aA hb1;have e4:w1.cell? (Ad b 4)=some (.iface T1 (Pt b1 0)):=aA hb1;have Zg:Hid (∀n,Calls prog 356 #[Pt b1 0] (w1.drewN n) fun en w'=>en=.returned (Im (e.does.bY (c.eX tt ta).au))/\w'=w1.drewN n):=fun n=>IU b1 _ ((dh w1 n).cell hl.kind (by simp));have BM:Hid (∀n,Calls prog 326 #[Pt C 0,.agg #[.string tt,Im ta],Im (e.does.bY (c.eX tt ta).au),.bool true] (w1.drewN n) fun en w'=>en=.returned (.tuple #[])/\bU w' C ((e.does.look (c.eX tt ta)).add tt (e.does.bY (c.eX tt ta).au) true)/\Lk w1 w' 0 0 C):=fun n=>by
  refine(NR (hl.ck.grow (dh w1 n)) tt ta _ true (by rw[HC.out.1.au,hnm];have:=HC.out.2.2.1;omega)).mono ?_;rintro en w' ⟨r1,r2,r3⟩;exact⟨r1,r2,(Lk.grown (dh w1 n) hl.ck.lt).trans r3⟩
 have HL:Hid (dW e e.at' w0 w1 lo b (.iface T1 (Pt b1 0)) b1 C (c.eX tt ta)):=hl;clear hl hb1 H1 hnm hT1;generalize hkd:e.does.bY (c.eX tt ta).au=kd at *;have Y3:Hid (e.does.bY (c.eX tt ta).au=kd):=hkd;clear hkd;go_wp2_with fail;refine fC 10 (by kernel_rfl) (by kernel_rfl) ?_;simp only[List.take_succ_cons,List.take_zero,List.drop_succ_cons,List.drop_zero];repeat (go_big_quiet_step ((go_at_call 356;exact Calls.quiet_of_same (Zg.out _))))
 refine wpQuiet_nil ?_;intro _ hw';obtain⟨n3,hw''⟩:=hw';subst hw'';go_wp2_with fail;refine(BM.out _).mono ?_;rintro en w2 ⟨rfl,p1,p2⟩;rw[<-Y3.out]at p1;have HE:Hid ((yO a ⟨tt,ta⟩ e).here w2 lo hi (.iface 331 (Pt b 0))/\bU w2 C ((yO a ⟨tt,ta⟩ e).does.look c)/\Lk w w2 lo hi C):=O7 HC.out.1.ok h1 h2 HC.out.2.1 HB.out Jh.out.1 HL.out p2 p1;clear p1 p2;go_wp2_with fail;go_end0;exact⟨rfl,HE.out⟩
end
section
variable {w w' w1 w2:World}{C lo hi b:Nat}{c:Co}{u:Value}{e f:Ex}{a:Int}{T:TypeId}{x:Sx}
structure vk(s:bI):Prop where
 ok:fQ s
 pos:1<=s.aj
 au:∀c,∃more,(s.does.lay c).au=c.au++more/\more.length<=1
 len:∀c,s.aj<=1000000->((s.does.lay c).code.length:Int)<=c.code.length+200 * s.aj
 lay:∀w lo hi T b C c,s.here w lo hi (.iface T (Pt b 0))->hi<=C->aV w C c->lQ c s.aj->
  ∃f,(∀w,(method 576 T (Pt b 0) "helm/lang.lay").run prog w=.ok (f,Pt b 0) w)/\Enters f/\
   Calls prog f #[Pt b 0,Pt C 0] w fun en w'=>en=.returned (.tuple #[])/\aV w' C (s.does.lay c)/\Gk w w' C
theorem Fv{c c':Co}(h:c'.au=c.au):∃more,c'.au=c.au++more/\more.length<=1:=⟨[],by rw[h,List.append_nil],by simp⟩
theorem Fe{xs:List Int}(h:∀x∈xs,0<=x/\x<=1000001):1<=bD xs:=by
 have h1:=uY xs h;unfold bD;generalize dY xs=t at *;unfold dY;simp only[List.foldl_cons,List.foldl_nil];omega
theorem agV(a:Int):vk (Bq a):=by
 refine⟨Xt a,Int.le_refl 1,fun c=>Fv rfl,fun c _=>?_,?_⟩
 .have:=kG c 1 [];simp only[List.length_nil]at this;show(((c.lay 1 []).code.length:Nat):Int)<=c.code.length+200 * 1;omega
 rintro w lo hi T b C c ⟨b',us,hv,h1,h2,h3,hb⟩ hC hc hr;cases hv;refine⟨332,fun w=>by kernel_rfl,fun args w=>by kernel_rfl,?_⟩;have HL:Hid (Calls prog 92 #[Pt C 0,.int .u8 1,Nl] w fun e w'=>e=.returned (.tuple #[])/\aV w' C (c.lay 1 [])/\Gk w w' C):=AZ hc 1 (by have:=hr.code;have:(Bq a).aj=1:=rfl;omega);clear hb hc h3;go_enter func332,ntmps332;go_wp2_with fail;refine HL.out.mono ?_;rintro en w1 ⟨rfl,p1,q1⟩;have HE:=bC (And.intro p1 q1);clear p1 q1 HL;go_wp2_with fail;go_end0;exact⟨rfl,HE.out⟩
theorem Yb(he:dJ e)(slot:Int):(c.store slot e.does).au=c.au:=by
 show(if (e.does.bJ c slot).2=slot then (e.does.bJ c slot).1 else (e.does.bJ c slot).1.lay 7 [slot,(e.does.bJ c slot).2]).au=c.au;split
 .exact he.au c slot
 .exact he.au c slot
theorem Ya(he:dJ e)(slot:Int)(hk:e.aj<=1000000):((c.store slot e.does).code.length:Int)<=c.code.length+200 * e.aj+71:=by
 have h1:=he.len c slot hk;have h2:=kG (e.does.bJ c slot).1 7 [slot,(e.does.bJ c slot).2];simp only[List.length_cons,List.length_nil]at h2;show((if (e.does.bJ c slot).2=slot then (e.does.bJ c slot).1 else (e.does.bJ c slot).1.lay 7 [slot,(e.does.bJ c slot).2]).code.length:Int)<=_;split<;>omega
theorem Ue(he:dJ e)(hh:e.here e.at' w lo hi u)(hC:hi<=C)(hc:aV w C c)(hr:lQ c e.aj)(slot:Int):
 Calls prog 313 #[Pt C 0,Im slot,u] w fun en w'=>en=.returned (.tuple #[])/\aV w' C (c.store slot e.does)/\Gk w w' C:=by
 obtain⟨T1,b1,rfl,_⟩:=he.ok.head _ _ _ _ _ hh;obtain⟨f1,m1,dU,H1⟩:=he.bJ _ _ _ _ _ _ C c slot hh hC hc hr;have dU:∀args w,(callFunc f1 args).run prog w=.ok (.enter f1 args) w:=dU;have H1:Hid (Calls prog f1 #[Pt b1 0,Pt C 0,Im slot] w fun en w'=>en=.returned (Im (e.does.bJ c slot).2)/\aV w' C (e.does.bJ c slot).1/\Gk w w' C):=H1;have hl:=he.Gx hr slot;obtain⟨v0,E5,h0⟩:=hc;have c2:w.cell? (Ad C 2)=some (Im c.free):=aA h0.aW;clear h0 hh hr;unfold Co.store;generalize e.does.bJ c slot=r at *;obtain⟨rc,rs⟩:=r;simp only at H1 hl⊢;generalize hfr:c.free=fr at *;by_cases hs:rs=slot
 .rw[if_pos hs];have hb:(rs !=slot)=false:=by simp[hs]
  go_enter func313,ntmps313;go_wp2_with fail;refine H1.out.mono ?_;rintro e1 w1 ⟨rfl,⟨v1,tK,p1⟩,q1⟩;have d2:w1.cell? (Ad C 2)=some (Im rc.free):=aA p1.aW;have fz:∀j,w1.frozen? (Ad C j)=false:=fun j=>eu p1.aW;have HE:Hid (aV (w1.setCell (Ad C 2) (Im fr)) C (rc.dw fr)/\Gk w (w1.setCell (Ad C 2) (Im fr)) C):=⟨⟨v1,tK,p1.dw fr⟩,q1.trans (Gk.free _ _ _)⟩;clear p1 q1 H1;go_wp2_with fail;go_end0;exact⟨rfl,HE.out⟩
 .rw[if_neg hs];have hb:(rs !=slot)=true:=by simp[hs]
  go_enter func313,ntmps313;go_wp2_with fail;refine H1.out.mono ?_;rintro e1 w1 ⟨rfl,p1,q1⟩;have HL:Hid (Calls prog 92 #[Pt C 0,.int .u8 7,.slice (some (Ad w1.heap.size 0)) 2 2] (w1.alloc (.cells #[Im slot,Im rs] 3)) fun e w'=>e=.returned (.tuple #[])/\aV w' C (rc.lay 7 [slot,rs])/\Gk w1 w' C):=vT p1 7 slot rs (by omega);have eG:Hid (Gk w w1 C):=q1;clear p1 q1 H1;go_wp2_with fail;refine HL.out.mono ?_;rintro e2 w2 ⟨rfl,⟨v1,tK,p1⟩,q1⟩;have d2:w2.cell? (Ad C 2)=some (Im (rc.lay 7 [slot,rs]).free):=aA p1.aW;have fz:∀j,w2.frozen? (Ad C j)=false:=fun j=>eu p1.aW;have HE:Hid (aV (w2.setCell (Ad C 2) (Im fr)) C ((rc.lay 7 [slot,rs]).dw fr)/\Gk w (w2.setCell (Ad C 2) (Im fr)) C):=⟨⟨v1,tK,p1.dw fr⟩,(eG.out.trans q1).trans (Gk.free _ _ _)⟩;clear p1 q1 HL eG;go_wp2_with fail;go_end0;exact⟨rfl,HE.out⟩
theorem aix(he:dJ e)(a i:Int):vk (BF a i e):=by
 have ec:=he.ok.aj;refine⟨Yc a i he.ok,Fe (by simpa using ec),fun c=>Fv (Yb he i),fun c hk=>?_,?_⟩
 .have hk:bD [e.aj]<=1000000:=hk;have hp:=Ag ec.1 ec.2 hk;have:=Ya (c:=c) he i (by omega);show(((c.store i e.does).code.length:Nat):Int)<=c.code.length+200 * bD [e.aj];omega
 rintro w lo hi T b C c ⟨b',us,hv,h1,h2,⟨u,rfl,hu⟩,hb⟩ hC hc hr;cases hv;have hr:lQ c (bD [e.aj]):=hr;have hp:=Ag ec.1 ec.2 hr.aj;obtain⟨T1,b1,rfl,_⟩:=he.ok.head _ _ _ _ _ hu;have c2:w.cell? (Ad b 2)=some (Im i):=aA hb;have c3:w.cell? (Ad b 3)=some (.iface T1 (Pt b1 0)):=aA hb;have HS:Hid (∀n,Calls prog 313 #[Pt C 0,Im i,.iface T1 (Pt b1 0)] (w.drewN n) fun en w'=>en=.returned (.tuple #[])/\aV w' C (c.store i e.does)/\Gk w w' C):=fun n=>by
  have g:=dh w n;have gk:=Gk.grown g hc.lt;refine(Ue he ((he.ok.law _).gk hu gk (by omega)) (by omega:b<=C) (hc.grow g) (hr.less (by omega)) i).mono ?_;rintro en w' ⟨e1,e2,e3⟩;exact⟨e1,e2,gk.trans e3⟩
 refine⟨319,fun w=>by kernel_rfl,fun args w=>by kernel_rfl,?_⟩;clear hu hb hc hr;go_enter func319,ntmps319;go_wp2_with fail;refine fC 9 (by kernel_rfl) (by kernel_rfl) ?_;simp only[List.take_succ_cons,List.take_zero,List.drop_succ_cons,List.drop_zero];repeat (go_big_quiet_step (fail))
 refine wpQuiet_nil ?_;intro _ hw';obtain⟨k3,hw''⟩:=hw';subst hw'';go_wp2_with fail;refine(HS.out _).mono ?_;rintro en w1 ⟨rfl,p1,q1⟩;have HE:=bC (And.intro p1 q1);clear p1 q1 HS;go_wp2_with fail;go_end0;exact⟨rfl,HE.out⟩
theorem ahS(he:dJ e)(t:Wd):vk (tZ t e):=by
 obtain⟨tt,ta⟩:=t;have ec:=he.ok.aj;refine⟨XT _ he.ok,Fe (by simpa using ec),fun c=>Fv (Yb he _),fun c hk=>?_,?_⟩
 .have hk:bD [e.aj]<=1000000:=hk;have hp:=Ag ec.1 ec.2 hk;have:=Ya (c:=c) he (c.uf tt) (by omega);show(((c.store (c.uf tt) e.does).code.length:Nat):Int)<=c.code.length+200 * bD [e.aj];omega
 rintro w lo hi T b C c ⟨b',us,hv,h1,h2,⟨u,rfl,hu⟩,hb⟩ hC hc hr;cases hv;have hr:lQ c (bD [e.aj]):=hr;have hp:=Ag ec.1 ec.2 hr.aj;have hrn:=hr.au;obtain⟨T1,b1,rfl,_⟩:=he.ok.head _ _ _ _ _ hu;have uH:=hc.lt;have c2:∀x:mX w,x.val.cell? (Ad b 2)=some (.string tt):=fun x=>aA ((x.grown.block b (by omega) (by simp)).trans hb);have c4:∀x:mX w,x.val.cell? (Ad b 4)=some (.iface T1 (Pt b1 0)):=fun x=>aA ((x.grown.block b (by omega) (by simp)).trans hb);have Zf:Hid (∀x:mX w,Calls prog 314 #[Pt C 0,.string tt] x.val fun en w'=>en=.returned (Im (c.uf tt))/\x.val.grownBy w' none):=fun x=>Ud (hc.grow x.grown) tt (by omega);have HS:Hid (∀y,w.grownBy y none->Calls prog 313 #[Pt C 0,Im (c.uf tt),.iface T1 (Pt b1 0)] y fun en w'=>en=.returned (.tuple #[])/\aV w' C (c.store (c.uf tt) e.does)/\Gk w w' C):=fun y g=>by
  have gk:=Gk.grown g uH;refine(Ue he ((he.ok.law _).gk hu gk (by omega)) (by omega:b<=C) (hc.grow g) (hr.less (by omega)) (c.uf tt)).mono ?_;rintro en w' ⟨e1,e2,e3⟩;exact⟨e1,e2,gk.trans e3⟩
 refine⟨310,fun w=>by kernel_rfl,fun args w=>by kernel_rfl,?_⟩;clear hu hb hc hr;show Calls prog 310 #[Pt b 0,Pt C 0] w fun en w'=>en=.returned (.tuple #[])/\aV w' C (c.store (c.uf tt) e.does)/\Gk w w' C;generalize c.store (c.uf tt) e.does=R at *;generalize c.uf tt=sl at *;go_enter func310,ntmps310;go_wp2_with fail;have hne:=JM w;refine MN 12 (by kernel_rfl) (by kernel_rfl) ?_;simp only[List.take_succ_cons,List.take_zero,List.drop_succ_cons,List.drop_zero];repeat (go_big_quiet_step ((go_at_call 314;exact Calls.NY (Zf.out _))))
 refine wpQuiet_nil ?_;intro w' hg;have HS2:=bC (HS.out w' hg);clear HS hg;go_wp2_with fail;refine HS2.out.mono ?_;rintro en w1 ⟨rfl,p1,q1⟩;have HE:=bC (And.intro p1 q1);clear p1 q1 HS2;go_wp2_with fail;go_end0;exact⟨rfl,HE.out⟩
theorem af6(he:dJ e)(hf:dJ f)(a:Int):vk (yR a e f):=by
 have ec:=he.ok.aj;have fc:=hf.ok.aj;refine⟨Xc a he.ok hf.ok,Fe (by simp;exact⟨ec,fc⟩),fun c=>Fv ?_,fun c hk=>?_,?_⟩
 .show(f.does.bJ (e.does.bJ c (-1)).1 (-1)).1.au=c.au;rw[hf.au,he.au]
 .have hk:bD [e.aj,f.aj]<=1000000:=hk;have hp:=Fg ec.1 ec.2 fc.1 fc.2 hk;have h1:=he.len c (-1) (by omega);have h2:=hf.len (e.does.bJ c (-1)).1 (-1) (by omega);have h3:=kG (f.does.bJ (e.does.bJ c (-1)).1 (-1)).1 36 [(e.does.bJ c (-1)).2,(f.does.bJ (e.does.bJ c (-1)).1 (-1)).2];simp only[List.length_cons,List.length_nil]at h3;show((((f.does.bJ (e.does.bJ c (-1)).1 (-1)).1.lay 36 [(e.does.bJ c (-1)).2,(f.does.bJ (e.does.bJ c (-1)).1 (-1)).2]).code.length:Nat):Int)<=c.code.length+200 * bD [e.aj,f.aj];omega
 rintro w lo hi T b C c ⟨b',us,hv,h1,h2,⟨m,u,v,rfl,hm1,hm2,hu,hv2⟩,hb⟩ hC hc hr;cases hv;have hr:lQ c (bD [e.aj,f.aj]):=hr;have hp:=Fg ec.1 ec.2 fc.1 fc.2 hr.aj;have hrc:=hr.code;have hrn:=hr.au;have hrk:=hr.aj;obtain⟨T1,b1,rfl,_⟩:=he.ok.head _ _ _ _ _ hu;obtain⟨T2,b2,rfl,_⟩:=hf.ok.head _ _ _ _ _ hv2;obtain⟨f1,m1,dU,H1⟩:=he.bJ _ _ _ _ _ _ C c (-1) hu (by omega) hc (hr.less (by omega));have dU:∀args w,(callFunc f1 args).run prog w=.ok (.enter f1 args) w:=dU;have H1:Hid (Calls prog f1 #[Pt b1 0,Pt C 0,Im (-1)] w fun en w'=>en=.returned (Im (e.does.bJ c (-1)).2)/\aV w' C (e.does.bJ c (-1)).1/\Gk w w' C):=H1;have hl1:=he.len c (-1) (by omega);have hn1:=he.au c (-1);have HR:Hid (dJ f/\f.here f.at' w m b (.iface T2 (Pt b2 0))/\lQ (e.does.bJ c (-1)).1 f.aj):=⟨hf,hv2,⟨by omega,by omega,by rw[hn1];omega⟩⟩;have hl2:=hf.Gx HR.out.2.2 (-1);have d2:w.cell? (Ad b 2)=some (.iface T1 (Pt b1 0)):=aA hb;have d3:w.cell? (Ad b 3)=some (.iface T2 (Pt b2 0)):=aA hb;obtain⟨v0,E5,h0⟩:=hc;have c2:w.cell? (Ad C 2)=some (Im c.free):=aA h0.aW;have hbC:b<C:=by omega
 refine⟨328,fun w=>by kernel_rfl,fun args w=>by kernel_rfl,?_⟩;clear h0 hu hv2 hr hl1 hn1 hb hrc hrn hrk;show Calls prog 328 #[Pt b 0,Pt C 0] w fun en w'=>en=.returned (.tuple #[])/\aV w' C (((f.does.bJ (e.does.bJ c (-1)).1 (-1)).1.lay 36 [(e.does.bJ c (-1)).2,(f.does.bJ (e.does.bJ c (-1)).1 (-1)).2]).dw c.free)/\Gk w w' C;generalize e.does.bJ c (-1)=x at *;obtain⟨xc,xs⟩:=x;simp only at H1 HR hl2⊢;generalize hy:f.does.bJ xc (-1)=y at *;have HY:Hid (f.does.bJ xc (-1)=y):=hy;clear hy;obtain⟨yc,ys⟩:=y;simp only at hl2⊢;generalize hfr:c.free=fr at *;go_enter func328,ntmps328;go_wp2_with fail;refine H1.out.mono ?_;rintro e1 w1 ⟨rfl,p1,q1⟩;have k3:w1.cell? (Ad b 3)=some (.iface T2 (Pt b2 0)):=(q1.cell hbC).trans d3;obtain⟨f2,m2,qN,H2⟩:=HR.out.1.bJ _ _ _ _ _ _ C xc (-1) ((HR.out.1.ok.law _).gk HR.out.2.1 q1 (by omega)) (by omega) p1 HR.out.2.2;have qN:∀args w,(callFunc f2 args).run prog w=.ok (.enter f2 args) w:=qN;rw[HY.out]at H2;have H2:Hid (Calls prog f2 #[Pt b2 0,Pt C 0,Im (-1)] w1 fun en w'=>en=.returned (Im ys)/\aV w' C yc/\Gk w1 w' C):=H2;have eG:Hid (Gk w w1 C):=q1;clear p1 q1 H1;go_wp2_with fail;refine H2.out.mono ?_;rintro e2 w2 ⟨rfl,p2,q2⟩;have HL:Hid (Calls prog 92 #[Pt C 0,.int .u8 36,.slice (some (Ad w2.heap.size 0)) 2 2] (w2.alloc (.cells #[Im xs,Im ys] 3)) fun e w'=>e=.returned (.tuple #[])/\aV w' C (yc.lay 36 [xs,ys])/\Gk w2 w' C):=vT p2 36 xs ys (by omega);have dO:Hid (Gk w w2 C):=eG.out.trans q2;clear p2 q2 H2 eG;go_wp2_with fail;refine HL.out.mono ?_
 rintro e3 w3 ⟨rfl,⟨v3,nv3,p3⟩,q3⟩;have k2:w3.cell? (Ad C 2)=some (Im (yc.lay 36 [xs,ys]).free):=aA p3.aW;have fz:∀j,w3.frozen? (Ad C j)=false:=fun j=>eu p3.aW;have HE:Hid (aV (w3.setCell (Ad C 2) (Im fr)) C ((yc.lay 36 [xs,ys]).dw fr)/\Gk w (w3.setCell (Ad C 2) (Im fr)) C):=⟨⟨v3,nv3,p3.dw fr⟩,(dO.out.trans q3).trans (Gk.free _ _ _)⟩;clear p3 q3 HL dO;go_wp2_with fail;go_end0;exact⟨rfl,HE.out⟩
theorem aeo(he:dJ e)(a:Int)(t:Wd):vk (yO a t e):=by
 obtain⟨tt,ta⟩:=t;have ec:=he.ok.aj;have hD:∀c,(yO a ⟨tt,ta⟩ e).does.lay c=((if (e.does.bJ c (-1)).2=c.free then (e.does.bJ c (-1)).1 else (e.does.bJ c (-1)).1.lay 7 [c.free,(e.does.bJ c (-1)).2]).dw (wrap64 (c.free+1))).know tt c.free:=fun _=>rfl;refine⟨VL a _ he.ok,Fe (by simpa using ec),fun c=>⟨[(tt,c.free)],?_,by simp⟩,fun c hk=>?_,?_⟩
 .rw[hD];show(if (e.does.bJ c (-1)).2=c.free then (e.does.bJ c (-1)).1 else (e.does.bJ c (-1)).1.lay 7 [c.free,(e.does.bJ c (-1)).2]).au++[(tt,c.free)]=_
  congr 1
  split
  .exact he.au c (-1)
  .exact he.au c (-1)
 .have hk:bD [e.aj]<=1000000:=hk;have hp:=Ag ec.1 ec.2 hk;have h1:=he.len c (-1) (by omega);have h2:=kG (e.does.bJ c (-1)).1 7 [c.free,(e.does.bJ c (-1)).2];simp only[List.length_cons,List.length_nil]at h2;rw[hD];show((if (e.does.bJ c (-1)).2=c.free then (e.does.bJ c (-1)).1 else (e.does.bJ c (-1)).1.lay 7 [c.free,(e.does.bJ c (-1)).2]).code.length:Int)<=c.code.length+200 * bD [e.aj];split<;>omega
 rintro w lo hi T b C c ⟨b',us,hv,h1,h2,⟨u,rfl,hu⟩,hb⟩ hC hc hr;cases hv;have hr:lQ c (bD [e.aj]):=hr;have hp:=Ag ec.1 ec.2 hr.aj;have hrn:=hr.au;obtain⟨T1,b1,rfl,_⟩:=he.ok.head _ _ _ _ _ hu;obtain⟨f1,m1,dU,H1⟩:=he.bJ _ _ _ _ _ _ C c (-1) hu (by omega) hc (hr.less (by omega));have dU:∀args w,(callFunc f1 args).run prog w=.ok (.enter f1 args) w:=dU;have H1:Hid (Calls prog f1 #[Pt b1 0,Pt C 0,Im (-1)] w fun en w'=>en=.returned (Im (e.does.bJ c (-1)).2)/\aV w' C (e.does.bJ c (-1)).1/\Gk w w' C):=H1;have hl:=he.Gx (hr.less (by omega):lQ c e.aj) (-1);have hn1:(e.does.bJ c (-1)).1.au.length<=3000000:=by rw[he.au];omega
 obtain⟨v0,E5,h0⟩:=hc;have c2:w.cell? (Ad C 2)=some (Im c.free):=aA h0.aW;have d4:w.cell? (Ad b 4)=some (.iface T1 (Pt b1 0)):=aA hb;have hbC:b<C:=by omega
 have lJ:Hid (∀y,Gk w y C->y.cell? (Ad b 2)=some (.string tt)/\y.cell? (Ad b 3)=some (Im ta)):=fun y hy=>⟨(hy.cell hbC).trans (aA hb),(hy.cell hbC).trans (aA hb)⟩;refine⟨322,fun w=>by kernel_rfl,fun args w=>by kernel_rfl,?_⟩;rw[hD];clear h0 hu hr hb hD hrn;generalize e.does.bJ c (-1)=r at *;obtain⟨rc,rs⟩:=r;simp only at H1 hl hn1⊢;generalize hfr:c.free=fr at *;have fP:Hid (∀cc y,aV y C cc->cc.au.length<=3000000->Gk w y C->(∃u,y.cell? (Ad C 2)=some u)/\(∀j,y.frozen? (Ad C j)=false)/\Gk w (y.setCell (Ad C 2) (Im (wrap64 (fr+1)))) C/\Calls prog 324 #[Pt C 0,.agg #[.string tt,Im ta],Im fr] (y.setCell (Ad C 2) (Im (wrap64 (fr+1)))) fun en w'=>en=.returned (.tuple #[])/\aV w' C ((cc.dw (wrap64 (fr+1))).know tt fr)/\Gk w w' C):=fun cc y hg hn hy=>by
  obtain⟨v1,tK,p1⟩:=hg;have hy2:=hy.trans (Gk.free y (Im (wrap64 (fr+1))) C);refine⟨⟨_,aA p1.aW⟩,fun j=>eu p1.aW,hy2,(Oc ⟨v1,tK,p1.dw _⟩ tt ta fr (by show cc.au.length<=_;omega)).mono ?_⟩;rintro en w' ⟨e1,e2,e3⟩;exact⟨e1,e2,hy2.trans e3⟩
 by_cases hs:rs=fr
 .rw[if_pos hs];have hb:(rs !=fr)=false:=by simp[hs]
  go_enter func322,ntmps322;go_wp2_with fail;refine H1.out.mono ?_;rintro e1 w1 ⟨rfl,p1,q1⟩;obtain⟨⟨uu,k2⟩,fz,z1,HN⟩:=fP.out rc w1 p1 hn1 q1;obtain⟨y2,y3⟩:=lJ.out w1 q1;have nb:¬b=C:=by omega
  have HN:=bC HN;clear p1 q1 H1 z1 fP lJ;go_wp2_with fail;refine HN.out.mono ?_;rintro en w3 ⟨rfl,p3,q3⟩;have HE:=bC (And.intro p3 q3);clear p3 q3 HN;go_wp2_with fail;go_end0;exact⟨rfl,HE.out⟩
 .rw[if_neg hs];have hb:(rs !=fr)=true:=by simp[hs]
  go_enter func322,ntmps322;go_wp2_with fail;refine H1.out.mono ?_;rintro e1 w1 ⟨rfl,p1,q1⟩;have HL:Hid (Calls prog 92 #[Pt C 0,.int .u8 7,.slice (some (Ad w1.heap.size 0)) 2 2] (w1.alloc (.cells #[Im fr,Im rs] 3)) fun e w'=>e=.returned (.tuple #[])/\aV w' C (rc.lay 7 [fr,rs])/\Gk w1 w' C):=vT p1 7 fr rs (by omega);have eG:Hid (Gk w w1 C):=q1;clear p1 q1 H1;go_wp2_with fail;refine HL.out.mono ?_;rintro e2 w2 ⟨rfl,p1,q1⟩;obtain⟨⟨uu,k2⟩,fz,z1,HN⟩:=fP.out (rc.lay 7 [fr,rs]) w2 p1 hn1 (eG.out.trans q1);obtain⟨y2,y3⟩:=lJ.out w2 (eG.out.trans q1);have nb:¬b=C:=by omega
  have HN:=bC HN;clear p1 q1 z1 fP lJ HL eG;go_wp2_with fail;refine HN.out.mono ?_;rintro en w3 ⟨rfl,p3,q3⟩;have HE:=bC (And.intro p3 q3);clear p3 q3 HN;go_wp2_with fail;go_end0;exact⟨rfl,HE.out⟩
end
end
end Go.Proofs.YthllhabjfchgiaaGreatDoor
