import Derived.Test.YthllhabjfchgiaaGreatDoorHs43
import Derived.WideShapes
import Derived.Test.YthllhabjfchgiaaGreatDoorShelf2
set_option maxRecDepth 100000
set_option maxHeartbeats 8000000
set_option linter.unusedSimpArgs false
namespace Go.Proofs.YthllhabjfchgiaaGreatDoor
open _root_.Go.Proofs.Tryz
section
open Go.RowKit Hx
attribute [local go_sem ↓] Go.wp_at_zero Go.wp_at_succ
attribute [local go_sem] kN
section
variable {w w' w1 w2 w3:jk}{lo hi m q b H:Nat}{u v:jm}{e:Ex}{a:Int}{T:jo}{c:Co}{l:List jI}{x:Sx}
theorem ao5{h:Option Addr}{d i:Nat}(j:w.cell? (Ad b 5)=some (.slice h d i)):Calls prog 344 #[Pt b 0] w λg w'=>g=.returned (.bool (decide (d=0)))/\w'=w:=by
 by_cases f:d=0
 .subst f;go_enter func344,ntmps344;go_wp2_with fail;go_ret;exact⟨rfl,rfl⟩
 .have k:((d:Int)==0)=false:=by rw[beq_eq_false_iff_ne];omega
  rw[dO f];clear f;go_enter func344,ntmps344;go_wp2_with fail;go_ret;exact⟨rfl,rfl⟩
theorem aoZ{N:Nat}(hN:N<=100000)(D:rF N nV x)(C:BL l)(k:Int)(t:Wd):Dx (qQ k t x l):=by
 have lc:=rP C.wV.ok;have J:=D.jw;have K:=tC (x:=x) lc;refine⟨aew hN (VB D) C.wV k t,?_⟩;rintro w lo hi T b ⟨b',us,hv,O,h2,⟨m,u,v,rfl,m1,m2,W,n⟩,z⟩ hH B;cases hv;have B:jS [x.jw,x.round (sumOf l)]<=1000000:=B;have aa:=Ap J.1 J.2 K.1 K.2 B;have hg:=O7 (x:=x) lc.1 (by omega);have V:1<=jS [x.jw,x.round (sumOf l)]/\jS [x.jw,x.round (sumOf l)]<=1000001:=⟨yE (by simp;exact⟨J,K⟩),(rO J K).2⟩;obtain⟨S,fv,rfl,_⟩:=id W;obtain⟨ya,Dq,Om⟩:=G7 (C.wV.flat n);obtain⟨L,E⟩:∃L,l.length=L:=⟨_,rfl⟩;rw[E]at Om;clear E;subst Om;obtain⟨I,G⟩:=t;have c4:w.cell? (Ad b 4)=some (Pt S 0):=jG z;have H1:=jA (X5 D.all (by have:=D.len;omega) W (by omega));have HB:=jA z;have HV:=jA n;refine⟨343,λw=>by kernel_rfl,λr w=>by kernel_rfl,?_⟩;have R:b<w.heap.size:=by omega
 clear W z n;go_enter func343,ntmps343;go_wp2_with fail;refine H1.out.mono ?_;rintro en w1 ⟨rfl,s,i⟩;have s1:=i.size;have d:=(i.keep b R (je (by omega))).trans HB.out;have d5:w1.cell? (Ad b 5)=some (.slice ya L Dq):=jG d;have H2:=jA (C.fold w1 m b _ (C.wV.law.loc _ _ _ _ _ HV.out λj j1 j2=>i.keep j (by omega) (je j1)) (by omega) (by omega));have HS:=jA (jd s (jd i d));clear s i d HB HV H1;go_wp2_with fail;refine H2.out.mono ?_;rintro en w2 ⟨v',rfl,P,f⟩;obtain⟨s,i,d⟩:=HS.out;have s2:=f.size;have g:=(f.keep b (by omega) (je (aj _))).trans d;have e5:w2.cell? (Ad b 5)=some (.slice ya L Dq):=jG g;have fz:∀j,w2.frozen? (Ad b j)=false:=λj=>nA g;obtain⟨F,Y,Z,q5,⟨p,o,X⟩,q6⟩:=P;subst X;have HE:Hid (zO (qQ k ⟨I,G⟩ x l).does.fs (qQ k ⟨I,G⟩ x l).jw (w2.setCell (Ad b 5) (.slice p F.length o)) lo hi w.heap.size (w2.setCell (Ad b 5) (.slice p F.length o)).heap.size 349 b/\Fk w (w2.setCell (Ad b 5) (.slice p F.length o)) lo hi):=by
  have Q:=aK w2 _ 5 _ _ (.slice p F.length o) g;have s3:(w2.setCell (Ad b 5) (.slice p F.length o)).heap.size=w2.heap.size:=dI ..;obtain⟨fs,e1,M,e3,e4,e5,e6,e7⟩:=s;refine⟨⟨_,(aev (x:={x with jE:=fs}) M J Y k ⟨I,G⟩ V (λB=>?_)).does (ds:={lay:=(qQ k ⟨I,G⟩ x l).does.fs.lay,fs:=(qQ k ⟨I,G⟩ x l).does.fs}) ?_,rfl,rfl,λw' ha=>?_⟩,((i.wide (aj _) (by omega)).trans (f.wide (by omega) (by omega))).trans (Fk.set O h2)⟩
  .exact⟨Vr hN D (by omega) M e3 e4,by omega,by show 2+x.jw+_<=_;omega⟩
  .funext c
   simp only[OD,qQ,yS,wY];rw[acE e1,Oy Z]
  .have y:∀j,j≠b->(lo<=j/\j<hi)\/(w.heap.size<=j/\j<w2.heap.size)->w'.heap[j]? =w2.heap[j]? :=λj U B=>(ha j (by omega)).trans (qZ j U);have A:=(ha b (jf ⟨O,h2⟩)).trans Q;refine⟨⟨b,_,rfl,O,by omega,⟨_,_,rfl,?_,?_⟩,A⟩,⟨344,λw=>by kernel_rfl,λr w=>by kernel_rfl,?_⟩,XG (by simp[Gq]) b w'⟩
   .refine(Hz λb z a=>(M b z).ok.law a).wide _ _ _ _ _ _ (e7 w' λj U=>?_) (aj _) (by omega);exact(y j (by omega) (by omega)).trans (f.keep j (by omega) (by omega))
   .exact Y.Ai.wide _ _ _ _ _ _ (q6 w' λj U=>y j (by omega) (by omega)).1 (by omega) (by omega)
   .have h:=ao5 (w:=w') (b:=b) (jG A);rw[Oz Z]at h;exact h
 clear s i d g f Y Z q5 q6 H2 HS;go_wp2_with fail;go_end0;exact⟨rfl,HE.out⟩
theorem alR(N:Nat)(d:N<=100000):Nc N nV nV BL Dx where
 jw:=λ_ h=>h.lZ.ok.jw
 RH:=λa t _ h=>apd h a t
 Tc:=λt _ h=>atl h t
 TA:=λa i _ h=>auE h a i
 SE:=λa _ _ h k=>arx h k a
 returning:=λa=>asn a
 choice:=λa _ _ _ h n g=>akQ h n g a
 loop:=λa t _ _ j f=>aoZ d j f a t
theorem auB(s:ji)(f:s.size<=4000)(d:Nat)(p:Ps):BL (mV s d p).1:=
 Tv s (λ_=>nV) (λ_=>Dx) (λ_=>BL) (alH s f) (λ_=>alR (s.size+1) (by omega)) (λ_=>Rx (by simp)) (λ_ _ _ h=>Rx h) d p
theorem aq2(s:ji):BL (oP s).1:=by
 unfold oP;split
 .exact Rx (by simp)
 .have d:s.size<=4000:=by omega
  unfold xU;split
  .exact auB s d 21 _
  .exact Rx (by simp)
theorem akO(s:ji)(h:(nH s).2.1=0):BL (nH s).1:=by
 unfold nH at h⊢;split at h
 .contradiction
 split at h
 .contradiction
 split at h
 .exact jl h (by decide)
 .rename_i d f g;rw[jg d,jg f,jg g];exact aq2 s
def CB(s:ji):ji×Int×Int:=if (nH s).2.1≠0 then (⟨#[]⟩,(nH s).2.1,(nH s).2.2)else (strOfNums (yA (kS (nH s).1)),0,0)
theorem ak6(s:ji)(w:jk):Calls prog 12 #[.string s,.bool true] w λe w'=>e=.returned (.tuple #[.string (CB s).1,Im (CB s).2.1,Im (CB s).2.2])/\w.grownBy w' none:=by
 have g:Hid (Calls prog 44 #[.string s] w λe w'=>∃v,e=.returned (.tuple #[v,.agg #[Im (nH s).2.1,Im (nH s).2.2]])/\mY (nH s).1 w' w.heap.size w'.heap.size v/\w.grownBy w' none):=abR s w;have z:Hid ((nH s).2.1=0->BL (nH s).1/\sumOf (nH s).1<=1000000):=λh=>⟨akO s h,(abS s h).2⟩;unfold CB;generalize nH s=R at *;obtain⟨L,J,ea⟩:=R;simp only at g z⊢;by_cases D:J=0
 .subst D;obtain⟨M,f⟩:=z.out rfl;have i:Hid (BL L/\sumOf L<=1000000):=⟨M,f⟩;clear z M f;simp only[ne_eq,not_true_eq_false,cZ];generalize t:strOfNums (yA (kS L))=O at *;have N:=jA t;clear t;go_enter func12,ntmps12;go_wp2_with fail;refine g.out.mono ?_;rintro e w1 ⟨v,rfl,p,d⟩;obtain⟨va,vn,vc,rfl⟩:=KG p;have G:Hid (∀o,Calls prog 45 #[.slice va vn vc] (w1.alloc o) λe w'=>∃j F n,e=.returned (.slice j F n)/\Hid (Calls prog 46 #[.slice j F n] w' λe w2=>e=.returned (.string O)/\w.grownBy w2 none)):=λo=>by
   have C:=ah w1 o none;have s1:=d.size;have s0:=C.size;refine(i.out.1.fold (w1.alloc o) w.heap.size w1.heap.size _ (i.out.1.wV.law.loc _ _ _ _ _ p λb _ b2=>C.block b (by omega) (by simp)) s0 i.out.2).mono ?_;rintro e w' ⟨v',P,S,r⟩;obtain⟨V,W,X,q3,⟨j,n,E⟩,Y⟩:=S;subst E;refine⟨j,_,n,P,?_⟩;have U:yA V=yA (kS L):=by unfold yA;rw[Oy X]
   have s2:=r.size;have Q:=(Y w' (qA.refl _ _ _ _ _)).1;have f:=i.out.2;refine(ab6 W Q (aj _) (by omega)).mono ?_;rintro e w2 ⟨Z,y⟩;refine⟨by rw[Z,U,N.out],?_⟩;have A:=d.trans C;exact⟨y.os.trans (r.os.trans A.os),y.tape.trans (r.tape.trans A.tape),y.output.trans (r.output.trans A.output),by have:=y.size;omega,λk f _=>(y.block k (by omega) (by simp)).trans ((r.keep k (by omega) (jf f)).trans (A.block k f (by simp)))⟩
  clear p d g i;go_wp2_with fail;refine(G.out _).mono ?_;rintro e w2 ⟨j,F,n,rfl,I⟩;clear G;go_wp2_with fail;refine I.out.mono ?_;rintro e w3 ⟨rfl,K⟩;have B:Hid (w.grownBy w3 none):=K;clear K I;go_wp2_with fail;exact cu (by simp[results,Tryz.results12,go_sem]) rfl ⟨rfl,B.out⟩
 .have hb:(J !=0)=true:=by simp[D]
  clear z;rw[jh D];go_enter func12,ntmps12;go_wp2_with fail;refine g.out.mono ?_;rintro e w1 ⟨v,rfl,p,d⟩;have B:Hid (w.grownBy w1 none):=d;clear p d g;go_wp2_with fail;go_quiet (fail);go_wp2_with fail;exact cu (by simp[results,Tryz.results12,go_sem]) rfl ⟨rfl,B.out.trans ((ah _ _ none).trans (lu _ _))⟩
end
end
section
open Go.RowKit Hx
def Vl:Option nP⊕nP->Option nP
 | .inl r=>r
 | .inr p=>some p
def Au(l:List Int):Int->Int:=λi=>l.getD i.toNat 0
theorem arh{d:Nat}(h:((8^d:Nat):Int)<=1000001):d<=6:=by
 rcases dG d 7 with f|f
 .omega
 .have g:8^7<=8^d:=Nat.pow_le_pow_right (by omega) f;have i:(8^7:Nat)=2097152:=by decide
  omega
theorem Va{l g:List jI}{zs:List (Sz×lV)}{t:Int}(h:qF l zs t)(ht:t<=4000)(hk:(oJ l ⟨[],0,0⟩).en=0)(hc:lS l<=1000000)(hg:g=l\/g=kS l):
 xA (strOfNums (yA g)).data.toList=true/\∀(v:Vw)(z A B C D E F G:Int),nM v->vJ v=true->(∀x∈[z,A,B,C,D,E,F,G],jK x)->
  EC [z,A,B,C,D,E,F,G] (Vl (pG (nU (zs.map λq:Sz×lV=>q.2)) v ⟨[],Au [z,A,B,C,D,E,F,G],[]⟩)) (wI v (strOfNums (yA g)).data.toList (mF (strOfNums (yA g)).data.toList).jC z A B C D E F G):=by
 have q:=Jd h;have qw:=q.wide;have ql:=q.jL;obtain⟨a1,a2⟩:=q.all hc;have K:Fit ⟨[],0,0⟩ vT:=⟨rfl,rfl,(λn U=>by cases U),by show(8:Int)<=8;omega⟩;have N7:Ctx vT:=⟨rfl,(λj n U=>by cases U)⟩;obtain⟨b1,b2⟩:=Qa h;have hfr:∃y:Fr,kW g vT=⟨vT.code++jX y.is,vT.jy,vT.free⟩/\Xt vT (kE zs) y/\BK ⟨[],0,0⟩ vT ⟨vT.code++jX y.is,vT.jy,vT.free⟩ y (pG (nU (zs.map λq:Sz×lV=>q.2))):=by
  rcases hg with rfl|rfl
  .exact b1 _ _ K N7 hk (by show(8:Int)+_<=2008;omega)
  .exact b2 _ _ K N7 hk (by show(8:Int)+_<=2008;omega)
 obtain⟨y,e1,M,e3⟩:=hfr;have xn:=M.jC;have xd:=M.deep;have xl:=M.jL;have ag:=M.ok.jC;have N:yA g=jX (y.is++[⟨0,[]⟩]):=by
  unfold yA;rw[e1];show[]++jX y.is++enc ⟨0,[]⟩=_;rw[nN,ny,mD,aX,dP]
 have J:(strOfNums (yA g)).data.toList=Hx.bytes (jX (y.is++[⟨0,[]⟩])):=by rw[N];rfl
 have af:=arh (d:=(kE zs).deep) (by omega);have R:(jX (y.is++[(⟨0,[]⟩:I)])).length<=100000:=by
  have:=Qp;rw[nN,aA,ny,mD,aX];omega
 obtain⟨t1,t2,t3,t4⟩:=aoQ M.ok (by omega) (by omega) R;rw[J];refine⟨t1,λv z A B C D E F G hv CW hx=>?_⟩;have sD:=(aqP v CW _ t1 0 z A B C D E F G).2.1;have V:∀f:Int,wI v (Hx.bytes (jX (y.is++[⟨0,[]⟩]))) f z A B C D E F G=Hx.runs v (y.jB 0 []++[⟨1,0,0,0,0,0,0⟩]) [z,A,B,C,D,E,F,G] f.toNat 0 (sN z A B C D E F G (sZ y.is 8).toNat):=λf=>by
  rw[wI,Di,jh CW,t2,t3]
 rw[t4]at sD⊢;rw[V]at sD⊢;have h8:=X9 y.is 8;generalize Z:sN z A B C D E F G (sZ y.is 8).toNat=L at *;have ac:L.jD.length=(sZ y.is 8).toNat:=by
  rw[<-Z];simp[sN];omega
 have ab:L.left.length=8:=by rw[<-Z];simp[sN]
 have ad:∀i:Int,0<=i->i<8->L.get i=Au [z,A,B,C,D,E,F,G] i:=λi i0 i1=>by
  rw[<-Z];unfold sN Mc.get Au;simp only;have:i.toNat<[z,A,B,C,D,E,F,G].length:=by simp;omega
  rw[aU,aU,aT this]
 have S:lF y.is L.jD.length:=by
  rw[ac,iF (by omega)];exact aeF y.is 8
 have W:vN vT L ⟨[],Au [z,A,B,C,D,E,F,G],[]⟩:=⟨rfl,ad,by rw[<-Z];rfl⟩;have ae:oh ⟨[],0,0⟩ ⟨[],Au [z,A,B,C,D,E,F,G],[]⟩:=by
  refine⟨λi i0 i1=>?_,rfl,λj k n Y=>by cases Y⟩;show jK (Au [z,A,B,C,D,E,F,G] i);unfold Au;have:i.toNat<[z,A,B,C,D,E,F,G].length:=by simp;omega
  rw[aU,bU this];exact hx _ (fG this)
 have aa:uG (y.jB 0 []++[⟨1,0,0,0,0,0,0⟩]) 0 (y.jB 0 []):=λj s Y=>by
  rw[gW,aT (List.getElem?_eq_some_iff.1 Y).1];exact Y
 have X:=e3 v (y.jB 0 []++[⟨1,0,0,0,0,0,0⟩]) [z,A,B,C,D,E,F,G] 0 [] L _ hv aa (by show 0+y.deep<=8;omega) ab S W ae;have P:∃o,DJ v (y.jB 0 []++[⟨1,0,0,0,0,0,0⟩]) [z,A,B,C,D,E,F,G] 0 L o/\EC [z,A,B,C,D,E,F,G] (Vl (pG (nU (zs.map λq:Sz×lV=>q.2)) v ⟨[],Au [z,A,B,C,D,E,F,G],[]⟩)) o:=by
  cases hR:pG (nU (zs.map λq:Sz×lV=>q.2)) v ⟨[],Au [z,A,B,C,D,E,F,G],[]⟩with
  |inl r=>
   rw[hR]at X;exact WR.1 X
  |inr p=>
   rw[hR]at X;obtain⟨m',g1,g2,g3,g4,g5⟩:=X;have Q:(y.jB 0 []++[(⟨1,0,0,0,0,0,0⟩:St)])[0+y.size]? =some ⟨1,0,0,0,0,0,0⟩:=by
    rw[gW,bW (by rw[M.ok.size];exact aj _),M.ok.size];simp
   refine⟨⟨0,m'.jD,m'.jP⟩,g1.stops (Yl Q ?_),rfl,λi hi=>?_,g2.jP⟩
   .unfold Hx.step;rw[jh (by rfl)]
   .have:=g2.jF (i:Int) (by omega) (by omega);rw[<-this];unfold Mc.get;rw[bK]
 obtain⟨o,⟨n,U⟩,ho⟩:=P;have O:=SN (y.jC+1).toNat ((y.jC+1).toNat+n) 0 L (by omega) sD;have:=U (y.jC+1).toNat;rw[show((0:Nat):Int)=0 from rfl,O]at this;rw[this];exact ho
def Ac(s:ji)(b:Bool):ji×Int×Int:=if b then CB s else CJ s
theorem ak3(s:ji)(b:Bool):(Ac s b).2.1=(nH s).2.1:=by
 by_cases h:(nH s).2.1=0
 .have d:¬((nH s).2.1≠0):=λf=>f h;cases b with
  |true=>show(CB s).2.1=_;unfold CB;rw[jg d,h]
  |false=>show(CJ s).2.1=_;unfold CJ;rw[jg d,h]
 .cases b with
  |true=>show(CB s).2.1=_;unfold CB;rw[jh h]
  |false=>show(CJ s).2.1=_;unfold CJ;rw[jh h]
theorem U9(s:ji)(b:Bool)(h:(nH s).2.1=0):Ac s b=(strOfNums (yA (if b then kS (nH s).1 else (nH s).1)),0,0):=by
 have d:¬((nH s).2.1≠0):=λf=>f h;cases b with
 |true=>show CB s=_;unfold CB;rw[jg d];rfl
 |false=>show CJ s=_;unfold CJ;rw[jg d];rfl
def sS(s:ji)(b:Bool)(v:Vw)(x0 x1 x2 x3 x4 x5 x6 x7:Int):Out:=
 wI v (Ac s b).1.data.toList (mF (Ac s b).1.data.toList).jC x0 x1 x2 x3 x4 x5 x6 x7
structure JL(o o':Out):Prop where
 status:o.status=o'.status
 jF:∀i:Nat,i<8->o.jF.getD i 0=o'.jF.getD i 0
 jP:o.jP=o'.jP
theorem JL.refl(o:Out):JL o o:=⟨rfl,λ_ _=>rfl,rfl⟩
theorem alB{jF:List Int}{r:Option nP}{o d:Out}(h:EC jF r o)(f:EC jF r d):JL o d:=by
 cases r with
 |none=>
  have e:o=⟨1,jF,[]⟩:=h;have n:d=⟨1,jF,[]⟩:=f;rw[e,n];exact JL.refl _
 |some p=>
  obtain⟨a,b,c⟩:=h;obtain⟨g,j,k⟩:=f;exact⟨a.trans g.symm,λi hi=>(b i hi).trans (j i hi).symm,c.trans k.symm⟩
theorem alC{jF:List Int}{r:Option nP}{o:Out}(h:EC jF r o):o.status=0\/o.status=1:=by
 cases r with
 |none=>
  have e:o=⟨1,jF,[]⟩:=h;rw[e];exact je rfl
 |some p=>exact jf h.1
theorem aaf{v:Vw}(f:v.yO)(g:vJ v=true):nM v:=by
 have d:=aae g;exact⟨f,d.KN,d.KL,d.KJ⟩
theorem ar2(s:ji)(h:(nH s).2.1=0):(∀b,xA (Ac s b).1.data.toList=true)/\∀(v:Vw)(d g i j k n o p:Int),v.yO->(∀x∈[d,g,i,j,k,n,o,p],jK x)->
 JL (sS s false v d g i j k n o p) (sS s true v d g i j k n o p)/\((sS s false v d g i j k n o p).status=0\/(sS s false v d g i j k n o p).status=1\/(sS s false v d g i j k n o p).status=3):=by
 obtain⟨P,t,F,I,E,D⟩:=akP s h;obtain⟨K,L⟩:=Va F I E D (jf rfl);obtain⟨M,N⟩:=Va F I E D (je rfl);have A:=U9 s false h;have B:=U9 s true h;refine⟨λb=>?_,λv d g i j k n o p G J=>?_⟩
 .cases b with
  |false=>rw[A];exact K
  |true=>rw[B];exact M
 .unfold sS;rw[A,B];cases r:vJ v with
  |true=>
   have z:=L v d g i j k n o p (aaf G r) r J;have O:=N v d g i j k n o p (aaf G r) r J;refine⟨alB z O,?_⟩;rcases alC z with e|e
   .exact jf e
   .exact je (jf e)
  |false=>
   have f:∀y C,wI v y C d g i j k n o p=⟨3,[d,g,i,j,k,n,o,p],[]⟩:=λy C=>by
    unfold wI Di;rw[r,jg (by simp)]
   rw[f,f];exact⟨JL.refl _,je (je rfl)⟩
end
section
open Go.RowKit
open Hx (Rd Pk Vw St Mc jK Out Ls)
attribute [local go_sem ↓] Go.wp_at_zero Go.wp_at_succ
attribute [local go_sem] kN
section
variable {w w':jk}
theorem ak7(s:ji)(b:Bool)(w:jk):Calls prog 12 #[.string s,.bool b] w λe w'=>e=.returned (.tuple #[.string (Ac s b).1,Im (Ac s b).2.1,Im (Ac s b).2.2])/\w.grownBy w' none:=by
 cases b with
 |true=>exact ak6 s w
 |false=>exact ak5 s w
theorem ar0(s:ji)(b:Bool)(h:(nH s).2.1=0)(v:Vw)(S R Q:Option Addr)(nr cr nf cf na ca:Nat)(o p r t z A B D:Int)(hv:uV w.heap.size w S R Q nr nf na v)(hT:wO w)(Y:1<w.heap.size)(hx:∀x∈[o,p,r,t,z,A,B,D],jK x):
 Calls prog 26 #[.string s,.bool b,.agg #[.slice S nr cr,.slice R nf cf,.slice Q na ca],.agg #[Im o,Im p,Im r,Im t,Im z,Im A,Im B,Im D]] w λe w'=>∃i,e=.returned (.tuple #[vG (sS s b v o p r t z A B D).status i (sS s b v o p r t z A B D).jF,.bool true])/\
  w'.ownsRow w.heap.size 76 2 i (sS s b v o p r t z A B D).jP.length (nT (sS s b v o p r t z A B D).jP)/\Below w.heap.size w w':=by
 have ht:=(ar2 s h).1 b;have h0:(Ac s b).2.1=0:=(ak3 s b).trans h;have HC:Hid (∀y,Calls prog 12 #[.string s,.bool b] y λe w'=>e=.returned (.tuple #[.string (Ac s b).1,Im 0,Im (Ac s b).2.2])/\y.grownBy w' none):=λy=>by
  have:=ak7 s b y;rw[h0]at this;exact this
 unfold sS;clear h h0;generalize (Ac s b).2.2=ea at *;generalize (Ac s b).1=K at *;obtain⟨hl,E⟩:=Yt ht;have g:=Hx.RF _ hl E;have ak:0<=(mF K.data.toList).jC:=by have:=g.jC;omega
 have al:(mF K.data.toList).jC<=40000040:=g.wu;clear hl E g;generalize X:(mF K.data.toList).jC=jC at *;generalize Z:wI v K.data.toList jC o p r t z A B D=ou at *;have ag:=jA Z;have ae:=jA X;clear Z X;obtain⟨O,rs,G⟩:=ou;obtain⟨z0,z1,z2,z3,z4,z5,z6,z7,MO⟩:∃z0 z1 z2 z3 z4 z5 z6 z7:Int,Hid (∀i,vG O i rs=.agg #[.int .u8 O,i,Im z0,Im z1,Im z2,Im z3,Im z4,Im z5,Im z6,Im z7]):=⟨_,_,_,_,_,_,_,_,λi=>rfl⟩;show Calls _ _ _ _ λe w'=>∃i,e=.returned (.tuple #[vG O i rs,.bool true])/\w'.ownsRow w.heap.size 76 2 i G.length (nT G)/\Below w.heap.size w w';simp only[MO.out];go_enter func26,ntmps26;go_wp2_with fail;refine(HC.out _).mono ?_;rintro e w1 ⟨rfl,g1⟩;have b1:=(akz w _ _ _).later (Below.Jh g1);clear g1;have ad:=b1;go_wp2_with fail;refine(aoN w1 K).mono ?_;rintro e w2 ⟨V,h⟩;obtain⟨C,Af,rfl,N⟩:∃C,w1.heap.size<=C/\e=.returned (.tuple #[Pt C 0,Im 0])/\F7 w2 C (mF K.data.toList):=by
  rcases h with⟨_,C,L,U,h3⟩|⟨ab,_⟩
  .exact⟨C,L,U,h3⟩
  .rw[ht]at ab;cases ab
 have d:=b1.later V;have v0:w2.cell? (Ad w.heap.size 0)=some (.slice S nr cr):=jG d.b0;have v1:w2.cell? (Ad w.heap.size 1)=some (.slice R nf cf):=jG d.b0;have v2:w2.cell? (Ad w.heap.size 2)=some (.slice Q na ca):=jG d.b0;have y0:w2.cell? (Ad (w.heap.size+1) 0)=some (Im o):=jG d.b1;have y1:w2.cell? (Ad (w.heap.size+1) 1)=some (Im p):=jG d.b1;have y2:w2.cell? (Ad (w.heap.size+1) 2)=some (Im r):=jG d.b1;have y3:w2.cell? (Ad (w.heap.size+1) 3)=some (Im t):=jG d.b1;have y4:w2.cell? (Ad (w.heap.size+1) 4)=some (Im z):=jG d.b1;have y5:w2.cell? (Ad (w.heap.size+1) 5)=some (Im A):=jG d.b1;have y6:w2.cell? (Ad (w.heap.size+1) 6)=some (Im B):=jG d.b1;have y7:w2.cell? (Ad (w.heap.size+1) 7)=some (Im D):=jG d.b1;have HN:Hid (∀n,Calls prog 17 #[Pt C 0] (w2.drewN n) λe w'=>e=.returned (Im jC)/\w'=w2.drewN n):=λn=>by
  have:=apJ (w:=w2.drewN n) (C:=C) (n:=jC) (by rw[bH,<-ae.out];exact N.jC);exact this
 have M:Below w.heap.size w w2:=d.below;have HR:Hid (∀n,Calls prog 16 #[Pt C 0,.agg #[.slice S nr cr,.slice R nf cf,.slice Q na ca],.agg #[Im o,Im p,Im r,Im t,Im z,Im A,Im B,Im D],Im jC] (w2.drewN n) λe w'=>∃a c,e=.returned (.agg #[.int .u8 O,.slice a G.length c,Im z0,Im z1,Im z2,Im z3,Im z4,Im z5,Im z6,Im z7])/\w'.ownsRow w2.heap.size 76 2 (.slice a G.length c) G.length (nT G)/\Below w2.heap.size w2 w'):=λn=>by
  have hd:Below w2.heap.size w2 (w2.drewN n):=⟨rfl,rfl,rfl,aj _,λ_ _=>rfl⟩;have ai:=d.lt;refine(asE (w2.drewN n) C K.data.toList ht (N.later hd) v S R Q nr cr nf cf na ca o p r t z A B D jC (hv.later (M.trans (hd.mono (by omega))) (by show _<=w2.heap.size;omega)) (hT.later (M.trans (hd.mono (by omega))) Y) (by show 1<w2.heap.size;omega) hx (by omega)).mono ?_;rintro e w' ⟨i,L,U,h3⟩;rw[ag.out]at L U;have L:e=.returned (vG O i rs):=L;rw[MO.out]at L;obtain⟨a,c,rfl⟩:=vI U;exact⟨a,c,L,U,hd.trans h3⟩
 have I:Hid (FZ w w2 _ _ _):=d;clear V h N d b1 ad M hv hT hx ht HC;go_wp2_with fail;refine nO 5 (by kernel_rfl) (by kernel_rfl) ?_;simp only[aC,aO,aG,aQ];repeat (go_big_quiet_step ((go_at_call 17;exact dN (HN.out _))))
 refine bF ?_;intro _ ah;obtain⟨k3,ac⟩:=ah;subst ac;go_wp2_with fail;refine(HR.out _).mono ?_;rintro e w3 ⟨a,c,rfl,F,W⟩;have b3:=I.out.later W;have hf:∀j,w3.frozen? (Ad (w.heap.size+1+1) j)=false:=λj=>nA b3.b2;have f:∀j,w3.cell? (Ad (w.heap.size+1+1) j)=_:=λj=>jG b3.b2;have r0:=f 0;have r1:=f 1;have r2:=f 2;have r3:=f 3;have r4:=f 4;have r5:=f 5;have r6:=f 6;have r7:=f 7;have r8:=f 8;have r9:=f 9;have J:Hid (FZ w w3 _ _ _):=b3;have HS:=jA I.out.lt;have HW:=jA F;clear b3 W f F I HR HN;go_wp2_with fail;obtain⟨k1,P⟩:=ata w3 (w.heap.size+1+1) 35 _ _ _ _ _ _ _ _ _ _ (.int .u8 O) (.slice a G.length c) (Im z0) (Im z1) (Im z2) (Im z3) (Im z4) (Im z5) (Im z6) (Im z7) J.out.b2;refine cu (v:=.tuple #[.agg #[.int .u8 O,.slice a G.length c,Im z0,Im z1,Im z2,Im z3,Im z4,Im z5,Im z6,Im z7],.bool true]) ?_ rfl ?_
 .exact ar1 _ _ (w.heap.size+1+1) _ _ _ _ _ _ _ _ _ _ _ rfl rfl k1
 .refine⟨_,rfl,?_,?_⟩
  .have hs:=HS.out;exact(Lj HW.out (by omega)).kept P (yD HW.out (by omega))
  .exact J.out.below.trans ⟨P.os,P.tape,P.output,P.size,λk hk=>P.block k (by have:=J.out.lt;omega) (by simp;omega)⟩
theorem abQ{W:jk}{g:Nat}{T:jo}{d f i j k n o p r s:jm}(h:W.heap[g]? =some (.cells #[d,f,i,j,k,n,o,p,r,s] T)):W.cell? (Ad g 0)=some d/\W.cell? (Ad g 1)=some f/\W.cell? (Ad g 2)=some i/\W.cell? (Ad g 3)=some j/\W.cell? (Ad g 4)=some k/\W.cell? (Ad g 5)=some n/\W.cell? (Ad g 6)=some o/\W.cell? (Ad g 7)=some p/\W.cell? (Ad g 8)=some r/\W.cell? (Ad g 9)=some s:=
 ⟨jG h,jG h,jG h,jG h,jG h,jG h,jG h,jG h,jG h,jG h⟩
theorem avP(b:Bool)(w:jk):Calls prog 25 #[.bool b] w λe w'=>e=.returned (Im (Hx.lD b))/\w'=w:=by
 cases b;all_goals
  go_enter func25,ntmps25;go_wp2;go_ret;exact⟨rfl,rfl⟩
theorem wR{W d:jk}{B:Nat}{o:Obj}(h:W.heap[B]? =some o)(f:Below W.heap.size W d):d.heap[B]? =some o:=by
 have:=(Array.getElem?_eq_some_iff.1 h).1;rw[f.block B this,h]
theorem zu(W:jk)(o:Obj):Below W.heap.size W (W.alloc o):=Below.Jh (ah _ _ none)
theorem Nq(W:jk)(o:Obj):(W.alloc o).heap.size=W.heap.size+1:=eY ..
theorem JR(W:jk)(o:Obj):(W.alloc o).heap[W.heap.size]? =some o:=Array.getElem?_push_size ..
theorem akl{B:Nat}{w W d:jk}(h:Below B w W)(g:B<=W.heap.size)(f:Below W.heap.size W d):Below B w d:=h.trans (f.mono g)
theorem yw{w W d:jk}(h:Below w.heap.size w W)(f:Below W.heap.size W d):Below w.heap.size w d:=akl h h.size f
theorem akN{W:jk}{g:Nat}{T:jo}{d f i j k n o p:jm}(h:W.heap[g]? =some (.cells #[d,f,i,j,k,n,o,p] T)):W.cell? (Ad g 0)=some d/\W.cell? (Ad g 1)=some f/\W.cell? (Ad g 2)=some i/\W.cell? (Ad g 3)=some j/\W.cell? (Ad g 4)=some k/\W.cell? (Ad g 5)=some n/\W.cell? (Ad g 6)=some o/\W.cell? (Ad g 7)=some p:=
 ⟨jG h,jG h,jG h,jG h,jG h,jG h,jG h,jG h⟩
end
end
section
open Go.RowKit Hx
def upto(n:Nat):List Int:=(List.range n).map λi:Nat=>(i:Int)
def zM(n:Nat):List Int:=(List.range n).map λi:Nat=>((16+i:Nat):Int)
theorem apo:∀n:Nat,n<17->∀k:Nat,k<n->yx (2^n-2^k)=2^n-2^(k+1)/\tz (2^n-2^k)=k/\(2^n-2^k:Int)≠0:=by decide+kernel
theorem apn:∀n:Nat,n<17->∀k:Nat,k<n->yx ((2^n-2^k) * 65536)=(2^n-2^(k+1)) * 65536/\tz ((2^n-2^k) * 65536)=((16+k:Nat):Int)/\((2^n-2^k) * 65536:Int)≠0:=by decide+kernel
theorem abv{n:Nat}(d:n<17):∀(j F:Nat),j<=n->j<=F->xJ F (2^n-2^(n-j))=(List.range' (n-j) j).map λi:Nat=>(i:Int)
 |0,F,_,_=>by
  rw[Nat.sub_zero,Int.sub_self];cases F with
  |zero=>rfl
  |succ F=>rw[xJ,jh rfl];rfl
 |j+1,F,hj,hF=>by
  obtain⟨F,rfl⟩:∃k,F=k+1:=⟨F-1,by omega⟩;obtain⟨f,g,h⟩:=apo n d (n-(j+1)) (by omega);rw[xJ,jg h,f,g,show n-(j+1)+1=n-j by omega,abv d j F (by omega) (by omega),List.range'_succ,dL,show n-(j+1)+1=n-j by omega]
theorem abu{n:Nat}(d:n<17):∀(j F:Nat),j<=n->j<=F->xJ F ((2^n-2^(n-j)) * 65536)=(List.range' (n-j) j).map λi:Nat=>((16+i:Nat):Int)
 |0,F,_,_=>by
  rw[Nat.sub_zero,Int.sub_self,Int.zero_mul];cases F with
  |zero=>rfl
  |succ F=>rw[xJ,jh rfl];rfl
 |j+1,F,hj,hF=>by
  obtain⟨F,rfl⟩:∃k,F=k+1:=⟨F-1,by omega⟩;obtain⟨f,g,h⟩:=apn n d (n-(j+1)) (by omega);rw[xJ,jg h,f,g,show n-(j+1)+1=n-j by omega,abu d j F (by omega) (by omega),List.range'_succ,dL,show n-(j+1)+1=n-j by omega]
theorem ajK:∀n:Nat,n<17->nY (bits .and .i64 (pK n) (pK n))=2^n-2^0/\n<=(2^n-2^0:Int).toNat:=by decide+kernel
theorem ajI:∀n:Nat,n<17->nY (bits .and .i64 (wrap64 (pK n * 65536)) (wrap64 (pK n * 65536)))=(2^n-2^0) * 65536/\n<=((2^n-2^0) * 65536:Int).toNat:=by decide+kernel
theorem afA{n:Nat}(h:n<17):bitsOf (nY (bits .and .i64 (pK n) (pK n)))=upto n:=by
 obtain⟨d,f⟩:=ajK n h;have q:=abv h n (2^n-2^0:Int).toNat (aj _) f;rw[Nat.sub_self]at q;unfold bitsOf upto;rw[d,q,List.range_eq_range']
theorem aqF{n:Nat}(h:n<17):bitsOf (nY (bits .and .i64 (wrap64 (pK n * 65536)) (wrap64 (pK n * 65536))))=zM n:=by
 obtain⟨d,f⟩:=ajI n h;have q:=abu h n ((2^n-2^0) * 65536:Int).toNat (aj _) f;rw[Nat.sub_self]at q;unfold bitsOf zM;rw[d,q,List.range_eq_range']
theorem aqG{v:Vw}(h:v.jU.length<17):rM v 0=upto v.jU.length:=by
 unfold rM Vw.all;rw[jh rfl];exact afA h
theorem aqE{v:Vw}(h:v.kK.length<17):rM v 1=upto v.kK.length:=by
 unfold rM Vw.all;rw[jg (by decide),jh rfl];exact afA h
theorem aqC{v:Vw}(h:v.jW.length<17):rM v 2=zM v.jW.length:=by
 unfold rM Vw.all;rw[jg (by decide),jg (by decide)];exact aqF h
theorem alQ:∀n:Nat,n<17->(lowest (nY (pK n))= -1↔n=0):=by decide+kernel
theorem QE.eq{t:Int}{s:jI}{F d:lV}(h:QE t s F)(f:∀v p,F v p=d v p):QE t s d:=by
 obtain rfl:F=d:=funext λv=>funext λp=>f v p;exact h
theorem aiv:lU [60]=(15,false):=by kernel_rfl
def Ef(v:Vw)(i:Int):Bool:=decide (uP 31 (v.mG i)<uP 30 (v.mG i))
def OQ(v:Vw)(kp:Int->Bool)(acc:Int×Int)(i:Int):Int×Int:=if kp i then (if decide (uP 29 (v.mG i)<acc.2)||acc.1== -1 then (i,uP 29 (v.mG i))else acc)else acc
def nearest(v:Vw)(l:List Int)(kp:Int->Bool):Int:=(l.foldl (OQ v kp) (-1,0)).1
def zq(v:Vw)(m i:Int):List (Int×Int):=match v.mG m,v.nJ i with
 |some r,some q=>[(r.id,q.seq)]
 |_,_=>[]
theorem UC(v:Vw)(m i:Int):(zq v m i).length<=1:=by
 unfold zq;split<;>simp
theorem SC{f f':Val}{v:Vw}{p:nP}(h:p.jP.length<256):Hr f f' v p=.inr {p with jP:=p.jP++zq v (f p.env v p.jF) (f' p.env v p.jF)}:=by
 unfold Hr zq;cases v.mG (f p.env v p.jF)with
 |none=>simp
 |some r=>
  cases v.nJ (f' p.env v p.jF)with
  |none=>simp
  |some q=>
   show(if p.jP.length=256 then _ else _)=_;rw[jg (by omega)]
theorem XT{t:ji}{B:lV}{v:Vw}{σ:Int->Int}(g:Int->List (Int×Int))(j:∀i,(g i).length<=1)(f:∀i a,a.length<256->B v ⟨[(t,i)],σ,a⟩=.inr ⟨[(t,i)],σ,a++g i⟩):
 ∀(d:List Int)(a:List (Int×Int)),a.length+d.length<=256->xq t B v d ⟨[],σ,a⟩=.inr ⟨[],σ,a++d.flatMap g⟩
 |[],a,_=>by simp[xq]
 |i::d,a,h=>by
  rw[aF]at h;have hi:=j i;rw[xq];simp only[dP,f i a (by omega),bg,aO];rw[XT g j f d (a++g i) (by rw[aA];omega),c8,bY]
theorem aeP{w:List UInt8}(k:wS w=true){init list:Int}(hi:init= -1){fs:List (Wd×Ex)}{zs:List (Sz×Val)}{t:ji}{f:Val}{e:List (ji×Int)}{v:Vw}{σ:Int->Int}{kp:Int->Bool}{l:List Int}(j:rM v list=l)(h:∀i,l7 fs zs e v σ i=kp i)(g:∀i,f (e++[(t,i)]) v σ=uP 29 (v.mG i)):vC w init list fs zs t f e v σ=nearest v l kp:=by
 subst hi;unfold vC nearest;have:(λ(d:Int×Int)(i:Int)=>if l7 fs zs e v σ i then oO w d i (f (e++[(t,i)]) v σ)else d)=OQ v kp:=by
  funext d i
  rw[h,g];unfold OQ oO;rw[jh k]
 rw[this,j]
theorem aod{fs:List (Wd×Ex)}{zs:List (Sz×Val)}{d f:Wd×Ex}{p r:Sz}{g h:Val}{e:List (ji×Int)}{v:Vw}{σ:Int->Int}{k:Int}{A B:Bool}(n:fs=[d,f])(o:zs=[(p,g),(r,h)])(i:decide (g (e++[(d.1.text,k)]) v σ≠0)=A)(j:decide (h (e++[(f.1.text,k)]) v σ≠0)=B):l7 fs zs e v σ k=(A&&B):=by
 subst n o i j;simp only[l7,Bool.and_true]
theorem aoc{fs:List (Wd×Ex)}{zs:List (Sz×Val)}{d:Wd×Ex}{j:Sz}{f:Val}{e:List (ji×Int)}{v:Vw}{σ:Int->Int}{k:Int}{A:Bool}(h:fs=[d])(i:zs=[(j,f)])(g:decide (f (e++[(d.1.text,k)]) v σ≠0)=A):l7 fs zs e v σ k=A:=by
 subst h i g;simp only[l7,Bool.and_true]
theorem WE{fs:List (Wd×Ex)}{zs:List (Sz×Val)}{e:List (ji×Int)}{v:Vw}{σ:Int->Int}{k:Int}(d:fs=[]):l7 fs zs e v σ k=true:=by
 subst d;cases zs<;>rfl
theorem af6:pU [111,117,116]=31:=by kernel_rfl
theorem af5:pU [99,119,110,100]=30:=by kernel_rfl
theorem af7:pU [114,116,116]=29:=by kernel_rfl
theorem ark:pU [115,101,113]=33:=by kernel_rfl
theorem af8:pU [115,105,122,101]=34:=by kernel_rfl
theorem ari:pU [108,111,115,115,121]=32:=by kernel_rfl
theorem aqa(v:Vw)(i:Int):outcome v 31 i 0=uP 31 (v.mG i):=by simp[outcome]
theorem ap9(v:Vw)(i:Int):outcome v 30 i 0=uP 30 (v.mG i):=by simp[outcome]
theorem afi(v:Vw)(i:Int):outcome v 29 i 0=uP 29 (v.mG i):=by simp[outcome]
theorem aqb(v:Vw)(i:Int):outcome v 32 i 0=uP 32 (v.mG i):=by simp[outcome]
theorem aqc(v:Vw)(i:Int):outcome v 33 i 0=yT 33 (v.nJ i):=by simp[outcome]
theorem afj(v:Vw)(i:Int):outcome v 34 i 0=yT 34 (v.nJ i):=by simp[outcome]
theorem aqd(v:Vw)(i k:Int):outcome v 35 i k=lD (Oo (v.nJ i) (v.mG k)):=by simp[outcome]
theorem ap8(v:Vw)(i k:Int):outcome v 15 i k=lD (decide (i<k)):=by simp[outcome,two]
theorem au3(b:Bool):decide (lD b≠0)=b:=by cases b<;>rfl
theorem apX(b:Bool):decide (lD (lD b==0)≠0)= !b:=by cases b<;>rfl
theorem agG{w o c:List UInt8}(h:lU w=(15,false))(g:pU o=31)(d:pU c=30){v:Vw}{i j k:Int}(hi:i=k)(f:j=k):
 decide ((if (lU w).2 then outcome v (lU w).1 (outcome v (pU c) j 0) (outcome v (pU o) i 0)else outcome v (lU w).1 (outcome v (pU o) i 0) (outcome v (pU c) j 0))≠0)=Ef v k:=by
 subst hi f;simp only[h,g,d,aH,cZ,aqa,ap9,ap8];exact au3 _
theorem aql{v:Vw}{i j k:Int}(d:j=k):decide (lD (outcome v 35 i j==0)≠0)= !Oo (v.nJ i) (v.mG k):=by
 subst d;rw[aqd,apX]
def jQ:ji:=⟨#[101,97,99,104,32,112,32,105,110,32,65,71,65,73,78,32,123,32,118,97,114,32,98,101,115,116,32,61,32,82,79,65,68,83,46,102,105,108,116,101,114,40,114,58,32,114,46,111,117,116,32,60,32,114,46,99,119,110,100,41,46,102,105,108,116,101,114,40,115,58,32,33,112,46,111,110,40,115,41,41,46,109,105,110,40,116,58,32,116,46,114,116,116,41,59,32,112,117,115,104,40,98,101,115,116,44,32,112,41,59,32,125,32,101,97,99,104,32,113,32,105,110,32,70,82,69,83,72,32,123,32,112,117,115,104,40,82,79,65,68,83,46,102,105,108,116,101,114,40,114,58,32,114,46,111,117,116,32,60,32,114,46,99,119,110,100,41,46,109,105,110,40,116,58,32,116,46,114,116,116,41,44,32,113,41,59,32,125,32,82,48,32,61,32,82,79,65,68,83,46,99,111,117,110,116,59,32,82,49,32,61,32,70,82,69,83,72,46,115,117,109,40,112,58,32,112,46,115,105,122,101,41,59,32,82,50,32,61,32,65,71,65,73,78,46,109,97,120,40,112,58,32,112,46,115,105,122,101,41,46,115,101,113,59,32,105,102,32,82,79,65,68,83,46,97,110,121,40,114,58,32,114,46,108,111,115,115,121,41,32,123,32,82,51,32,61,32,49,59,32,125,32,105,102,32,105,115,110,111,110,101,40,70,82,69,83,72,46,102,105,114,115,116,41,32,123,32,82,52,32,61,32,49,59,32,125]⟩
def Yf:jI:=qQ 0 ⟨⟨#[112]⟩,5⟩ (⟨10,1,⟨#[65,71,65,73,78]⟩,4,[]⟩) [sF 18 ⟨⟨#[98,101,115,116]⟩,22⟩ (qL 3 ⟨#[109,105,110]⟩ (((⟨29,1,⟨#[82,79,65,68,83]⟩,3,[]⟩:Sx).add (⟨⟨#[114]⟩,42⟩,nX 45 (mJ [60]).2 ⟨#[60]⟩ (oQ 45 (kY [111,117,116]).2 (kY [111,117,116]).1 (nK 45 ⟨⟨#[114]⟩,45⟩) ⟨⟨#[111,117,116]⟩,47⟩) (oQ 53 (kY [99,119,110,100]).2 (kY [99,119,110,100]).1 (nK 53 ⟨⟨#[114]⟩,53⟩) ⟨⟨#[99,119,110,100]⟩,55⟩))).add (⟨⟨#[115]⟩,68⟩,sG 71 2 ⟨#[33]⟩ (wG 72 (nK 72 ⟨⟨#[112]⟩,72⟩) (nK 77 ⟨⟨#[115]⟩,77⟩)))) (⟨⟨#[116]⟩,85⟩,oQ 88 (kY [114,116,116]).2 (kY [114,116,116]).1 (nK 88 ⟨⟨#[116]⟩,88⟩) ⟨⟨#[114,116,116]⟩,90⟩)),sQ 96 (nK 101 ⟨⟨#[98,101,115,116]⟩,101⟩) (nK 107 ⟨⟨#[112]⟩,107⟩)]
def Yg:jI:=qQ 113 ⟨⟨#[113]⟩,118⟩ (⟨123,1,⟨#[70,82,69,83,72]⟩,4,[]⟩) [sQ 131 (qL 3 ⟨#[109,105,110]⟩ ((⟨136,1,⟨#[82,79,65,68,83]⟩,3,[]⟩:Sx).add (⟨⟨#[114]⟩,149⟩,nX 152 (mJ [60]).2 ⟨#[60]⟩ (oQ 152 (kY [111,117,116]).2 (kY [111,117,116]).1 (nK 152 ⟨⟨#[114]⟩,152⟩) ⟨⟨#[111,117,116]⟩,154⟩) (oQ 160 (kY [99,119,110,100]).2 (kY [99,119,110,100]).1 (nK 160 ⟨⟨#[114]⟩,160⟩) ⟨⟨#[99,119,110,100]⟩,162⟩))) (⟨⟨#[116]⟩,172⟩,oQ 175 (kY [114,116,116]).2 (kY [114,116,116]).1 (nK 175 ⟨⟨#[116]⟩,175⟩) ⟨⟨#[114,116,116]⟩,177⟩)) (nK 183 ⟨⟨#[113]⟩,183⟩)]
def Tm:jI:=uQ 189 0 (wP 1 ⟨#[99,111,117,110,116]⟩ (⟨194,1,⟨#[82,79,65,68,83]⟩,3,[]⟩))
def Yh:jI:=uQ 207 1 (qL 1 ⟨#[115,117,109]⟩ (⟨212,1,⟨#[70,82,69,83,72]⟩,4,[]⟩) (⟨⟨#[112]⟩,222⟩,oQ 225 (kY [115,105,122,101]).2 (kY [115,105,122,101]).1 (nK 225 ⟨⟨#[112]⟩,225⟩) ⟨⟨#[115,105,122,101]⟩,227⟩))
def Yi:jI:=uQ 234 2 (oQ 239 (kY [115,101,113]).2 (kY [115,101,113]).1 (qL 4 ⟨#[109,97,120]⟩ (⟨239,1,⟨#[65,71,65,73,78]⟩,4,[]⟩) (⟨⟨#[112]⟩,249⟩,oQ 252 (kY [115,105,122,101]).2 (kY [115,105,122,101]).1 (nK 252 ⟨⟨#[112]⟩,252⟩) ⟨⟨#[115,105,122,101]⟩,254⟩)) ⟨⟨#[115,101,113]⟩,260⟩)
def Yj:jI:=qo 265 (qL 2 ⟨#[97,110,121]⟩ (⟨268,1,⟨#[82,79,65,68,83]⟩,3,[]⟩) (⟨⟨#[114]⟩,278⟩,oQ 281 (kY [108,111,115,115,121]).2 (kY [108,111,115,115,121]).1 (nK 281 ⟨⟨#[114]⟩,281⟩) ⟨⟨#[108,111,115,115,121]⟩,283⟩)) [uQ 292 3 (Ak 297 1)] []
def Tn:jI:=qo 302 (yP 305 (wP 4 ⟨#[102,105,114,115,116]⟩ (⟨312,1,⟨#[70,82,69,83,72]⟩,4,[]⟩))) [uQ 327 4 (Ak 332 1)] []
def Pj:Ps:=⟨⟨5,⟨#[101,97,99,104]⟩,0⟩,0,0,0⟩
def Ti:Ps:=⟨⟨5,⟨#[101,97,99,104]⟩,113⟩,0,0,0⟩
def Yb:Ps:=⟨⟨4,⟨#[82,48]⟩,189⟩,0,0,0⟩
def sp3:Ps:=⟨⟨4,⟨#[82,49]⟩,207⟩,0,0,0⟩
def sp4:Ps:=⟨⟨4,⟨#[82,50]⟩,234⟩,0,0,0⟩
def sp5:Ps:=⟨⟨5,⟨#[105,102]⟩,265⟩,0,0,0⟩
def sp6:Ps:=⟨⟨5,⟨#[105,102]⟩,302⟩,0,0,0⟩
def Pm:Ps:=⟨⟨1,⟨#[]⟩,336⟩,0,0,0⟩
def Jt:List jI:=[Yf,Yg,Tm,Yh,Yi,Yj,Tn]
theorem aul:(oJ Jt ⟨[],0,0⟩).en=0:=by kernel_rfl
theorem auk:lS Jt<=1000000:=by decide+kernel
theorem aoK:jO ⟨#[82,79,65,68,83]⟩=0:=by kernel_rfl
theorem aoG:jO ⟨#[70,82,69,83,72]⟩=1:=by kernel_rfl
theorem aoF:jO ⟨#[65,71,65,73,78]⟩=2:=by kernel_rfl
theorem Xq{v:Vw}(h:v.jU.length<17):rM v (jO ⟨#[82,79,65,68,83]⟩)=upto v.jU.length:=by rw[aoK];exact aqG h
theorem afs{v:Vw}(h:v.kK.length<17):rM v (jO ⟨#[70,82,69,83,72]⟩)=upto v.kK.length:=by rw[aoG];exact aqE h
theorem afr{v:Vw}(h:v.jW.length<17):rM v (jO ⟨#[65,71,65,73,78]⟩)=zM v.jW.length:=by rw[aoF];exact aqC h
theorem aci{list:Int}{fs:List (Wd×Ex)}{zs:List (Sz×Val)}{t:ji}{B:lV}{v:Vw}{p:nP}{l:List Int}(f:fs=[])(d:rM v list=l):NI list fs zs t B v p=xq t B v l p:=by
 subst f;unfold rM at d;unfold NI sU;rw[jh (by rfl),d]
theorem akt{m:Val}{v:Vw}{σ:Int->Int}{i:Int}{a:List (Int×Int)}(d:a.length<256):
 pG (nU [λv p=>.inr {p with env:=p.env++[(⟨#[98,101,115,116]⟩,m p.env v p.jF)]},Hr (λe _ _=>lookup ⟨#[98,101,115,116]⟩ e) (λe _ _=>lookup ⟨#[112]⟩ e)]) v ⟨[(⟨#[112]⟩,i)],σ,a⟩=.inr ⟨[(⟨#[112]⟩,i)],σ,a++zq v (m [(⟨#[112]⟩,i)] v σ) i⟩:=by
 have e:=SC (f:=λe _ _=>lookup ⟨#[98,101,115,116]⟩ e) (f':=λe _ _=>lookup ⟨#[112]⟩ e) (v:=v) (p:=⟨[(⟨#[112]⟩,i),(⟨#[98,101,115,116]⟩,m [(⟨#[112]⟩,i)] v σ)],σ,a⟩) d;have g:∀x y:Int,lookup ⟨#[98,101,115,116]⟩ [(⟨#[112]⟩,x),(⟨#[98,101,115,116]⟩,y)]=y:=λ_ _=>rfl;have h:∀x y:Int,lookup ⟨#[112]⟩ [(⟨#[112]⟩,x),(⟨#[98,101,115,116]⟩,y)]=x:=λ_ _=>rfl;simp only[g,h]at e;simp only[pG,nU,bZ,dP,e,aF,bg,aC,aO]
theorem aku{m:Val}{v:Vw}{σ:Int->Int}{i:Int}{a:List (Int×Int)}(d:a.length<256):
 pG (nU [Hr m (λe _ _=>lookup ⟨#[113]⟩ e)]) v ⟨[(⟨#[113]⟩,i)],σ,a⟩=.inr ⟨[(⟨#[113]⟩,i)],σ,a++zq v (m [(⟨#[113]⟩,i)] v σ) i⟩:=by
 have e:=SC (f:=m) (f':=λe _ _=>lookup ⟨#[113]⟩ e) (v:=v) (p:=⟨[(⟨#[113]⟩,i)],σ,a⟩) d;have g:∀x:Int,lookup ⟨#[113]⟩ [(⟨#[113]⟩,x)]=x:=λ_=>rfl;simp only[g]at e;simp only[pG,nU,e,aF,bg,aC,aO]
def Iy(v:Vw):List (Int×Int):=(zM v.jW.length).flatMap λi=>zq v (nearest v (upto v.jU.length) λk=>Ef v k&& !Oo (v.nJ i) (v.mG k)) i
def NT(v:Vw):List (Int×Int):=(upto v.kK.length).flatMap λi=>zq v (nearest v (upto v.jU.length) (Ef v)) i
theorem Z8(n:Nat):(upto n).length=n/\(zM n).length=n:=by simp[upto,zM]
theorem se0:∃t F,t<=600/\QE t Yf F/\∀(v:Vw)(σ:Int->Int)(a:List (Int×Int)),v.jU.length<17->v.jW.length<17->a.length+v.jW.length<=256->F v ⟨[],σ,a⟩=.inr ⟨[],σ,a++Iy v⟩:=by
 obtain⟨p,f⟩:=AU.add (d:=⟨⟨#[114]⟩,42⟩) (FI 29 3 ⟨#[82,79,65,68,83]⟩ (by decide) (by decide)) (YC (Df (y8 45 ⟨⟨#[114]⟩,45⟩) 45 ⟨⟨#[111,117,116]⟩,47⟩) (Df (y8 53 ⟨⟨#[114]⟩,53⟩) 53 ⟨⟨#[99,119,110,100]⟩,55⟩) 45 ⟨#[60]⟩);obtain⟨r,g⟩:=AU.add (d:=⟨⟨#[115]⟩,68⟩) (f) (afb (afq (y8 72 ⟨⟨#[112]⟩,72⟩) (y8 77 ⟨⟨#[115]⟩,77⟩) 72) 71 ⟨#[33]⟩ rfl);refine⟨_,_,?_,aex (FI 10 4 ⟨#[65,71,65,73,78]⟩ (by decide) (by decide)) (Bq (aeL (KO (g) (Df (y8 88 ⟨⟨#[116]⟩,88⟩) 88 ⟨⟨#[114,116,116]⟩,90⟩) 3 ⟨#[109,105,110]⟩ ⟨⟨#[116]⟩,85⟩ (by decide) (by decide)) 18 ⟨⟨#[98,101,115,116]⟩,22⟩) (Bq (XL (y8 101 ⟨⟨#[98,101,115,116]⟩,101⟩) (y8 107 ⟨⟨#[112]⟩,107⟩) 96) (Jc))) 0 ⟨⟨#[112]⟩,5⟩,λv σ a o h n=>?_⟩
 .decide
 rw[aci rfl (afr h),XT (λi=>zq v (nearest v (upto v.jU.length) λk=>Ef v k&& !Oo (v.nJ i) (v.mG k)) i) (λi=>UC _ _ _) ?_ _ _ (by rw[(Z8 _).2];exact n)]
 .rfl
 intro i b j;rw[akt j];rw[aeP (l:=upto v.jU.length) (kp:=λk=>Ef v k&& !Oo (v.nJ i) (v.mG k)) ?_ ?_ ?_ ?_ ?_]
 .rfl
 .rfl
 .exact Xq o
 .exactλk=>aod rfl rfl (agG aiv af6 af5 rfl rfl) (aql rfl)
 .intro k;show outcome v (pU [114,116,116]) k 0=_;rw[af7,afi]
theorem se1:∃t F,t<=600/\QE t Yg F/\∀(v:Vw)(σ:Int->Int)(a:List (Int×Int)),v.jU.length<17->v.kK.length<17->a.length+v.kK.length<=256->F v ⟨[],σ,a⟩=.inr ⟨[],σ,a++NT v⟩:=by
 obtain⟨o,f⟩:=AU.add (d:=⟨⟨#[114]⟩,149⟩) (FI 136 3 ⟨#[82,79,65,68,83]⟩ (by decide) (by decide)) (YC (Df (y8 152 ⟨⟨#[114]⟩,152⟩) 152 ⟨⟨#[111,117,116]⟩,154⟩) (Df (y8 160 ⟨⟨#[114]⟩,160⟩) 160 ⟨⟨#[99,119,110,100]⟩,162⟩) 152 ⟨#[60]⟩);refine⟨_,_,?_,aex (FI 123 4 ⟨#[70,82,69,83,72]⟩ (by decide) (by decide)) (Bq (XL (KO (f) (Df (y8 175 ⟨⟨#[116]⟩,175⟩) 175 ⟨⟨#[114,116,116]⟩,177⟩) 3 ⟨#[109,105,110]⟩ ⟨⟨#[116]⟩,172⟩ (by decide) (by decide)) (y8 183 ⟨⟨#[113]⟩,183⟩) 131) (Jc)) 113 ⟨⟨#[113]⟩,118⟩,λv σ a n g j=>?_⟩
 .decide
 rw[aci rfl (afs g),XT (λi=>zq v (nearest v (upto v.jU.length) (Ef v)) i) (λi=>UC _ _ _) ?_ _ _ (by rw[(Z8 _).1];exact j)]
 .rfl
 intro i b h;rw[aku h];rw[aeP (l:=upto v.jU.length) (kp:=Ef v) ?_ ?_ ?_ ?_ ?_]
 .rfl
 .rfl
 .exact Xq n
 .exactλk=>aoc rfl rfl (agG aiv af6 af5 rfl rfl)
 .intro k;show outcome v (pU [114,116,116]) k 0=_;rw[af7,afi]
theorem ab1{f:Val}{Y:lV}{i x:Int}(d:∀v p,Y v p=.inr {p with jF:=qy p.jF i x})(v:Vw)(p:nP):
 A8 f (pG (nU [Y])) (pG (nU [])) v p=.inr {p with jF:=if f p.env v p.jF=0 then p.jF else qy p.jF i x}:=by
 unfold A8;split<;>simp[pG,nU,d]
theorem sq2:∃t,t<=20/\QE t Tm (λv p=>.inr {p with jF:=qy p.jF 0 (OZ (nY (v.all 0)))}):=⟨_,by decide,QE.eq (LJ (UJ (FI 194 3 ⟨#[82,79,65,68,83]⟩ (by decide) (by decide)) 1 (by decide) ⟨#[99,111,117,110,116]⟩) 189 0 (by omega)) λv p=>by simp[outcome,sU,jO]⟩
theorem sq6:∃t,t<=20/\QE t Tn (λv p=>.inr {p with jF:=if lowest (nY (v.all 1))= -1 then qy p.jF 4 1 else p.jF}):=⟨_,by decide,QE.eq (abW (ad4 (UJ (FI 312 4 ⟨#[70,82,69,83,72]⟩ (by decide) (by decide)) 4 (by decide) ⟨#[102,105,114,115,116]⟩) 305) (Bq (LJ (Xo 332 1 (by unfold jK;omega)) 327 4 (by omega)) (Jc)) Jc 302) λv p=>(ab1 (λv p=>rfl) v p).trans (by simp[outcome,sU,jO,lD])⟩
theorem ak8:∀n,n<17->OZ (nY (pK n))=n:=by decide+kernel
end
end Go.Proofs.YthllhabjfchgiaaGreatDoor
