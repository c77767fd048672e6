import Derived.Test.YthllhabjfchgiaaGreatDoorHs44
set_option maxRecDepth 100000
set_option maxHeartbeats 8000000
set_option linter.unusedSimpArgs false
namespace Go.Proofs.YthllhabjfchgiaaGreatDoor
section
open Go.RowKit Hx
theorem Vq(g:Int->Int->Int):∀(l:List Int)(a b:Int),(l.foldl (λ(c:Int×Int) i=>(g c.1 i,c.2)) (a,b)).1=l.foldl g a
 |[],_,_=>rfl
 |i::l,a,b=>by
  rw[bP,bP];exact Vq g l (g a i) b
theorem apu{w:List UInt8}(d:wS w=false)(g:isMax w=false)(h:Fv w=true){init list:Int}(hi:init=0){fs:List (Wd×Ex)}(c:fs=[]){zs:List (Sz×Val)}{t:ji}{f:Val}{e:List (ji×Int)}{v:Vw}{σ:Int->Int}{l:List Int}(k:rM v list=l){x:Int->Int}(j:∀i,f (e++[(t,i)]) v σ=x i):vC w init list fs zs t f e v σ=l.foldl (λa i=>wrap64 (a+x i)) 0:=by
 subst hi;unfold vC;have:(λ(b:Int×Int)(i:Int)=>if l7 fs zs e v σ i then oO w b i (f (e++[(t,i)]) v σ)else b)=λb i=>(wrap64 (b.1+x i),b.2):=by
  funext b i
  rw[WE c,j,jh rfl];unfold oO;rw[jg (by rw[d];decide),jg (by rw[g];decide),jh h]
 rw[this,k];exact Vq (λa i=>wrap64 (a+x i)) l 0 0
theorem apr{w:List UInt8}(d:wS w=false)(g:isMax w=false)(h:Fv w=false)(j:isAny w=true){init list:Int}(hi:init=0){fs:List (Wd×Ex)}(c:fs=[]){zs:List (Sz×Val)}{t:ji}{f:Val}{e:List (ji×Int)}{v:Vw}{σ:Int->Int}{l:List Int}(m:rM v list=l){x:Int->Int}(k:∀i,f (e++[(t,i)]) v σ=x i):vC w init list fs zs t f e v σ=l.foldl (λa i=>bits .or .i64 a (x i)) 0:=by
 subst hi;unfold vC;have:(λ(b:Int×Int)(i:Int)=>if l7 fs zs e v σ i then oO w b i (f (e++[(t,i)]) v σ)else b)=λb i=>(bits .or .i64 b.1 (x i),b.2):=by
  funext b i
  rw[WE c,k,jh rfl];unfold oO;rw[jg (by rw[d];decide),jg (by rw[g];decide),jg (by rw[h];decide),jh j]
 rw[this,m];exact Vq (λa i=>bits .or .i64 a (x i)) l 0 0
def KP(x:Int->Int)(acc:Int×Int)(i:Int):Int×Int:=if decide (acc.2<x i)||acc.1== -1 then (i,x i)else acc
theorem apt{w:List UInt8}(c:wS w=false)(d:isMax w=true){init list:Int}(hi:init= -1){fs:List (Wd×Ex)}(b:fs=[]){zs:List (Sz×Val)}{t:ji}{f:Val}{e:List (ji×Int)}{v:Vw}{σ:Int->Int}{l:List Int}(h:rM v list=l){x:Int->Int}(g:∀i,f (e++[(t,i)]) v σ=x i):vC w init list fs zs t f e v σ=(l.foldl (KP x) (-1,0)).1:=by
 subst hi;unfold vC;have:(λ(a:Int×Int)(i:Int)=>if l7 fs zs e v σ i then oO w a i (f (e++[(t,i)]) v σ)else a)=KP x:=by
  funext a i
  rw[WE b,g,jh rfl];unfold oO KP;rw[jg (by rw[c];decide),jh d]
 rw[this,h]
def En(v:Vw)(i:Int):Int:=yT 34 (v.nJ i)
def Ea(v:Vw)(i:Int):Bool:=match v.mG i with
 |some r=>r.wo
 |none=>false
def TB(v:Vw):Int:=(upto v.kK.length).foldl (λa i=>wrap64 (a+En v i)) 0
def OG(v:Vw):Int:=((zM v.jW.length).foldl (KP (En v)) (-1,0)).1
def UE(v:Vw):Bool:=(upto v.jU.length).any (Ea v)
theorem aqN:∀a b:Bool,bits .or .i64 (lD a) (lD b)=lD (a||b):=by decide+kernel
theorem aa7(x:Int->Bool):∀(l:List Int)(a:Bool),l.foldl (λa i=>bits .or .i64 a (lD (x i))) (lD a)=lD (a||l.any x)
 |[],a=>by simp
 |i::l,a=>by rw[bP,aqN,aa7 x l,List.any_cons,Bool.or_assoc]
theorem ao9(v:Vw)(i:Int):uP 32 (v.mG i)=lD (Ea v i):=by
 unfold Ea;cases v.mG i with
 |none=>simp[uP,lD]
 |some r=>simp[uP]
theorem se2:∃t F,t<=20/\QE t Tm F/\∀(v:Vw)(σ:Int->Int)(a:List (Int×Int)),v.jU.length<17->F v ⟨[],σ,a⟩=.inr ⟨[],qy σ 0 v.jU.length,a⟩:=by
 obtain⟨t,c,h⟩:=sq2;refine⟨t,_,c,h,λv σ a b=>?_⟩;have e:v.all 0=pK v.jU.length:=by unfold Vw.all;rw[jh rfl]
 rw[e,ak8 _ b]
theorem se3:∃t F,t<=100/\QE t Yh F/\∀(v:Vw)(σ:Int->Int)(a:List (Int×Int)),v.kK.length<17->F v ⟨[],σ,a⟩=.inr ⟨[],qy σ 1 (TB v),a⟩:=by
 refine⟨_,_,?_,LJ (KO (FI 212 4 ⟨#[70,82,69,83,72]⟩ (by decide) (by decide)) (Df (y8 225 ⟨⟨#[112]⟩,225⟩) 225 ⟨⟨#[115,105,122,101]⟩,227⟩) 1 ⟨#[115,117,109]⟩ ⟨⟨#[112]⟩,222⟩ (by decide) (by decide)) 207 1 (by omega),λv σ a h=>?_⟩
 .decide
 simp only;rw[apu (l:=upto v.kK.length) (x:=En v) ?_ ?_ ?_ ?_ ?_ ?_ ?_]
 .rfl
 .rfl
 .rfl
 .rfl
 .rfl
 .rfl
 .exact afs h
 .intro i;show outcome v (pU [115,105,122,101]) i 0=_;rw[af8,afj]
  rfl
theorem se4:∃t F,t<=100/\QE t Yi F/\∀(v:Vw)(σ:Int->Int)(a:List (Int×Int)),v.jW.length<17->F v ⟨[],σ,a⟩=.inr ⟨[],qy σ 2 (yT 33 (v.nJ (OG v))),a⟩:=by
 refine⟨_,_,?_,LJ (Df (KO (FI 239 4 ⟨#[65,71,65,73,78]⟩ (by decide) (by decide)) (Df (y8 252 ⟨⟨#[112]⟩,252⟩) 252 ⟨⟨#[115,105,122,101]⟩,254⟩) 4 ⟨#[109,97,120]⟩ ⟨⟨#[112]⟩,249⟩ (by decide) (by decide)) 239 ⟨⟨#[115,101,113]⟩,260⟩) 234 2 (by omega),λv σ a h=>?_⟩
 .decide
 simp only;rw[apt (l:=zM v.jW.length) (x:=En v) ?_ ?_ ?_ ?_ ?_ ?_]
 .rw[ark,aqc]
  rfl
 .rfl
 .rfl
 .rfl
 .rfl
 .exact afr h
 .intro i;show outcome v (pU [115,105,122,101]) i 0=_;rw[af8,afj]
  rfl
theorem se5:∃t F,t<=100/\QE t Yj F/\∀(v:Vw)(σ:Int->Int)(a:List (Int×Int)),v.jU.length<17->F v ⟨[],σ,a⟩=.inr ⟨[],if UE v then qy σ 3 1 else σ,a⟩:=by
 refine⟨_,_,?_,abW (KO (FI 268 3 ⟨#[82,79,65,68,83]⟩ (by decide) (by decide)) (Df (y8 281 ⟨⟨#[114]⟩,281⟩) 281 ⟨⟨#[108,111,115,115,121]⟩,283⟩) 2 ⟨#[97,110,121]⟩ ⟨⟨#[114]⟩,278⟩ (by decide) (by decide)) (Bq (LJ (Xo 297 1 (by unfold jK;omega)) 292 3 (by omega)) (Jc)) Jc 265,λv σ a h=>?_⟩
 .decide
 rw[ab1 (λv p=>rfl)];simp only;rw[apr (l:=upto v.jU.length) (x:=λi=>lD (Ea v i)) ?_ ?_ ?_ ?_ ?_ ?_ ?_ ?_]
 .have e:=aa7 (Ea v) (upto v.jU.length) false;have b:lD false=0:=rfl;rw[b]at e;rw[e,gZ];show _=Sum.inr (⟨[],if (upto v.jU.length).any (Ea v)then qy σ 3 1 else σ,a⟩:nP);cases (upto v.jU.length).any (Ea v)<;>rfl
 .rfl
 .rfl
 .rfl
 .rfl
 .rfl
 .rfl
 .exact Xq h
 .intro i;show outcome v (pU [108,111,115,115,121]) i 0=_;rw[ari,aqb,ao9]
theorem se6:∃t F,t<=20/\QE t Tn F/\∀(v:Vw)(σ:Int->Int)(a:List (Int×Int)),v.kK.length<17->F v ⟨[],σ,a⟩=.inr ⟨[],if v.kK.length=0 then qy σ 4 1 else σ,a⟩:=by
 obtain⟨t,d,h⟩:=sq6;refine⟨t,_,d,h,λv σ a c=>?_⟩;have e:v.all 1=pK v.kK.length:=by unfold Vw.all;rw[jg (by decide),jh rfl]
 have b:=alQ v.kK.length c;rw[e];simp only[b]
def Tq(v:Vw)(σ:Int->Int):Int->Int:=
 let τ:=if UE v then qy (qy (qy (qy σ 0 v.jU.length) 1 (TB v)) 2 (yT 33 (v.nJ (OG v)))) 3 1 else qy (qy (qy σ 0 v.jU.length) 1 (TB v)) 2 (yT 33 (v.nJ (OG v)))
 if v.kK.length=0 then qy τ 4 1 else τ
theorem aa2{v:Vw}{f:Int->Int}:∀l:List Int,(l.flatMap λi=>zq v (f i) i).length<=l.length
 |[]=>aj _
 |i::l=>by
  have:=aa2 (v:=v) (f:=f) l;have:=UC v (f i) i;rw[c8,aA,aF];omega
theorem aum:∃c t,Gl Jt c t/\t<=4000/\∀(v:Vw)(σ:Int->Int),v.jU.length<17->v.kK.length<17->v.jW.length<17->pG (nU c) v ⟨[],σ,[]⟩=.inr ⟨[],Tq v σ,Iy v++NT v⟩:=by
 obtain⟨K,u,C,l,e⟩:=se0;obtain⟨L,w,D,m,f⟩:=se1;obtain⟨M,x,E,n,g⟩:=se2;obtain⟨N,y,F,o,h⟩:=se3;obtain⟨O,z,G,p,i⟩:=se4;obtain⟨P,A,H,q,j⟩:=se5;obtain⟨Q,B,I,r,k⟩:=se6;refine⟨_,_,Bq l (Bq m (Bq n (Bq o (Bq p (Bq q (Bq r Jc)))))),by omega,λv σ a b d=>?_⟩;have J:(Iy v).length<=v.jW.length:=dH (aa2 _) (Nat.le_of_eq (Z8 _).2);unfold pG;simp only[nU,e v σ [] a d (by rw[bg];omega),dP,f v σ (Iy v) a b (by omega),g v _ _ a,h v _ _ b,i v _ _ d,j v _ _ a,k v _ _ b]
 rfl
def Eh(rs:List Rd)(b:Int):Int:=match rs[b.toNat]?with
 |some r=>r.qR
 |none=>0
def rG(rs:List Rd)(kp:Rd->Bool):Nat->Int
 |0=>-1
 |k+1=>match rs[k]?with
  |some r=>if kp r&&(decide (rG rs kp k<0)||decide (r.qR<Eh rs (rG rs kp k)))then (k:Int)else rG rs kp k
  |none=>rG rs kp k
def IK(v:Vw)(i:Nat):Option Pk:=if i<v.jW.length then v.jW[i]?else v.kK[i-v.jW.length]?
def uK(p:Pk)(fr:Bool)(r:Rd):Bool:=decide (r.out<r.tZ)&& !(xO p.on r.id&& !fr)
def DV(v:Vw)(i:Nat):List (Int×Int):=match IK v i with
 |some p=>match v.mG (rG v.jU (uK p (decide (v.jW.length<=i))) v.jU.length)with
  |some r=>[(r.id,p.seq)]
  |none=>[]
 |none=>[]
def oM(v:Vw)(k:Nat):List (Int×Int):=(List.range k).flatMap (DV v)
theorem Z9(k:Nat):upto (k+1)=upto k++[(k:Int)]:=by simp[upto,List.range_succ]
theorem avl(k:Nat):zM (k+1)=zM k++[((16+k:Nat):Int)]:=by simp[zM,List.range_succ]
theorem RS(rs:List Rd)(kp:Rd->Bool):∀k,rG rs kp k= -1\/(0<=rG rs kp k/\rG rs kp k<k)
 |0=>jf rfl
 |k+1=>by
  have a:=RS rs kp k;rw[rG];split
  .split
   .exact je (by omega)
   .omega
  .omega
theorem ae0{v:Vw}{d:Int->Bool}{kp:Rd->Bool}(f:∀(i:Nat)(r:Rd),v.jU[i]? =some r->d i=kp r):∀k,k<=v.jU.length->
 (upto k).foldl (OQ v d) (-1,0)=(rG v.jU kp k,if rG v.jU kp k<0 then 0 else Eh v.jU (rG v.jU kp k))
 |0,_=>rfl
 |k+1,h=>by
  have m:=ae0 f k (by omega);have j:=RS v.jU kp k;have c:v.jU[k]? =some v.jU[k]:=bU (by omega);generalize v.jU[k]=r at c;have l:v.mG (k:Int)=some r:=by
   unfold Vw.mG;rw[jg (by omega),bK,c]
  have e:uP 29 (some r)=r.qR:=by simp[uP]
  have a:Eh v.jU (k:Int)=r.qR:=by
   unfold Eh;rw[bK,c]
  rw[Z9,dV,m,bP,eF];unfold OQ;rw[f k r c,l,e,rG,c];generalize rG v.jU kp k=b at *;simp only;cases kp r with
  |false=>
   simp only[aH,cZ,gK]
  |true=>
   rw[jh rfl,Bool.true_and];rcases j with rfl|⟨g,n⟩
   .rw[jh (by simp),jh (by simp),jg (by omega),a]
   .rw[jg (show¬b<0 by omega),show(b== -1)=false by simpa using (by omega:b≠-1),iQ,show decide (b<0)=false by simpa using g,gZ];cases o:decide (r.qR<Eh v.jU b)with
    |false=>
     simp only[aH,cZ];rw[jg (show¬b<0 by omega)]
    |true=>
     simp only[dM];rw[jg (by omega),a]
theorem ae1{v:Vw}{a:Int->Bool}{kp:Rd->Bool}(b:∀(i:Nat)(r:Rd),v.jU[i]? =some r->a i=kp r):nearest v (upto v.jU.length) a=rG v.jU kp v.jU.length:=by
 unfold nearest;rw[ae0 b _ (aj _)]
theorem XR{v:Vw}{i:Nat}{r:Rd}(h:v.jU[i]? =some r):v.mG (i:Int)=some r:=by
 unfold Vw.mG;rw[jg (by omega),bK,h]
theorem agF{v:Vw}{i:Nat}{r:Rd}(h:v.jU[i]? =some r):Ef v i=decide (r.out<r.tZ):=by
 unfold Ef;rw[XR h];simp[uP]
theorem Vp{α β γ:Type}(f:α->β)(g:β->List γ)(l:List α):(l.map f).flatMap g=l.flatMap λx=>g (f x):=by
 induction l with
 |nil=>rfl
 |cons a l ih=>simp[ih]
theorem acK{α β:Type}{f g:α->List β}{l:List α}(h:∀x∈l,f x=g x):l.flatMap f=l.flatMap g:=by
 induction l with
 |nil=>rfl
 |cons a l ih=>rw[c8,c8,h a (aW ..),ih λx b=>h x (aI _ b)]
theorem ajF(v:Vw):Iy v=(List.range v.jW.length).flatMap (DV v):=by
 unfold Iy zM;rw[Vp];refine acK λj a=>?_;have a:j<v.jW.length:=List.mem_range.1 a;have b:v.jW[j]? =some v.jW[j]:=bU a;generalize v.jW[j]=p at b;have c:v.nJ ((16+j:Nat):Int)=some p:=by
  unfold Vw.nJ;rw[jh (by omega),show(((16+j:Nat):Int)-16).toNat=j by omega,b]
 unfold DV IK zq;rw[jh a,b,c,dO (by omega)];rw[ae1 (kp:=uK p false) λi r h=>by rw[agF h,XR h];unfold uK Oo;simp];simp only;cases v.mG (rG v.jU (uK p false) v.jU.length)<;>rfl
theorem alV{v:Vw}(d:v.kK.length<17):NT v=((List.range v.kK.length).map λj=>v.jW.length+j).flatMap (DV v):=by
 have e:NT v=(List.range v.kK.length).flatMap λj:Nat=>zq v (nearest v (upto v.jU.length) (Ef v)) (j:Int):=Vp _ _ _;rw[e,Vp];refine acK λj a=>?_;have a:j<v.kK.length:=List.mem_range.1 a;have b:v.kK[j]? =some v.kK[j]:=bU a;generalize v.kK[j]=p at b;have c:v.nJ (j:Int)=some p:=by
  unfold Vw.nJ;rw[jg (by omega),jg (by omega),bK,b]
 unfold DV IK zq;rw[jg (by omega),show v.jW.length+j-v.jW.length=j by omega,b,c,dR (by omega)];rw[ae1 (kp:=uK p true) λi r h=>by rw[agF h];unfold uK;simp];simp only;cases v.mG (rG v.jU (uK p true) v.jU.length)<;>rfl
theorem avx{v:Vw}(a:v.kK.length<17):Iy v++NT v=oM v (v.jW.length+v.kK.length):=by
 unfold oM;rw[ajF,alV a,List.range_add,gu]
theorem Es{st:Ps->Option jI×Ps}{n:Nat}{l:List jI}{p q:Ps}{e:jI}(h:st p=(some e,q)):qg st (n+1) l p=qg st n (l++[e]) q:=by rw[qg,h]
theorem Yk{st:Ps->Option jI×Ps}{n:Nat}{l:List jI}{p q:Ps}(h:st p=(none,q)):qg st (n+1) l p=(l,q):=by rw[qg,h]
def Gw:Wd×Ex:=(⟨⟨#[114]⟩,42⟩,nX 45 (mJ [60]).2 ⟨#[60]⟩ (oQ 45 (kY [111,117,116]).2 (kY [111,117,116]).1 (nK 45 ⟨⟨#[114]⟩,45⟩) ⟨⟨#[111,117,116]⟩,47⟩) (oQ 53 (kY [99,119,110,100]).2 (kY [99,119,110,100]).1 (nK 53 ⟨⟨#[114]⟩,53⟩) ⟨⟨#[99,119,110,100]⟩,55⟩))
def bp0:Ps:=⟨⟨5,⟨#[40]⟩,41⟩,1,0,0⟩
def UZ:Ps:=⟨⟨5,⟨#[46]⟩,60⟩,1,0,0⟩
theorem akH:qm jQ (lG jQ 19) bp0=(Gw,UZ):=by kernel_rfl
def Gx:Wd×Ex:=(⟨⟨#[115]⟩,68⟩,sG 71 2 ⟨#[33]⟩ (wG 72 (nK 72 ⟨⟨#[112]⟩,72⟩) (nK 77 ⟨⟨#[115]⟩,77⟩)))
def bp1:Ps:=⟨⟨5,⟨#[40]⟩,67⟩,1,0,0⟩
def U0:Ps:=⟨⟨5,⟨#[46]⟩,80⟩,1,0,0⟩
theorem akI:qm jQ (lG jQ 19) bp1=(Gx,U0):=by kernel_rfl
def UK:Wd×Ex:=(⟨⟨#[116]⟩,85⟩,oQ 88 (kY [114,116,116]).2 (kY [114,116,116]).1 (nK 88 ⟨⟨#[116]⟩,88⟩) ⟨⟨#[114,116,116]⟩,90⟩)
def bp2:Ps:=⟨⟨5,⟨#[40]⟩,84⟩,1,0,0⟩
def Qb:Ps:=⟨⟨5,⟨#[59]⟩,94⟩,1,0,0⟩
theorem akJ:qm jQ (lG jQ 19) bp2=(UK,Qb):=by kernel_rfl
def X7:jI:=sQ 96 (nK 101 ⟨⟨#[98,101,115,116]⟩,101⟩) (nK 107 ⟨⟨#[112]⟩,107⟩)
def ahk:Ps:=⟨⟨5,⟨#[112,117,115,104]⟩,96⟩,1,0,0⟩
def LC:Ps:=⟨⟨5,⟨#[125]⟩,111⟩,1,0,0⟩
theorem atH:o8 jQ (lG jQ 20) (qj jQ (mV jQ 19)) (lG jQ 19) (jQ.size+1) ahk=(some X7,LC):=by kernel_rfl
def X8:jI:=sQ 131 (qL 3 ⟨#[109,105,110]⟩ ((⟨136,1,⟨#[82,79,65,68,83]⟩,3,[]⟩:Sx).add (⟨⟨#[114]⟩,149⟩,nX 152 (mJ [60]).2 ⟨#[60]⟩ (oQ 152 (kY [111,117,116]).2 (kY [111,117,116]).1 (nK 152 ⟨⟨#[114]⟩,152⟩) ⟨⟨#[111,117,116]⟩,154⟩) (oQ 160 (kY [99,119,110,100]).2 (kY [99,119,110,100]).1 (nK 160 ⟨⟨#[114]⟩,160⟩) ⟨⟨#[99,119,110,100]⟩,162⟩))) (⟨⟨#[116]⟩,172⟩,oQ 175 (kY [114,116,116]).2 (kY [114,116,116]).1 (nK 175 ⟨⟨#[116]⟩,175⟩) ⟨⟨#[114,116,116]⟩,177⟩)) (nK 183 ⟨⟨#[113]⟩,183⟩)
def Yd:Ps:=⟨⟨5,⟨#[112,117,115,104]⟩,131⟩,1,0,0⟩
def LD:Ps:=⟨⟨5,⟨#[125]⟩,187⟩,1,0,0⟩
theorem atI:o8 jQ (lG jQ 20) (qj jQ (mV jQ 19)) (lG jQ 19) (jQ.size+1) Yd=(some X8,LD):=by kernel_rfl
section
variable {s:ji}
theorem alG{d:Nat}{p q:Ps}{e:Ex}(h:tX s (lG s d) (s.size+1) p=(e,q))(c:p.is [45]=false)(f:p.is [33]=false)(g:q.is [46]=false)(i:∀l:Nat,l<6->pX q.k.text.data.toList≠5-(l:Int)):lG s (d+1) p=(e,q):=by
 have b:Bz s (lG s d) (s.size+1) 0 p=(e,q):=by
  show wX s (lG s d) (s.size+1) (s.size+1) p=_;rw[wX,jg (by rw[c];decide),jg (by rw[f];decide)];unfold Cm;rw[h,tY,jg (by rw[g];decide)]
 have a:∀l:Nat,l<=6->Bz s (lG s d) (s.size+1) l p=(e,q):=by
  intro l;induction l with
  |zero=>intro _;exact b
  |succ l ih=>
   intro j;rw[Bz,ih (by omega),wH,jg (i l (by omega))]
 exact a 6 (aj _)
theorem ag0{ex:Ps->Ex×Ps}{n:Nat}{x:Sx}{p q:Ps}{b:Wd×Ex}(a:p.is [46]=true)(c:(p.next s).is [102,105,108,116,101,114]=true)(d:qm s ex ((p.next s).next s)=(b,q)):qY s ex (n+1) x p=qY s ex n (x.add b) q:=by
 rw[qY,jh a,jh c,d]
theorem atd{ex:Ps->Ex×Ps}{n:Nat}{x:Sx}{p:Ps}(a:p.is [46]=true)(b:(p.next s).is [102,105,108,116,101,114]=false):qY s ex (n+1) x p=((x,true),p.next s):=by
 rw[qY,jh a,jg (by rw[b];decide)]
theorem ajV{ex:Ps->Ex×Ps}{n:Nat}{p q:Ps}{x:Sx}(g:p.k.kind=5)(a:p.is [116,114,117,101]=false)(b:p.is [102,97,108,115,101]=false)(c:p.is [40]=false)(d:p.is [105,115,110,111,110,101]=false)(e:(setOf p.k.text.data.toList).isSome=true)
 (f:nB s ex n p=((x,true),q)):tX s ex n p=FD s ex x q:=by
 unfold tX;rw[jg (by omega),jg (by omega),jg (by omega),jg (by rw[a,b];decide),jg (by rw[c];decide),jg (by rw[d];decide),jh e];unfold Ar;rw[f]
 rfl
theorem aeB{jM:Ps->List jI×Ps}{ex':Ps->Ex×Ps}{n:Nat}{p a q1 b:Ps}{d:Wd}{x:Sx}{l:List jI}(e:(p.next s).name s=(d,a))(f:nB s ex' n (a.expect s [105,110])=((x,false),q1))(c:jM q1=(l,b)):CY s jM ex' n p=(qQ p.k.at' d x l,b):=by
 unfold CY;simp only[e,f,aH,cZ,c]
theorem ahv{ex ex':Ps->Ex×Ps}{jM:Ps->List jI×Ps}{n:Nat}{p:Ps}(b:p.k.kind=5)(a:p.k.text.data.toList=[101,97,99,104]):o8 s ex jM ex' n p=(some (CY s jM ex' n p).1,(CY s jM ex' n p).2):=by
 unfold o8;rw[jg (by omega),jg (by omega)];unfold Ps.is;rw[a]
 rfl
theorem abz{a:Ps->List jI×Ps}{p q:Ps}{l:List jI}(h:a (p.ku s [123])=(l,q)):qj s a p=(l,q.close s [125]):=by
 unfold qj;rw[h]
end
def X6:jI:=sF 18 ⟨⟨#[98,101,115,116]⟩,22⟩ (qL 3 ⟨#[109,105,110]⟩ (((⟨29,1,⟨#[82,79,65,68,83]⟩,3,[]⟩:Sx).add (⟨⟨#[114]⟩,42⟩,nX 45 (mJ [60]).2 ⟨#[60]⟩ (oQ 45 (kY [111,117,116]).2 (kY [111,117,116]).1 (nK 45 ⟨⟨#[114]⟩,45⟩) ⟨⟨#[111,117,116]⟩,47⟩) (oQ 53 (kY [99,119,110,100]).2 (kY [99,119,110,100]).1 (nK 53 ⟨⟨#[114]⟩,53⟩) ⟨⟨#[99,119,110,100]⟩,55⟩))).add (⟨⟨#[115]⟩,68⟩,sG 71 2 ⟨#[33]⟩ (wG 72 (nK 72 ⟨⟨#[112]⟩,72⟩) (nK 77 ⟨⟨#[115]⟩,77⟩)))) (⟨⟨#[116]⟩,85⟩,oQ 88 (kY [114,116,116]).2 (kY [114,116,116]).1 (nK 88 ⟨⟨#[116]⟩,88⟩) ⟨⟨#[114,116,116]⟩,90⟩))
def Tj:Ps:=⟨⟨5,⟨#[118,97,114]⟩,18⟩,1,0,0⟩
def Ye:Ps:=⟨⟨5,⟨#[112,117,115,104]⟩,96⟩,1,0,0⟩
def LM:Ps:=⟨⟨5,⟨#[82,79,65,68,83]⟩,29⟩,1,0,0⟩
def Yo:Ps:=⟨⟨5,⟨#[46]⟩,34⟩,1,0,0⟩
def H9:Ps:=⟨⟨2,⟨#[109,105,110]⟩,81⟩,1,0,0⟩
def Ib:Sx:=⟨29,1,⟨#[82,79,65,68,83]⟩,3,[]⟩
theorem auN:nB jQ (lG jQ 19) (jQ.size+1) LM=(((Ib.add Gw).add Gx,true),H9):=by
 have f:nB jQ (lG jQ 19) (jQ.size+1) LM=qY jQ (lG jQ 19) (jQ.size+1) Ib (LM.next jQ):=rfl;have g:LM.next jQ=Yo:=by kernel_rfl
 have c:(Yo.next jQ).next jQ=bp0:=by kernel_rfl
 have d:(UZ.next jQ).next jQ=bp1:=by kernel_rfl
 have e:U0.next jQ=H9:=by kernel_rfl
 have a:∀n,n=334+3->qY jQ (lG jQ 19) n Ib Yo=(((Ib.add Gw).add Gx,true),H9):=λn h=>by
  subst h;rw[ag0 (q:=UZ) (b:=Gw) (by kernel_rfl) (by kernel_rfl) (by rw[c];exact akH),ag0 (q:=U0) (b:=Gx) (by kernel_rfl) (by kernel_rfl) (by rw[d];exact akI),atd (by kernel_rfl) (by kernel_rfl),e]
 rw[f,g];exact a _ (by kernel_rfl)
theorem auM:lG jQ 20 LM=(qL 3 H9.k.text ((Ib.add Gw).add Gx) UK,Qb):=by
 refine alG ?_ (by kernel_rfl) (by kernel_rfl) (by kernel_rfl) (by decide+kernel);rw[ajV (by kernel_rfl) (by kernel_rfl) (by kernel_rfl) (by kernel_rfl) (by kernel_rfl) (by kernel_rfl) auN];have a:H9.next jQ=bp2:=by kernel_rfl
 have b:FD jQ (lG jQ 19) ((Ib.add Gw).add Gx) H9=Ec jQ (lG jQ 19) ((Ib.add Gw).add Gx) 3 H9:=rfl;rw[b];unfold Ec;rw[a,akJ]
theorem auA{s:ji}{ex ex':Ps->Ex×Ps}{jM:Ps->List jI×Ps}{n:Nat}{p:Ps}(b:p.k.kind=5)(a:p.k.text.data.toList=[118,97,114]):o8 s ex jM ex' n p=(some (Eb s ex p).1,(Eb s ex p).2):=by
 unfold o8;rw[jg (by omega),jg (by omega)];unfold Ps.is;rw[a]
 rfl
theorem apk{s:ji}{ex:Ps->Ex×Ps}{p a q1:Ps}{d:Wd}{e:Ex}(b:(p.next s).name s=(d,a))(c:ex (a.expect s [61])=(e,q1)):Eb s ex p=(sF p.k.at' d e,q1.expect s [59]):=by
 unfold Eb qO;simp only[b,c]
def su3:Ps:=⟨⟨5,⟨#[61]⟩,27⟩,1,0,0⟩
theorem atG:o8 jQ (lG jQ 20) (qj jQ (mV jQ 19)) (lG jQ 19) (jQ.size+1) Tj=(some X6,Ye):=by
 have b:(Tj.next jQ).name jQ=(⟨⟨#[98,101,115,116]⟩,22⟩,su3):=by kernel_rfl
 have c:su3.expect jQ [61]=LM:=by kernel_rfl
 have d:Qb.expect jQ [59]=Ye:=by kernel_rfl
 have a:=apk (s:=jQ) (ex:=lG jQ 20) (q1:=Qb) (e:=qL 3 H9.k.text ((Ib.add Gw).add Gx) UK) b (by rw[c];exact auM);rw[d]at a;rw[auA (by kernel_rfl) (by kernel_rfl),a]
 rfl
def sv0:Ps:=⟨⟨5,⟨#[105,110]⟩,7⟩,0,0,0⟩
def sw0:Ps:=⟨⟨5,⟨#[65,71,65,73,78]⟩,10⟩,0,0,0⟩
def Yq:Ps:=⟨⟨5,⟨#[123]⟩,16⟩,0,0,0⟩
theorem aoX:mV jQ 20 (Yq.ku jQ [123])=([X6,X7],LC):=by
 have b:Yq.ku jQ [123]=Tj:=by kernel_rfl
 have d:Ye=ahk:=rfl;have c:o8 jQ (lG jQ 20) (qj jQ (mV jQ 19)) (lG jQ 19) (jQ.size+1) LC=(none,LC):=by kernel_rfl
 have a:∀n,n=334+3->qg (o8 jQ (lG jQ 20) (qj jQ (mV jQ 19)) (lG jQ 19) (jQ.size+1)) n [] Tj=([X6,X7],LC):=λn e=>by
  subst e;rw[Es atG,d,Es atH,Yk c]
  rfl
 rw[b];exact a _ (by kernel_rfl)
theorem atQ:o8 jQ (lG jQ 21) (qj jQ (mV jQ 20)) (lG jQ 20) (jQ.size+1) Pj=(some Yf,Ti):=by
 have b:(Pj.next jQ).name jQ=(⟨⟨#[112]⟩,5⟩,sv0):=by kernel_rfl
 have c:sv0.expect jQ [105,110]=sw0:=by kernel_rfl
 have d:nB jQ (lG jQ 20) (jQ.size+1) sw0=((⟨10,1,⟨#[65,71,65,73,78]⟩,4,[]⟩,false),Yq):=by kernel_rfl
 have a:LC.close jQ [125]=Ti:=by kernel_rfl
 have e:=aeB (s:=jQ) (jM:=qj jQ (mV jQ 20)) (ex':=lG jQ 20) (n:=jQ.size+1) b (by rw[c];exact d) ((abz aoX).trans (by rw[a]));rw[ahv (by kernel_rfl) (by kernel_rfl),e]
 rfl
def sv1:Ps:=⟨⟨5,⟨#[105,110]⟩,120⟩,0,0,0⟩
def sw1:Ps:=⟨⟨5,⟨#[70,82,69,83,72]⟩,123⟩,0,0,0⟩
def Pq:Ps:=⟨⟨5,⟨#[123]⟩,129⟩,0,0,0⟩
theorem aoY:mV jQ 20 (Pq.ku jQ [123])=([X8],LD):=by
 have b:Pq.ku jQ [123]=Yd:=by kernel_rfl
 have c:o8 jQ (lG jQ 20) (qj jQ (mV jQ 19)) (lG jQ 19) (jQ.size+1) LD=(none,LD):=by kernel_rfl
 have a:∀n,n=335+2->qg (o8 jQ (lG jQ 20) (qj jQ (mV jQ 19)) (lG jQ 19) (jQ.size+1)) n [] Yd=([X8],LD):=λn d=>by
  subst d;rw[Es atI,Yk c]
  rfl
 rw[b];exact a _ (by kernel_rfl)
theorem atS:o8 jQ (lG jQ 21) (qj jQ (mV jQ 20)) (lG jQ 20) (jQ.size+1) Ti=(some Yg,Yb):=by
 have b:(Ti.next jQ).name jQ=(⟨⟨#[113]⟩,118⟩,sv1):=by kernel_rfl
 have c:sv1.expect jQ [105,110]=sw1:=by kernel_rfl
 have d:nB jQ (lG jQ 20) (jQ.size+1) sw1=((⟨123,1,⟨#[70,82,69,83,72]⟩,4,[]⟩,false),Pq):=by kernel_rfl
 have a:LD.close jQ [125]=Yb:=by kernel_rfl
 have e:=aeB (s:=jQ) (jM:=qj jQ (mV jQ 20)) (ex':=lG jQ 20) (n:=jQ.size+1) b (by rw[c];exact d) ((abz aoY).trans (by rw[a]));rw[ahv (by kernel_rfl) (by kernel_rfl),e]
 rfl
theorem atT:o8 jQ (lG jQ 21) (qj jQ (mV jQ 20)) (lG jQ 20) (jQ.size+1) Yb=(some Tm,sp3):=by kernel_rfl
theorem atU:o8 jQ (lG jQ 21) (qj jQ (mV jQ 20)) (lG jQ 20) (jQ.size+1) sp3=(some Yh,sp4):=by kernel_rfl
theorem atV:o8 jQ (lG jQ 21) (qj jQ (mV jQ 20)) (lG jQ 20) (jQ.size+1) sp4=(some Yi,sp5):=by kernel_rfl
theorem atW:o8 jQ (lG jQ 21) (qj jQ (mV jQ 20)) (lG jQ 20) (jQ.size+1) sp5=(some Yj,sp6):=by kernel_rfl
theorem atX:o8 jQ (lG jQ 21) (qj jQ (mV jQ 20)) (lG jQ 20) (jQ.size+1) sp6=(some Tn,Pm):=by kernel_rfl
theorem atY:o8 jQ (lG jQ 21) (qj jQ (mV jQ 20)) (lG jQ 20) (jQ.size+1) Pm=(none,Pm):=by kernel_rfl
theorem atK:yF jQ=Pj:=by kernel_rfl
theorem aup:mV jQ 21 Pj=(Jt,Pm):=by
 have e:∀n,n=329+8->qg (o8 jQ (lG jQ 21) (qj jQ (mV jQ 20)) (lG jQ 20) (jQ.size+1)) n [] Pj=(Jt,Pm):=λn a=>by
  subst a;rw[Es atQ,Es atS,Es atT,Es atU,Es atV,Es atW,Es atX,Yk atY]
  rfl
 exact e _ (by kernel_rfl)
theorem auo:oP jQ=(Jt,0,0):=by
 unfold oP;rw[jg (by decide+kernel),atK,aup]
 kernel_rfl
theorem ahs:nH jQ=(Jt,0,0):=by
 unfold nH;rw[auo,jg (by decide),jg (by decide+kernel),jg (by decide+kernel)]
theorem auW{s:ji}{l:List jI}(n:nH s=(l,0,0)){m:List lV}{t:Int}(h:Gl l m t)(u:t<=4000)(r:(oJ l ⟨[],0,0⟩).en=0)(p:lS l<=1000000)
 (b:Bool)(v:Vw)(a c d e f g i j:Int)(w:v.yO)(k:vJ v=true)(y:∀x∈[a,c,d,e,f,g,i,j],jK x):
 EC [a,c,d,e,f,g,i,j] (Vl (pG (nU m) v ⟨[],Au [a,c,d,e,f,g,i,j],[]⟩)) (sS s b v a c d e f g i j):=by
 obtain⟨z,q,rfl⟩:=h;have o:=U9 s b (by rw[n]);rw[n]at o;unfold sS;rw[o];refine(Va q u r p ?_).2 v a c d e f g i j (aaf w k) k y;cases b
 .exact jf rfl
 .exact je rfl
def xM(ps:List Pk):Nat->Int
 |0=>0
 |k+1=>match ps[k]?with
  |some p=>wrap64 (xM ps k+p.size)
  |none=>xM ps k
def Em(ps:List Pk)(b:Int):Int:=match ps[b.toNat]?with
 |some p=>p.size
 |none=>0
def qJ(ps:List Pk):Nat->Int
 |0=>-1
 |k+1=>match ps[k]?with
  |some p=>if decide (qJ ps k<0)||decide (Em ps (qJ ps k)<p.size)then (k:Int)else qJ ps k
  |none=>qJ ps k
theorem ahQ{v:Vw}(c:v.kK.length<17):∀k,k<=v.kK.length->(upto k).foldl (λa i=>wrap64 (a+En v i)) 0=xM v.kK k
 |0,_=>rfl
 |k+1,h=>by
  have b:v.kK[k]? =some v.kK[k]:=bU (by omega);generalize v.kK[k]=r at b;have e:v.nJ (k:Int)=some r:=by
   unfold Vw.nJ;rw[jg (by omega),jg (by omega),bK,b]
  have d:En v k=r.size:=by unfold En;rw[e];simp[yT]
  rw[Z9,dV,ahQ c k (by omega),bP,eF,d,xM,b]
theorem OH(a:List Pk):∀k,qJ a k= -1\/(0<=qJ a k/\qJ a k<k)
 |0=>jf rfl
 |k+1=>by
  have b:=OH a k;rw[qJ];split
  .split
   .exact je (by omega)
   .omega
  .omega
theorem aeX{v:Vw}:∀k,k<=v.jW.length->
 (zM k).foldl (KP (En v)) (-1,0)=(if qJ v.jW k<0 then -1 else 16+qJ v.jW k,if qJ v.jW k<0 then 0 else Em v.jW (qJ v.jW k))
 |0,_=>rfl
 |k+1,h=>by
  have i:=aeX (v:=v) k (by omega);have e:=OH v.jW k;have c:v.jW[k]? =some v.jW[k]:=bU (by omega);generalize v.jW[k]=r at c;have g:v.nJ ((16+k:Nat):Int)=some r:=by
   unfold Vw.nJ;rw[jh (by omega),show(((16+k:Nat):Int)-16).toNat=k by omega,c]
  have f:En v ((16+k:Nat):Int)=r.size:=by unfold En;rw[g];simp[yT]
  have a:Em v.jW (k:Int)=r.size:=by
   unfold Em;rw[bK,c]
  rw[avl,dV,i,bP,eF];unfold KP;rw[f,qJ,c];generalize qJ v.jW k=b at *;simp only;rcases e with rfl|⟨d,j⟩
  .simp only[show((-1:Int)<0)=True from by simp,dM,decide_true,iD,beq_self_eq_true,iE];rw[jg (by omega),jg (by omega),a]
   congr 1
  .rw[jg (show¬b<0 by omega),jg (show¬b<0 by omega),show((16+b:Int)== -1)=false by simpa using (by omega:(16+b:Int)≠-1),iQ,show decide (b<0)=false by simpa using d,gZ];cases l:decide (Em v.jW b<r.size)with
   |false=>
    simp only[aH,cZ];rw[jg (show¬b<0 by omega),jg (show¬b<0 by omega)]
   |true=>
    simp only[dM];rw[jg (by omega),jg (by omega),a]
    congr 1
def Az(ps:List Pk)(b:Int):Int:=if b<0 then 0 else match ps[b.toNat]?with
 |some p=>p.seq
 |none=>0
theorem apH(v:Vw):yT 33 (v.nJ (OG v))=Az v.jW (qJ v.jW v.jW.length):=by
 unfold OG;rw[aeX _ (aj _)];have a:=OH v.jW v.jW.length;generalize qJ v.jW v.jW.length=b at *;simp only;unfold Az Vw.nJ;by_cases h:b<0
 .rw[jh h,jh h,jg (by decide),jh (by decide)]
  rfl
 .rw[jg h,jg h,jh (by omega),show(16+b-16).toNat=b.toNat by omega];cases v.jW[b.toNat]?with
  |none=>rfl
  |some p=>simp[yT]
theorem aa8{v:Vw}:∀k,k<=v.jU.length->(upto k).any (Ea v)=(v.jU.take k).any (λr=>r.wo)
 |0,_=>by simp[upto]
 |k+1,h=>by
  have a:v.jU[k]? =some v.jU[k]:=bU (by omega);have b:Ea v k=v.jU[k].wo:=by unfold Ea;rw[XR a]
  rw[Z9,List.any_append,aa8 (v:=v) k (by omega),fU,a,List.any_append];simp[b]
def DW(rs:List Rd)(k:Nat):Bool:=(rs.take k).any λr=>r.wo
theorem ajL(v:Vw):UE v=DW v.jU v.jU.length:=aa8 _ (aj _)
theorem aun(b:Bool)(v:Vw)(p:v.yO)(g:vJ v=true)(m:v.jU.length<17)(f:v.kK.length<17)(j:v.jW.length<17):
 (sS jQ b v 0 0 0 0 0 0 0 0).status=0/\(sS jQ b v 0 0 0 0 0 0 0 0).jP=oM v (v.jW.length+v.kK.length)/\
 (sS jQ b v 0 0 0 0 0 0 0 0).jF.getD 0 0=v.jU.length/\(sS jQ b v 0 0 0 0 0 0 0 0).jF.getD 1 0=xM v.kK v.kK.length/\
 (sS jQ b v 0 0 0 0 0 0 0 0).jF.getD 2 0=Az v.jW (qJ v.jW v.jW.length)/\(sS jQ b v 0 0 0 0 0 0 0 0).jF.getD 3 0=lD (DW v.jU v.jU.length)/\
 (sS jQ b v 0 0 0 0 0 0 0 0).jF.getD 4 0=lD (decide (v.kK.length=0))/\(sS jQ b v 0 0 0 0 0 0 0 0).jF.getD 5 0=0/\
 (sS jQ b v 0 0 0 0 0 0 0 0).jF.getD 6 0=0/\(sS jQ b v 0 0 0 0 0 0 0 0).jF.getD 7 0=0:=by
 obtain⟨B,t,h,o,k⟩:=aum;have A:jK 0:=by unfold jK;omega
 have q:=auW ahs h o aul auk b v 0 0 0 0 0 0 0 0 p g (by simp[A]);rw[k v _ m f j]at q;obtain⟨x,y,z⟩:=q;refine⟨x,z.trans (avx f),?_⟩;have n:TB v=xM v.kK v.kK.length:=ahQ f _ (aj _);have l:=apH v;have r:=ajL v;have a:∀i:Nat,i<8->(sS jQ b v 0 0 0 0 0 0 0 0).jF.getD i 0=Tq v (Au [0,0,0,0,0,0,0,0]) i:=y;have u:∀i:Nat,i<8->Au [0,0,0,0,0,0,0,0] (i:Int)=0:=by
  intro i c
  match i,c with
  |0,_=>rfl
  |1,_=>rfl
  |2,_=>rfl
  |3,_=>rfl
  |4,_=>rfl
  |5,_=>rfl
  |6,_=>rfl
  |7,_=>rfl
 generalize Au [0,0,0,0,0,0,0,0]=σ at *;have e:∀i:Nat,i<8->Tq v σ i=if i=0 then (v.jU.length:Int)else if i=1 then xM v.kK v.kK.length else if i=2 then Az v.jW (qJ v.jW v.jW.length)else if i=3 then lD (DW v.jU v.jU.length)else if i=4 then lD (decide (v.kK.length=0))else 0:=by
  intro i c;unfold Tq;rw[n,l,r];have w:=u i c;by_cases d:v.kK.length=0;all_goals
   cases DW v.jU v.jU.length;all_goals
    match i,c with
    |0,_=>simp[qy,d]
    |1,_=>simp[qy,d]
    |2,_=>simp[qy,d]
    |3,_=>simp_all [qy,lD]
    |4,_=>simp_all [qy,lD]
    |5,_=>simp_all [qy]
    |6,_=>simp_all [qy]
    |7,_=>simp_all [qy]
 refine⟨?_,?_,?_,?_,?_,?_,?_,?_⟩
 .rw[a 0 (by omega),e 0 (by omega)];rfl
 .rw[a 1 (by omega),e 1 (by omega)];rfl
 .rw[a 2 (by omega),e 2 (by omega)];rfl
 .rw[a 3 (by omega),e 3 (by omega)];rfl
 .rw[a 4 (by omega),e 4 (by omega)];rfl
 .rw[a 5 (by omega),e 5 (by omega)];rfl
 .rw[a 6 (by omega),e 6 (by omega)];rfl
 .rw[a 7 (by omega),e 7 (by omega)];rfl
end
end Go.Proofs.YthllhabjfchgiaaGreatDoor
