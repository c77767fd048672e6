import Derived.Test.YthllhabjfchgiaaGreatDoorHk43
set_option maxRecDepth 100000
set_option maxHeartbeats 8000000
set_option linter.unusedSimpArgs false
namespace Go.Proofs.YthllhabjfchgiaaGreatDoor
section
open Go.RowKit Hx
def ae8:List lQ:=[Ql ⟨#[97]⟩ 0,Ql ⟨#[98]⟩ 7,wB 0 λen=>wrap64 (nA en+nB en),wB 1 λen=>wrap64 (nA en-nB en),wB 2 λen=>wrap64 (nA en * nB en),wB 3 λen=>quot (nA en) (nB en),wB 4 λen=>rest (nA en) (nB en),wB 5 λen=>wrap64 (-nA en),wB 6 λ_=>0,yS (λen=>decide (nA en<nB en)) 1,yS (λen=>decide (nA en<=nB en)) 2,yS (λen=>nA en==nB en) 4,yS (λen=>decide (nB en<nA en)) 8,yS (λen=>decide (nB en<=nA en)) 16,yS (λen=>nA en !=nB en) 32]
def Ci(σ:Int->Int):Int->Int:=bump (σ 0 !=σ 7) 32 (bump (decide (σ 7<=σ 0)) 16 (bump (decide (σ 7<σ 0)) 8 (bump (σ 0==σ 7) 4 (bump (decide (σ 0<=σ 7)) 2 (bump (decide (σ 0<σ 7)) 1 (sS (sS (sS (sS (sS (sS (sS (σ) 0 (wrap64 ((σ 0)+(σ 7)))) 1 (wrap64 ((σ 0)-(σ 7)))) 2 (wrap64 ((σ 0) * (σ 7)))) 3 (quot ((σ 0)) ((σ 7)))) 4 (rest ((σ 0)) ((σ 7)))) 5 (wrap64 (-σ 0))) 6 0))))))
theorem aqG:∃t,t<=4000/\EZ Ii ae8 t:=by
 obtain⟨t0,b0,h0⟩:=rq0;obtain⟨t1,b1,h1⟩:=rq1;obtain⟨t2,b2,h2⟩:=rq2;obtain⟨t3,b3,h3⟩:=rq3;obtain⟨t4,b4,h4⟩:=rq4;obtain⟨t5,b5,h5⟩:=rq5;obtain⟨t6,b6,h6⟩:=rq6;obtain⟨t7,b7,h7⟩:=rq7;obtain⟨t8,b8,h8⟩:=rq8;obtain⟨t9,b9,h9⟩:=rq9;obtain⟨t10,b10,h10⟩:=arn;obtain⟨t11,b11,h11⟩:=aro;obtain⟨t12,b12,h12⟩:=arp;obtain⟨t13,b13,h13⟩:=arq;obtain⟨t14,b14,h14⟩:=ars;exact⟨_,by omega,qY h0 (qY h1 (qY h2 (qY h3 (qY h4 (qY h5 (qY h6 (qY h7 (qY h8 (qY h9 (qY h10 (qY h11 (qY h12 (qY h13 (qY h14 (xZ)))))))))))))))⟩
theorem aqC(v:Vw)(σ:Int->Int):qh (oL ae8) v ⟨[],σ,[]⟩=.inr ⟨[],Ci σ,[]⟩:=rfl
theorem aqF:(oh Ii ⟨[],0,0⟩).en=0:=by kernel_rfl
theorem aqE:lM Ii<=1000000:=by decide+kernel
theorem aqD(σ:Int->Int):Ci σ 0=wrap64 (σ 0+σ 7)/\Ci σ 1=wrap64 (σ 0-σ 7)/\Ci σ 2=wrap64 (σ 0 * σ 7)/\Ci σ 3=quot (σ 0) (σ 7)/\Ci σ 4=rest (σ 0) (σ 7)/\Ci σ 5=wrap64 (-σ 0)/\
 Ci σ 6=kW (decide (σ 0<σ 7))+2 * kW (decide (σ 0<=σ 7))+4 * kW (σ 0==σ 7)+8 * kW (decide (σ 7<σ 0))+16 * kW (decide (σ 7<=σ 0))+32 * kW (σ 0 !=σ 7)/\Ci σ 7=σ 7:=by
 refine⟨?_,?_,?_,?_,?_,?_,?_,?_⟩
 case refine_7=>
  unfold Ci;rw[Ja,Ja,Ja,Ja,Ja,Ja];simp only[show∀τ:Int->Int,sS τ 6 0 6=0 fromλ_=>rfl];cases decide (σ 0<σ 7)<;>cases decide (σ 0<=σ 7)<;>cases (σ 0==σ 7)<;>cases decide (σ 7<σ 0)<;>cases decide (σ 7<=σ 0)<;>cases (σ 0 !=σ 7)<;>decide+kernel
 all_goals
  unfold Ci;rw[I9 (by decide),I9 (by decide),I9 (by decide),I9 (by decide),I9 (by decide),I9 (by decide)]
  rfl
theorem vF{st:Ps->Option jG×Ps}{n:Nat}{l:List jG}{p q:Ps}{e:jG}(h:st p=(some e,q)):pX st (n+1) l p=pX st n (l++[e]) q:=by rw[pX,h]
theorem WR{st:Ps->Option jG×Ps}{n:Nat}{l:List jG}{p q:Ps}(h:st p=(none,q)):pX st (n+1) l p=(l,q):=by rw[pX,h]
theorem aqI:lZ kH 21 QK=(Ii,NH):=by
 have e:∀n,n=247+16->pX (nD kH (kT kH 21) (oJ kH (lZ kH 20)) (kT kH 20) (kH.size+1)) n [] QK=(Ii,NH):=λn hn=>by
  subst hn;rw[vF arD,vF arE,vF arK,vF arL,vF arM,vF arN,vF arO,vF arP,vF arQ,vF arR,vF arF,vF arG,vF arH,vF arI,vF arJ,WR arS]
  rfl
 exact e _ (by kernel_rfl)
theorem aqH:oC kH=(Ii,0,0):=by
 unfold oC;rw[jg (by decide+kernel),arj,aqI]
 kernel_rfl
theorem ae9:mO kH=(Ii,0,0):=by
 unfold mO;rw[aqH,jg (by decide),jg (by decide+kernel),jg (by decide+kernel)]
theorem agF{s:ji}{l:List jG}(hc:mO s=(l,0,0)){Fs:List lQ}{t:Int}(h:EZ l Fs t)(ht:t<=4000)(hk:(oh l ⟨[],0,0⟩).en=0)(Jp:lM l<=1000000)
 (b:Bool)(v:Vw)(x0 x1 x2 x3 x4 x5 x6 x7:Int)(hv:v.Dt)(MK:zZ v=true)(hx:∀x∈[x0,x1,x2,x3,x4,x5,x6,x7],jJ x):
 DT [x0,x1,x2,x3,x4,x5,x6,x7] (TK (qh (oL Fs) v ⟨[],A8 [x0,x1,x2,x3,x4,x5,x6,x7],[]⟩)) (o8 s b v x0 x1 x2 x3 x4 x5 x6 x7):=by
 obtain⟨zs,h1,rfl⟩:=h;have he:=Tm s b (by rw[hc]);rw[hc]at he;unfold o8;rw[he];refine(Tn h1 ht hk Jp ?_).2 v x0 x1 x2 x3 x4 x5 x6 x7 (YM hv MK) MK hx;cases b
 .exact jf rfl
 .exact je rfl
def qM:Vw:=⟨[],[],[]⟩
theorem YO:qM.Dt:=⟨(λ_ h=>by cases h),(λ_ h=>by cases h),(λ_ h=>by cases h)⟩
theorem ag3:zZ qM=true:=by decide+kernel
theorem ae7(b:Bool)(x y:Int)(hx:jJ x)(hy:jJ y):(o8 kH b qM x 0 0 0 0 0 0 y).status=0/\(o8 kH b qM x 0 0 0 0 0 0 y).jO=[]/\
 (o8 kH b qM x 0 0 0 0 0 0 y).jF.getD 0 0=wrap64 (x+y)/\(o8 kH b qM x 0 0 0 0 0 0 y).jF.getD 1 0=wrap64 (x-y)/\(o8 kH b qM x 0 0 0 0 0 0 y).jF.getD 2 0=wrap64 (x * y)/\
 (o8 kH b qM x 0 0 0 0 0 0 y).jF.getD 3 0=quot x y/\(o8 kH b qM x 0 0 0 0 0 0 y).jF.getD 4 0=rest x y/\(o8 kH b qM x 0 0 0 0 0 0 y).jF.getD 5 0=wrap64 (-x)/\
 (o8 kH b qM x 0 0 0 0 0 0 y).jF.getD 6 0=kW (decide (x<y))+2 * kW (decide (x<=y))+4 * kW (x==y)+8 * kW (decide (y<x))+16 * kW (decide (y<=x))+32 * kW (x !=y)/\
 (o8 kH b qM x 0 0 0 0 0 0 y).jF.getD 7 0=y:=by
 obtain⟨t,ht,h⟩:=aqG;have h0:jJ 0:=by unfold jJ;omega
 have q:=agF ae9 h ht aqF aqE b qM x 0 0 0 0 0 0 y YO ag3 (by simp[hx,hy,h0]);rw[aqC]at q;obtain⟨q1,q2,q3⟩:=q;obtain⟨r0,r1,r2,r3,r4,r5,r6,r7⟩:=aqD (A8 [x,0,0,0,0,0,0,y]);exact⟨q1,q3,(q2 0 (by omega)).trans r0,(q2 1 (by omega)).trans r1,(q2 2 (by omega)).trans r2,(q2 3 (by omega)).trans r3,(q2 4 (by omega)).trans r4,(q2 5 (by omega)).trans r5,(q2 6 (by omega)).trans r6,(q2 7 (by omega)).trans r7⟩
section
variable {s:ji}{ex:Ps->Ex×Ps}{n:Nat}
theorem oK{t t':Tk}(h:kF s t=t')(d:Int):Ps.next s ⟨t,d,0,0⟩=⟨t',d,0,0⟩:=by
 unfold Ps.next;rw[h]
theorem Aq{t t':Tk}(h:kF s t=t'){u:List UInt8}(hu:t.text.data.toList=u)(d:Int):Ps.expect s u ⟨t,d,0,0⟩=⟨t',d,0,0⟩:=by
 unfold Ps.expect;rw[jh (by unfold Ps.is;rw[hu];simp),oK h]
theorem Qs{t t':Tk}(h:kF s t=t'){u:List UInt8}(hu:t.text.data.toList=u){d d':Int}(hd:d≠20)(hd':wrap64 (d+1)=d'):Ps.jZ s u ⟨t,d,0,0⟩=⟨t',d',0,0⟩:=by
 unfold Ps.jZ;rw[jg (show¬d=20 from hd),Aq h hu];unfold Ps.FB;rw[<-hd']
theorem Oz{t t':Tk}(h:kF s t=t'){u:List UInt8}(hu:t.text.data.toList=u){d d':Int}(hd':wrap64 (d-1)=d'):Ps.close s u ⟨t,d,0,0⟩=⟨t',d',0,0⟩:=by
 unfold Ps.close;rw[Aq h hu];unfold Ps.Pq;rw[<-hd']
theorem ZV{p q:Ps}{e:Ex}(hb:sZ s ex n p=(e,q))(h3:q.is [46]=false):Ak s ex n p=(e,q):=by
 unfold Ak;rw[hb];cases n with
 |zero=>rfl
 |succ m=>show tk s ex p.k.at' (m+1) e q=(e,q);rw[tk,jg (by rw[h3];decide)]
theorem adD{p q:Ps}{e:Ex}(hb:sZ s ex n p=(e,q))(h1:p.is [45]=false)(h2:p.is [33]=false)(h3:q.is [46]=false)(m:Nat):qG s ex n m p=(e,q):=by
 cases m with
 |zero=>exact ZV hb h3
 |succ m=>rw[qG,jg (by rw[h1];decide),jg (by rw[h2];decide)];exact ZV hb h3
theorem xG{p q:Ps}{v:Int}(hv:(Lib.atoi p.k.text.data.toList).getD 0=v)(hk:p.k.kind=3)(hn:p.next s=q)(h1:p.is [45]=false)(h2:p.is [33]=false)(h3:q.is [46]=false)(m:Nat):qG s ex n m p=(kN p.k.at' v,q):=by
 refine adD ?_ h1 h2 h3 m;unfold sZ;rw[jh hk,hn,hv]
theorem ae4{p q r z:Ps}{e:Ex}(hk:p.k.kind=5)(hi:p.is [40]=true)(ho:p.jZ s [40]=q)(he:ex q=(e,r))(hc:r.close s [41]=z)(h3:z.is [46]=false)(m:Nat):qG s ex n m p=(e.widen p.k.at',z):=by
 have ht:p.k.text.data.toList=[40]:=by unfold Ps.is at hi;simpa using hi
 have hx:∀u:List UInt8,u≠[40]->p.is u=false:=λu hu=>by
  unfold Ps.is;rw[ht];simpa using λh=>hu h.symm
 refine adD ?_ (hx _ (by decide)) (hx _ (by decide)) h3 m;unfold sZ;rw[jg (by omega),jg (by omega),jg (by omega),jg (by rw[hx _ (by decide),hx _ (by decide)];decide),jh hi];unfold Dq;rw[ho,he,hc]
theorem ae5{p q r:Ps}{e:Ex}(hi:p.is [45]=true)(hn:p.next s=q)(h:∀m,qG s ex n m q=(e,r))(m:Nat):qG s ex n (m+1) p=(oV p.k.at' 1 p.k.text e,r):=by
 rw[qG,jh hi,hn,h m]
theorem aqt{p q r:Ps}{e:Ex}(hi':p.is [45]=false)(hi:p.is [33]=true)(hn:p.next s=q)(h:∀m,qG s ex n m q=(e,r))(m:Nat):qG s ex n (m+1) p=(oV p.k.at' 2 p.k.text e,r):=by
 rw[qG,jg (by rw[hi'];decide),jh hi,hn,h m]
theorem vZ{p q:Ps}{e:Ex}(h:qG s ex n n p=(e,q)):qR s ex n 0 p=(e,q):=h
theorem U6{lower:Ps->Ex×Ps}{of a L:Int}{e:Ex}{p:Ps}(m:Nat)(hl:nO p.k.text.data.toList=L)(hne:L≠of):rY s lower of a m e p=(e,p):=by
 cases m with
 |zero=>rfl
 |succ m=>rw[rY,jg (by rw[hl];exact hne)]
theorem U7{lower:Ps->Ex×Ps}{of a:Int}{e f:Ex}{p q r:Ps}(m:Nat)(hl:nO p.k.text.data.toList=of)(hn:p.next s=q)(h:lower q=(f,r))(ho:¬(of=2\/of=3)):rY s lower of a (m+1) e p=rY s lower of a m (kK a (kE p.k.text.data.toList).2 p.k.text e f) r:=by
 rw[rY,jh hl];simp only[hn,h];rw[jg ho]
theorem ana{lower:Ps->Ex×Ps}{of a:Int}{e f:Ex}{p q r:Ps}(m:Nat)(hl:nO p.k.text.data.toList=of)(hn:p.next s=q)(h:lower q=(f,r))(ho:of=2\/of=3):rY s lower of a (m+1) e p=(kK a (kE p.k.text.data.toList).2 p.k.text e f,r):=by
 rw[rY,jh hl];simp only[hn,h];rw[jh ho]
theorem aqs{l:Nat}{L of:Int}{p q:Ps}{e:Ex}(h:qR s ex n l p=(e,q))(hl:nO q.k.text.data.toList=L)(hf:5-(l:Int)=of)(hne:L≠of):qR s ex n (l+1) p=(e,q):=by
 rw[qR,h,hf];exact U6 _ hl hne
theorem uj{l:Nat}{L:Int}{p q:Ps}{e:Ex}(h:qR s ex n l p=(e,q))(hl:nO q.k.text.data.toList=L):∀j:Nat,L<6-(l+j:Nat)\/5-(l:Int)<L->qR s ex n (l+j) p=(e,q)
 |0,_=>h
 |j+1,hj=>aqs (l:=l+j) (L:=L) (of:=5-((l+j:Nat):Int)) (uj h hl j (by omega)) hl rfl (by omega)
theorem JY{l:Nat}{L of:Int}{p q q' r:Ps}{e f:Ex}(h:qR s ex (n+1) l p=(e,q))(hf:5-(l:Int)=of)(hl:nO q.k.text.data.toList=of)(ho:¬(of=2\/of=3))(hn:q.next s=q')(h2:qR s ex (n+1) l q'=(f,r))(hr:nO r.k.text.data.toList=L)(hne:L≠of):
 qR s ex (n+1) (l+1) p=(kK p.k.at' (kE q.k.text.data.toList).2 q.k.text e f,r):=by
 rw[qR,h,hf,U7 n hl hn h2 ho];exact U6 _ hr hne
theorem aqu{m:Nat}(hm:2<=m){l:Nat}{L of:Int}{p q q' r r' z:Ps}{e f g:Ex}(h:qR s ex m l p=(e,q))(hf:5-(l:Int)=of)(hl:nO q.k.text.data.toList=of)(ho:¬(of=2\/of=3))(hn:q.next s=q')(h2:qR s ex m l q'=(f,r))(hl2:nO r.k.text.data.toList=of)(hn2:r.next s=r')(h3:qR s ex m l r'=(g,z))(hr:nO z.k.text.data.toList=L)(hne:L≠of):
 qR s ex m (l+1) p=(kK p.k.at' (kE r.k.text.data.toList).2 r.k.text (kK p.k.at' (kE q.k.text.data.toList).2 q.k.text e f) g,z):=by
 obtain⟨n,rfl⟩:∃k,m=k+2:=⟨m-2,by omega⟩;rw[qR,h,hf,U7 (n+1) hl hn h2 ho,U7 n hl2 hn2 h3 ho];exact U6 _ hr hne
theorem VX{l:Nat}{of:Int}{p q q' r:Ps}{e f:Ex}(h:qR s ex (n+1) l p=(e,q))(hf:5-(l:Int)=of)(hl:nO q.k.text.data.toList=of)(ho:of=2\/of=3)(hn:q.next s=q')(h2:qR s ex (n+1) l q'=(f,r)):
 qR s ex (n+1) (l+1) p=(kK p.k.at' (kE q.k.text.data.toList).2 q.k.text e f,r):=by
 rw[qR,h,hf];exact ana n hl hn h2 ho
theorem LY{p q r z:Ps}{e:Ex}(h1:p.expect s [61]=q)(h2:ex q=(e,r))(h3:r.expect s [59]=z):qF s ex p=(e,z):=by
 unfold qF;rw[h1,h2,h3]
theorem NQ{ex':Ps->Ex×Ps}{jM:Ps->List jG×Ps}{p q z:Ps}{e:Ex}(hk:p.k.kind=4)(hn:p.next s=q)(h:qF s ex q=(e,z)):nD s ex jM ex' n p=(some (mY p.k.at' ((p.k.text.data.toList.getD 1 0).toNat-48) e),z):=by
 unfold nD;rw[jg (by omega),jh hk];unfold Ir;rw[hn,h]
theorem as4{ex':Ps->Ex×Ps}{jM:Ps->List jG×Ps}{p q r u u' z:Ps}{e:Ex}{y l:List jG}(hk:p.k.kind=5)(ht:p.k.text.data.toList=[105,102])(hn:p.next s=q)(he:ex q=(e,r))(hy:jM r=(y,u))(hu:u.is [101,108,115,101]=true)(hu':u.next s=u')(hl:jM u'=(l,z)):nD s ex jM ex' n p=(some (nY p.k.at' e y l),z):=by
 have h1:nD s ex jM ex' n p=(some (yT s ex jM p).1,(yT s ex jM p).2):=by
  unfold nD;rw[jg (by omega),jg (by omega)];unfold Ps.is;rw[ht]
  rfl
 rw[h1];unfold yT;simp only[hn,he,hy,hu,dM,hu',hl]
theorem WS{ex':Ps->Ex×Ps}{jM:Ps->List jG×Ps}{p:Ps}{K:Int}(hK:p.k.kind=K)(hk:K≠2/\K≠4)(ht:p.k.text.data.toList=[125]\/p.k.text.data.toList=[]):nD s ex jM ex' n p=(none,p):=by
 unfold nD;rw[hK,jg hk.1,jg hk.2];unfold Ps.is;rcases ht with ht|ht<;>rw[ht]<;>rfl
theorem aac{tu:Ps->List jG×Ps}{p q r z:Ps}{l:List jG}(ho:p.jZ s [123]=q)(h:tu q=(l,r))(hc:r.close s [125]=z):oJ s tu p=(l,z):=by
 unfold oJ;rw[ho,h,hc]
end
theorem J5(s:ji):s.data.toList.length=s.size:=eX
theorem TF(t:ji)(a b:Nat):(t.extract a b).data.toList=(t.data.toList.drop a).take (b-a):=by
 rw[ByteArray.data_extract,Array.toList_extract,List.extract_eq_take_drop]
def Ai(l:List UInt8):Int×Int:=
 if isLet (l.getD 0 0).toNat then (if 12<1+span BZ (l.drop 1)then (0,0)else if isWord (l.take (1+span BZ (l.drop 1)))then (5,((1+span BZ (l.drop 1):Nat):Int))else (2,((1+span BZ (l.drop 1):Nat):Int)))
 else if mZ (l.getD 0 0).toNat then numberOf (1+span mZ (l.drop 1))
 else if decide ((65:Int)<=(l.getD 0 0).toNat)&&decide (((l.getD 0 0).toNat:Int)<=90)then
  (if decide (1<l.length)&&AB (l.getD 0 0).toNat (l.getD 1 0).toNat then (4,2)else if l.length<5 then (0,0)else if isSet (l.take 5)then (5,5)else (0,0))
 else if decide (1<l.length)&&AO (l.take 2)then (5,2)else if Hg (l.getD 0 0)then (5,1)else (0,0)
theorem aja(t:ji):tV t=Ai t.data.toList:=by
 have ht:∀n,(t.extract 0 n).toList=t.data.toList.take n:=λn=>by
  have:=TF t 0 n;rw[aQ,Nat.sub_zero]at this;rw[<-this];exact aZ _
 unfold tV Lj Ai BK DL BJ zH Aj;rw[ht,ht,ht,<-J5]
def IW(s:ji)(k:Nat)(l:List UInt8):Prop:=s.data.toList.drop k=l/\k<=s.size
theorem asc{s:ji}{k:Nat}(bl tok rest:List UInt8){kind:Int}(h:IW s k (bl++(tok++rest)))(hb:span xX (bl++(tok++rest))=bl.length)(hk:0<tok.length)(hg:Ai (tok++rest)=(kind,(tok.length:Int))):
 scan s k=⟨kind,⟨tok.toArray⟩,((k+bl.length:Nat):Int)⟩/\IW s (k+bl.length+tok.length) rest:=by
 obtain⟨h1,h2⟩:=h;have hl:=J5 s;have hlen:=congrArg List.length h1;rw[fA,aA,aA]at hlen;have hd:s.data.toList.drop (k+bl.length)=tok++rest:=by
  rw[<-List.drop_drop,h1,List.drop_left]
 have e1:(s.extract (k+bl.length) s.size).data.toList=tok++rest:=by
  rw[TF,hd,eU];rw[aA];omega
 refine⟨?_,?_,by omega⟩
 .unfold scan EG;rw[h1,hb,jg (by omega),aja,e1,hg];have e2:s.extract (k+bl.length) (k+bl.length+((tok.length:Int)).toNat)=⟨tok.toArray⟩:=by
   apply Go.WideShapes.bytes_inj;rw[TF,hd];show _=tok;rw[bK,show k+bl.length+tok.length-(k+bl.length)=tok.length by omega,iK]
  rw[e2]
 .rw[<-List.drop_drop,hd,List.drop_left]
theorem af4(p:Int->Bool):∀(ds rest:List UInt8),(∀c∈ds,p c.toNat=true)->(∀c,rest.head?=some c->p c.toNat=false)->span p (ds++rest)=ds.length
 |[],[],_,_=>rfl
 |[],c::rest,_,h=>by
  unfold span;rw[dP,List.takeWhile_cons_of_neg (by rw[h c rfl];simp)]
 |d::ds,rest,h,h'=>by
  have:=af4 p ds rest (λc hc=>h c (aI _ hc)) h';unfold span at this⊢;rw[bZ,List.takeWhile_cons_of_pos (by exact h d (aW ..)),aF,this,aF]
theorem I5{ds rest:List UInt8}(h:∀c∈ds,mZ c.toNat=true)(h0:0<ds.length)(h1:ds.length<=18)(hr:∀c,rest.head?=some c->mZ c.toNat=false):Ai (ds++rest)=(3,(ds.length:Int)):=by
 match ds,h,h0,h1 with
 |d::ds,h,_,h1=>
  have hd:=h d (aW ..);have hlt:isLet (((d::ds)++rest).getD 0 0).toNat=false:=by
   show isLet d.toNat=false;unfold mZ at hd;unfold isLet;simp only[dD,decide_eq_true_eq]at hd;rw[dO (by omega),gK]
  have hs:span mZ (((d::ds)++rest).drop 1)=ds.length:=af4 _ _ _ (λc hc=>h c (aI _ hc)) hr;unfold Ai;rw[hlt,hs,jg (by decide),jh (show mZ (((d::ds)++rest).getD 0 0).toNat=true from hd)];rw[aF]at h1;unfold numberOf;rw[jg (by omega),aF,Nat.add_comm]
theorem l9{s:ji}{k:Nat}(bl tok rest:List UInt8){kind:Int}(h:IW s k (bl++(tok++rest)))(hb:span xX (bl++(tok++rest))=bl.length)(hk:0<tok.length)(hg:Ai (tok++rest)=(kind,(tok.length:Int))):
 ∃j:Nat,scan s k=⟨kind,⟨tok.toArray⟩,(j:Int)⟩/\kF s ⟨kind,⟨tok.toArray⟩,(j:Int)⟩=scan s (j+tok.length)/\IW s (j+tok.length) rest:=by
 obtain⟨e,h2⟩:=asc bl tok rest h hb hk hg;exact⟨_,e,rfl,h2⟩
theorem ako{s:ji}{k:Nat}(h:IW s k []):scan s k=⟨1,⟨#[]⟩,(k:Int)⟩:=by
 obtain⟨h1,h2⟩:=h;have hl:=J5 s;have hlen:=congrArg List.length h1;rw[fA,bg]at hlen;unfold scan EG;rw[h1,show span xX []=0 from rfl,jh (by omega),Nat.add_zero]
theorem sign_one{c:UInt8}{X:List UInt8}(h1:isLet c.toNat=false)(h2:mZ c.toNat=false)(h3:(decide ((65:Int)<=c.toNat)&&decide ((c.toNat:Int)<=90))=false)(h4:AO ((c::X).take 2)=false)(h5:Hg c=true):Ai (c::X)=(5,1):=by
 have e:(c::X).getD 0 0=c:=rfl;unfold Ai;rw[e,h1,h2,h3,h4,iL,h5]
 rfl
theorem QZ{c d:UInt8}{X:List UInt8}(h1:isLet c.toNat=false)(h2:mZ c.toNat=false)(h3:(decide ((65:Int)<=c.toNat)&&decide ((c.toNat:Int)<=90))=false)(h4:AO [c,d]=true):Ai (c::d::X)=(5,2):=by
 have e:(c::d::X).getD 0 0=c:=rfl;have e2:(c::d::X).take 2=[c,d]:=rfl;have e3:decide (1<(c::d::X).length)=true:=by rw[aF,aF];simp
 unfold Ai;rw[e,e2,e3,h1,h2,h3,h4]
 rfl
theorem ND{d:UInt8}{X:List UInt8}(h:AB 82 d.toNat=true):Ai (82::d::X)=(4,2):=by
 have e3:decide (1<(82::d::X).length)=true:=by rw[aF,aF];simp
 have h1:AB ((82::d::X).getD 0 0).toNat ((82::d::X).getD 1 0).toNat=true:=h;unfold Ai;rw[e3,h1]
 rfl
theorem apA{s:ji}{N M:List UInt8}(hN:(∀c∈N,mZ c.toNat=true)/\0<N.length/\N.length<=18)(hM:(∀c∈M,mZ c.toNat=true)/\0<M.length/\M.length<=18){T1 T2 T3 T4 T5 T6:List UInt8}(h0:s.data.toList=([82,48,32,61,32]++(N++T1)))(t1:T1=([32,42,32]++(M++T2)))(t2:T2=([59,32,82,49,32,61,32,45]++(N++T3)))(t3:T3=([32,47,32,40]++(M++T4)))(t4:T4=([32,45,32,53,41,59,32,82,50,32,61,32]++(N++T5)))(t5:T5=([32,37,32,55,32,43,32,49,32,45,32,45,50,59,32,105,102,32,33,40,49,32,60,32,50,32,38,38,32]++(N++T6)))(t6:T6=[32,62,61,32,48,41,32,124,124,32,49,32,61,61,32,50,32,123,32,82,51,32,61,32,49,59,32,125,32,101,108,115,101,32,123,32,82,52,32,61,32,51,59,32,125]):
 ∃a:Nat->Int,scan s 0=⟨4,⟨#[82,48]⟩,a 0⟩/\kF s ⟨4,⟨#[82,48]⟩,a 0⟩=⟨5,⟨#[61]⟩,a 1⟩/\kF s ⟨5,⟨#[61]⟩,a 1⟩=⟨3,⟨N.toArray⟩,a 2⟩/\kF s ⟨3,⟨N.toArray⟩,a 2⟩=⟨5,⟨#[42]⟩,a 3⟩/\kF s ⟨5,⟨#[42]⟩,a 3⟩=⟨3,⟨M.toArray⟩,a 4⟩/\kF s ⟨3,⟨M.toArray⟩,a 4⟩=⟨5,⟨#[59]⟩,a 5⟩/\kF s ⟨5,⟨#[59]⟩,a 5⟩=⟨4,⟨#[82,49]⟩,a 6⟩/\kF s ⟨4,⟨#[82,49]⟩,a 6⟩=⟨5,⟨#[61]⟩,a 7⟩/\kF s ⟨5,⟨#[61]⟩,a 7⟩=⟨5,⟨#[45]⟩,a 8⟩/\kF s ⟨5,⟨#[45]⟩,a 8⟩=⟨3,⟨N.toArray⟩,a 9⟩/\kF s ⟨3,⟨N.toArray⟩,a 9⟩=⟨5,⟨#[47]⟩,a 10⟩/\kF s ⟨5,⟨#[47]⟩,a 10⟩=⟨5,⟨#[40]⟩,a 11⟩/\kF s ⟨5,⟨#[40]⟩,a 11⟩=⟨3,⟨M.toArray⟩,a 12⟩/\kF s ⟨3,⟨M.toArray⟩,a 12⟩=⟨5,⟨#[45]⟩,a 13⟩/\kF s ⟨5,⟨#[45]⟩,a 13⟩=⟨3,⟨#[53]⟩,a 14⟩/\kF s ⟨3,⟨#[53]⟩,a 14⟩=⟨5,⟨#[41]⟩,a 15⟩/\kF s ⟨5,⟨#[41]⟩,a 15⟩=⟨5,⟨#[59]⟩,a 16⟩/\kF s ⟨5,⟨#[59]⟩,a 16⟩=⟨4,⟨#[82,50]⟩,a 17⟩/\kF s ⟨4,⟨#[82,50]⟩,a 17⟩=⟨5,⟨#[61]⟩,a 18⟩/\kF s ⟨5,⟨#[61]⟩,a 18⟩=⟨3,⟨N.toArray⟩,a 19⟩/\kF s ⟨3,⟨N.toArray⟩,a 19⟩=⟨5,⟨#[37]⟩,a 20⟩/\kF s ⟨5,⟨#[37]⟩,a 20⟩=⟨3,⟨#[55]⟩,a 21⟩/\kF s ⟨3,⟨#[55]⟩,a 21⟩=⟨5,⟨#[43]⟩,a 22⟩/\kF s ⟨5,⟨#[43]⟩,a 22⟩=⟨3,⟨#[49]⟩,a 23⟩/\kF s ⟨3,⟨#[49]⟩,a 23⟩=⟨5,⟨#[45]⟩,a 24⟩/\kF s ⟨5,⟨#[45]⟩,a 24⟩=⟨5,⟨#[45]⟩,a 25⟩/\kF s ⟨5,⟨#[45]⟩,a 25⟩=⟨3,⟨#[50]⟩,a 26⟩/\kF s ⟨3,⟨#[50]⟩,a 26⟩=⟨5,⟨#[59]⟩,a 27⟩/\kF s ⟨5,⟨#[59]⟩,a 27⟩=⟨5,⟨#[105,102]⟩,a 28⟩/\kF s ⟨5,⟨#[105,102]⟩,a 28⟩=⟨5,⟨#[33]⟩,a 29⟩/\kF s ⟨5,⟨#[33]⟩,a 29⟩=⟨5,⟨#[40]⟩,a 30⟩/\kF s ⟨5,⟨#[40]⟩,a 30⟩=⟨3,⟨#[49]⟩,a 31⟩/\kF s ⟨3,⟨#[49]⟩,a 31⟩=⟨5,⟨#[60]⟩,a 32⟩/\kF s ⟨5,⟨#[60]⟩,a 32⟩=⟨3,⟨#[50]⟩,a 33⟩/\kF s ⟨3,⟨#[50]⟩,a 33⟩=⟨5,⟨#[38,38]⟩,a 34⟩/\kF s ⟨5,⟨#[38,38]⟩,a 34⟩=⟨3,⟨N.toArray⟩,a 35⟩/\kF s ⟨3,⟨N.toArray⟩,a 35⟩=⟨5,⟨#[62,61]⟩,a 36⟩/\kF s ⟨5,⟨#[62,61]⟩,a 36⟩=⟨3,⟨#[48]⟩,a 37⟩/\kF s ⟨3,⟨#[48]⟩,a 37⟩=⟨5,⟨#[41]⟩,a 38⟩/\kF s ⟨5,⟨#[41]⟩,a 38⟩=⟨5,⟨#[124,124]⟩,a 39⟩/\kF s ⟨5,⟨#[124,124]⟩,a 39⟩=⟨3,⟨#[49]⟩,a 40⟩/\kF s ⟨3,⟨#[49]⟩,a 40⟩=⟨5,⟨#[61,61]⟩,a 41⟩/\kF s ⟨5,⟨#[61,61]⟩,a 41⟩=⟨3,⟨#[50]⟩,a 42⟩/\kF s ⟨3,⟨#[50]⟩,a 42⟩=⟨5,⟨#[123]⟩,a 43⟩/\kF s ⟨5,⟨#[123]⟩,a 43⟩=⟨4,⟨#[82,51]⟩,a 44⟩/\kF s ⟨4,⟨#[82,51]⟩,a 44⟩=⟨5,⟨#[61]⟩,a 45⟩/\kF s ⟨5,⟨#[61]⟩,a 45⟩=⟨3,⟨#[49]⟩,a 46⟩/\kF s ⟨3,⟨#[49]⟩,a 46⟩=⟨5,⟨#[59]⟩,a 47⟩/\kF s ⟨5,⟨#[59]⟩,a 47⟩=⟨5,⟨#[125]⟩,a 48⟩/\kF s ⟨5,⟨#[125]⟩,a 48⟩=⟨5,⟨#[101,108,115,101]⟩,a 49⟩/\kF s ⟨5,⟨#[101,108,115,101]⟩,a 49⟩=⟨5,⟨#[123]⟩,a 50⟩/\kF s ⟨5,⟨#[123]⟩,a 50⟩=⟨4,⟨#[82,52]⟩,a 51⟩/\kF s ⟨4,⟨#[82,52]⟩,a 51⟩=⟨5,⟨#[61]⟩,a 52⟩/\kF s ⟨5,⟨#[61]⟩,a 52⟩=⟨3,⟨#[51]⟩,a 53⟩/\kF s ⟨3,⟨#[51]⟩,a 53⟩=⟨5,⟨#[59]⟩,a 54⟩/\kF s ⟨5,⟨#[59]⟩,a 54⟩=⟨5,⟨#[125]⟩,a 55⟩/\kF s ⟨5,⟨#[125]⟩,a 55⟩=⟨1,⟨#[]⟩,a 56⟩:=by
 have b0:IW s 0 ([82,48,32,61,32]++(N++T1)):=⟨h0,bD _⟩;have bl:∀(x:UInt8)(X:List UInt8),mZ x.toNat=true->xX x.toNat=false:=λx X h=>by
  unfold mZ at h;unfold xX;simp only[dD,decide_eq_true_eq]at h;simp only[Bool.or_eq_false_iff,beq_eq_false_iff_ne];omega
 have sp:∀L X:List UInt8,(∀c∈L,mZ c.toNat=true)->0<L.length->span xX (L++X)=0:=λL X h h0=>by
  match L,h,h0 with
  |d::L,h,_=>
   unfold span;rw[bZ,List.takeWhile_cons_of_neg (by rw[bl d [] (h d (aW ..))];simp)]
   rfl
 obtain⟨j0,e0,n0,b1⟩:=l9 (kind:=4) [] [82,48] _ b0 rfl (by decide) (ND (by decide));obtain⟨j1,e1,n1,b2⟩:=l9 (kind:=5) [32] [61] _ b1 rfl (by decide) (sign_one (by decide) (by decide) (by decide) rfl (by decide));have g2:∀c,T1.head?=some c->mZ c.toNat=false:=λc h=>by rw[t1]at h;cases h;rfl
 obtain⟨j2,e2,n2,b3⟩:=l9 [32] N T1 b2 (by have:=sp N T1 hN.1 hN.2.1;unfold span at this⊢;rw[fC,List.takeWhile_cons_of_pos (by rfl),aF,this];rfl) hN.2.1 (I5 hN.1 hN.2.1 hN.2.2 g2);rw[t1]at b3;obtain⟨j3,e3,n3,b4⟩:=l9 (kind:=5) [32] [42] _ b3 rfl (by decide) (sign_one (by decide) (by decide) (by decide) rfl (by decide));have g4:∀c,T2.head?=some c->mZ c.toNat=false:=λc h=>by rw[t2]at h;cases h;rfl
 obtain⟨j4,e4,n4,b5⟩:=l9 [32] M T2 b4 (by have:=sp M T2 hM.1 hM.2.1;unfold span at this⊢;rw[fC,List.takeWhile_cons_of_pos (by rfl),aF,this];rfl) hM.2.1 (I5 hM.1 hM.2.1 hM.2.2 g4);rw[t2]at b5;obtain⟨j5,e5,n5,b6⟩:=l9 (kind:=5) [] [59] _ b5 rfl (by decide) (sign_one (by decide) (by decide) (by decide) rfl (by decide));obtain⟨j6,e6,n6,b7⟩:=l9 (kind:=4) [32] [82,49] _ b6 rfl (by decide) (ND (by decide));obtain⟨j7,e7,n7,b8⟩:=l9 (kind:=5) [32] [61] _ b7 rfl (by decide) (sign_one (by decide) (by decide) (by decide) rfl (by decide));obtain⟨j8,e8,n8,b9⟩:=l9 (kind:=5) [32] [45] _ b8 rfl (by decide) (sign_one (by decide) (by decide) (by decide) rfl (by decide));have g9:∀c,T3.head?=some c->mZ c.toNat=false:=λc h=>by rw[t3]at h;cases h;rfl
 obtain⟨j9,e9,n9,b10⟩:=l9 [] N T3 b9 (sp N T3 hN.1 hN.2.1) hN.2.1 (I5 hN.1 hN.2.1 hN.2.2 g9);rw[t3]at b10;obtain⟨j10,e10,n10,b11⟩:=l9 (kind:=5) [32] [47] _ b10 rfl (by decide) (sign_one (by decide) (by decide) (by decide) rfl (by decide));obtain⟨j11,e11,n11,b12⟩:=l9 (kind:=5) [32] [40] _ b11 rfl (by decide) (sign_one (by decide) (by decide) (by decide) rfl (by decide));have g12:∀c,T4.head?=some c->mZ c.toNat=false:=λc h=>by rw[t4]at h;cases h;rfl
 obtain⟨j12,e12,n12,b13⟩:=l9 [] M T4 b12 (sp M T4 hM.1 hM.2.1) hM.2.1 (I5 hM.1 hM.2.1 hM.2.2 g12);rw[t4]at b13;obtain⟨j13,e13,n13,b14⟩:=l9 (kind:=5) [32] [45] _ b13 rfl (by decide) (sign_one (by decide) (by decide) (by decide) rfl (by decide));obtain⟨j14,e14,n14,b15⟩:=l9 (kind:=3) [32] [53] _ b14 rfl (by decide) (rfl);obtain⟨j15,e15,n15,b16⟩:=l9 (kind:=5) [] [41] _ b15 rfl (by decide) (sign_one (by decide) (by decide) (by decide) rfl (by decide));obtain⟨j16,e16,n16,b17⟩:=l9 (kind:=5) [] [59] _ b16 rfl (by decide) (sign_one (by decide) (by decide) (by decide) rfl (by decide));obtain⟨j17,e17,n17,b18⟩:=l9 (kind:=4) [32] [82,50] _ b17 rfl (by decide) (ND (by decide));obtain⟨j18,e18,n18,b19⟩:=l9 (kind:=5) [32] [61] _ b18 rfl (by decide) (sign_one (by decide) (by decide) (by decide) rfl (by decide));have g19:∀c,T5.head?=some c->mZ c.toNat=false:=λc h=>by rw[t5]at h;cases h;rfl
 obtain⟨j19,e19,n19,b20⟩:=l9 [32] N T5 b19 (by have:=sp N T5 hN.1 hN.2.1;unfold span at this⊢;rw[fC,List.takeWhile_cons_of_pos (by rfl),aF,this];rfl) hN.2.1 (I5 hN.1 hN.2.1 hN.2.2 g19);rw[t5]at b20;obtain⟨j20,e20,n20,b21⟩:=l9 (kind:=5) [32] [37] _ b20 rfl (by decide) (sign_one (by decide) (by decide) (by decide) rfl (by decide));obtain⟨j21,e21,n21,b22⟩:=l9 (kind:=3) [32] [55] _ b21 rfl (by decide) (rfl);obtain⟨j22,e22,n22,b23⟩:=l9 (kind:=5) [32] [43] _ b22 rfl (by decide) (sign_one (by decide) (by decide) (by decide) rfl (by decide));obtain⟨j23,e23,n23,b24⟩:=l9 (kind:=3) [32] [49] _ b23 rfl (by decide) (rfl);obtain⟨j24,e24,n24,b25⟩:=l9 (kind:=5) [32] [45] _ b24 rfl (by decide) (sign_one (by decide) (by decide) (by decide) rfl (by decide));obtain⟨j25,e25,n25,b26⟩:=l9 (kind:=5) [32] [45] _ b25 rfl (by decide) (sign_one (by decide) (by decide) (by decide) rfl (by decide));obtain⟨j26,e26,n26,b27⟩:=l9 (kind:=3) [] [50] _ b26 rfl (by decide) (rfl);obtain⟨j27,e27,n27,b28⟩:=l9 (kind:=5) [] [59] _ b27 rfl (by decide) (sign_one (by decide) (by decide) (by decide) rfl (by decide));obtain⟨j28,e28,n28,b29⟩:=l9 (kind:=5) [32] [105,102] _ b28 rfl (by decide) (rfl);obtain⟨j29,e29,n29,b30⟩:=l9 (kind:=5) [32] [33] _ b29 rfl (by decide) (sign_one (by decide) (by decide) (by decide) rfl (by decide));obtain⟨j30,e30,n30,b31⟩:=l9 (kind:=5) [] [40] _ b30 rfl (by decide) (sign_one (by decide) (by decide) (by decide) rfl (by decide))
 obtain⟨j31,e31,n31,b32⟩:=l9 (kind:=3) [] [49] _ b31 rfl (by decide) (rfl);obtain⟨j32,e32,n32,b33⟩:=l9 (kind:=5) [32] [60] _ b32 rfl (by decide) (sign_one (by decide) (by decide) (by decide) rfl (by decide));obtain⟨j33,e33,n33,b34⟩:=l9 (kind:=3) [32] [50] _ b33 rfl (by decide) (rfl);obtain⟨j34,e34,n34,b35⟩:=l9 (kind:=5) [32] [38,38] _ b34 rfl (by decide) (QZ (by decide) (by decide) (by decide) rfl);have g35:∀c,T6.head?=some c->mZ c.toNat=false:=λc h=>by rw[t6]at h;cases h;rfl
 obtain⟨j35,e35,n35,ZO⟩:=l9 [32] N T6 b35 (by have:=sp N T6 hN.1 hN.2.1;unfold span at this⊢;rw[fC,List.takeWhile_cons_of_pos (by rfl),aF,this];rfl) hN.2.1 (I5 hN.1 hN.2.1 hN.2.2 g35);rw[t6]at ZO;obtain⟨j36,e36,n36,b37⟩:=l9 (kind:=5) [32] [62,61] _ ZO rfl (by decide) (QZ (by decide) (by decide) (by decide) rfl);obtain⟨j37,e37,n37,b38⟩:=l9 (kind:=3) [32] [48] _ b37 rfl (by decide) (rfl);obtain⟨j38,e38,n38,b39⟩:=l9 (kind:=5) [] [41] _ b38 rfl (by decide) (sign_one (by decide) (by decide) (by decide) rfl (by decide));obtain⟨j39,e39,n39,b40⟩:=l9 (kind:=5) [32] [124,124] _ b39 rfl (by decide) (QZ (by decide) (by decide) (by decide) rfl);obtain⟨j40,e40,n40,b41⟩:=l9 (kind:=3) [32] [49] _ b40 rfl (by decide) (rfl);obtain⟨j41,e41,n41,b42⟩:=l9 (kind:=5) [32] [61,61] _ b41 rfl (by decide) (QZ (by decide) (by decide) (by decide) rfl);obtain⟨j42,e42,n42,b43⟩:=l9 (kind:=3) [32] [50] _ b42 rfl (by decide) (rfl);obtain⟨j43,e43,n43,b44⟩:=l9 (kind:=5) [32] [123] _ b43 rfl (by decide) (sign_one (by decide) (by decide) (by decide) rfl (by decide));obtain⟨j44,e44,n44,b45⟩:=l9 (kind:=4) [32] [82,51] _ b44 rfl (by decide) (ND (by decide));obtain⟨j45,e45,n45,b46⟩:=l9 (kind:=5) [32] [61] _ b45 rfl (by decide) (sign_one (by decide) (by decide) (by decide) rfl (by decide));obtain⟨j46,e46,n46,b47⟩:=l9 (kind:=3) [32] [49] _ b46 rfl (by decide) (rfl);obtain⟨j47,e47,n47,b48⟩:=l9 (kind:=5) [] [59] _ b47 rfl (by decide) (sign_one (by decide) (by decide) (by decide) rfl (by decide))
 obtain⟨j48,e48,n48,b49⟩:=l9 (kind:=5) [32] [125] _ b48 rfl (by decide) (sign_one (by decide) (by decide) (by decide) rfl (by decide));obtain⟨j49,e49,n49,b50⟩:=l9 (kind:=5) [32] [101,108,115,101] _ b49 rfl (by decide) (rfl);obtain⟨j50,e50,n50,b51⟩:=l9 (kind:=5) [32] [123] _ b50 rfl (by decide) (sign_one (by decide) (by decide) (by decide) rfl (by decide));obtain⟨j51,e51,n51,b52⟩:=l9 (kind:=4) [32] [82,52] _ b51 rfl (by decide) (ND (by decide));obtain⟨j52,e52,n52,b53⟩:=l9 (kind:=5) [32] [61] _ b52 rfl (by decide) (sign_one (by decide) (by decide) (by decide) rfl (by decide));obtain⟨j53,e53,n53,b54⟩:=l9 (kind:=3) [32] [51] _ b53 rfl (by decide) (rfl);obtain⟨j54,e54,n54,b55⟩:=l9 (kind:=5) [] [59] _ b54 rfl (by decide) (sign_one (by decide) (by decide) (by decide) rfl (by decide));obtain⟨j55,e55,n55,b56⟩:=l9 (kind:=5) [32] [125] _ b55 rfl (by decide) (sign_one (by decide) (by decide) (by decide) rfl (by decide));have e56:=ako b56
 exact⟨λi=>((([j0,j1,j2,j3,j4,j5,j6,j7,j8,j9,j10,j11,j12,j13,j14,j15,j16,j17,j18,j19,j20,j21,j22,j23,j24,j25,j26,j27,j28,j29,j30,j31,j32,j33,j34,j35,j36,j37,j38,j39,j40,j41,j42,j43,j44,j45,j46,j47,j48,j49,j50,j51,j52,j53,j54,j55,j55+1]:List Nat).getD i 0:Nat):Int),e0,n0.trans e1,n1.trans e2,n2.trans e3,n3.trans e4,n4.trans e5,n5.trans e6,n6.trans e7,n7.trans e8,n8.trans e9,n9.trans e10,n10.trans e11,n11.trans e12,n12.trans e13,n13.trans e14,n14.trans e15,n15.trans e16,n16.trans e17,n17.trans e18,n18.trans e19,n19.trans e20,n20.trans e21,n21.trans e22,n22.trans e23,n23.trans e24,n24.trans e25,n25.trans e26,n26.trans e27,n27.trans e28,n28.trans e29,n29.trans e30,n30.trans e31,n31.trans e32,n32.trans e33,n33.trans e34,n34.trans e35,n35.trans e36,n36.trans e37,n37.trans e38,n38.trans e39,n39.trans e40,n40.trans e41,n41.trans e42,n42.trans e43,n43.trans e44,n44.trans e45,n45.trans e46,n46.trans e47,n47.trans e48,n48.trans e49,n49.trans e50,n50.trans e51,n51.trans e52,n52.trans e53,n53.trans e54,n54.trans e55,n55.trans e56⟩
theorem aga{st:Ps->Option jG×Ps}{m:Nat}{p q:Ps}{e:jG}(hm:2<=m)(h:st p=(some e,q))(h2:st q=(none,q)):pX st m [] p=([e],q):=by
 obtain⟨m,rfl⟩:∃k,m=k+2:=⟨m-2,by omega⟩;rw[vF h,WR h2]
 rfl
theorem asR{st:Ps->Option jG×Ps}{m:Nat}{p0 p1 p2 p3 q:Ps}{e0 e1 e2 e3:jG}(hm:5<=m)(h0:st p0=(some e0,p1))(h1:st p1=(some e1,p2))(h2:st p2=(some e2,p3))(h3:st p3=(some e3,q))(h:st q=(none,q)):pX st m [] p0=([e0,e1,e2,e3],q):=by
 obtain⟨m,rfl⟩:∃k,m=k+5:=⟨m-5,by omega⟩;rw[vF h0,vF h1,vF h2,vF h3,WR h]
 rfl
def zh(a:Nat->Int)(x y:Int):List jG:=[(mY (a 0) 0 (kK (a 2) (kE [42]).2 ⟨#[42]⟩ (kN (a 2) x) (kN (a 4) y))),
 (mY (a 6) 1 (kK (a 8) (kE [47]).2 ⟨#[47]⟩ (oV (a 8) 1 ⟨#[45]⟩ (kN (a 9) x)) ((kK (a 12) (kE [45]).2 ⟨#[45]⟩ (kN (a 12) y) (kN (a 14) 5)).widen (a 11)))),
 (mY (a 17) 2 (kK (a 19) (kE [45]).2 ⟨#[45]⟩ (kK (a 19) (kE [43]).2 ⟨#[43]⟩ (kK (a 19) (kE [37]).2 ⟨#[37]⟩ (kN (a 19) x) (kN (a 21) 7)) (kN (a 23) 1)) (oV (a 25) 1 ⟨#[45]⟩ (kN (a 26) 2)))),
 (nY (a 28) (kK (a 29) (kE [124,124]).2 ⟨#[124,124]⟩ (oV (a 29) 2 ⟨#[33]⟩ ((kK (a 31) (kE [38,38]).2 ⟨#[38,38]⟩ (kK (a 31) (kE [60]).2 ⟨#[60]⟩ (kN (a 31) 1) (kN (a 33) 2)) (kK (a 35) (kE [62,61]).2 ⟨#[62,61]⟩ (kN (a 35) x) (kN (a 37) 0))).widen (a 30))) (kK (a 40) (kE [61,61]).2 ⟨#[61,61]⟩ (kN (a 40) 1) (kN (a 42) 2))) [(mY (a 44) 3 (kN (a 46) 1))] [(mY (a 51) 4 (kN (a 53) 3))])]
theorem apz{s:ji}{D E:ji}{x y:Int}{a:Nat->Int}(hsz:10<=s.size)(hx:(Lib.atoi D.data.toList).getD 0=x)(hy:(Lib.atoi E.data.toList).getD 0=y)(hx1:(D.data.toList==[45])=false)(hx2:(D.data.toList==[33])=false)(hy1:(E.data.toList==[45])=false)(hy2:(E.data.toList==[33])=false)
 (n0:kF s ⟨4,⟨#[82,48]⟩,a 0⟩=⟨5,⟨#[61]⟩,a 1⟩)(n1:kF s ⟨5,⟨#[61]⟩,a 1⟩=⟨3,D,a 2⟩)(n2:kF s ⟨3,D,a 2⟩=⟨5,⟨#[42]⟩,a 3⟩)(n3:kF s ⟨5,⟨#[42]⟩,a 3⟩=⟨3,E,a 4⟩)(n4:kF s ⟨3,E,a 4⟩=⟨5,⟨#[59]⟩,a 5⟩)(n5:kF s ⟨5,⟨#[59]⟩,a 5⟩=⟨4,⟨#[82,49]⟩,a 6⟩)(n6:kF s ⟨4,⟨#[82,49]⟩,a 6⟩=⟨5,⟨#[61]⟩,a 7⟩)(n7:kF s ⟨5,⟨#[61]⟩,a 7⟩=⟨5,⟨#[45]⟩,a 8⟩)(n8:kF s ⟨5,⟨#[45]⟩,a 8⟩=⟨3,D,a 9⟩)(n9:kF s ⟨3,D,a 9⟩=⟨5,⟨#[47]⟩,a 10⟩)(n10:kF s ⟨5,⟨#[47]⟩,a 10⟩=⟨5,⟨#[40]⟩,a 11⟩)(n11:kF s ⟨5,⟨#[40]⟩,a 11⟩=⟨3,E,a 12⟩)(n12:kF s ⟨3,E,a 12⟩=⟨5,⟨#[45]⟩,a 13⟩)(n13:kF s ⟨5,⟨#[45]⟩,a 13⟩=⟨3,⟨#[53]⟩,a 14⟩)(n14:kF s ⟨3,⟨#[53]⟩,a 14⟩=⟨5,⟨#[41]⟩,a 15⟩)(n15:kF s ⟨5,⟨#[41]⟩,a 15⟩=⟨5,⟨#[59]⟩,a 16⟩)(n16:kF s ⟨5,⟨#[59]⟩,a 16⟩=⟨4,⟨#[82,50]⟩,a 17⟩)(n17:kF s ⟨4,⟨#[82,50]⟩,a 17⟩=⟨5,⟨#[61]⟩,a 18⟩)(n18:kF s ⟨5,⟨#[61]⟩,a 18⟩=⟨3,D,a 19⟩)(n19:kF s ⟨3,D,a 19⟩=⟨5,⟨#[37]⟩,a 20⟩)(n20:kF s ⟨5,⟨#[37]⟩,a 20⟩=⟨3,⟨#[55]⟩,a 21⟩)(n21:kF s ⟨3,⟨#[55]⟩,a 21⟩=⟨5,⟨#[43]⟩,a 22⟩)(n22:kF s ⟨5,⟨#[43]⟩,a 22⟩=⟨3,⟨#[49]⟩,a 23⟩)(n23:kF s ⟨3,⟨#[49]⟩,a 23⟩=⟨5,⟨#[45]⟩,a 24⟩)(n24:kF s ⟨5,⟨#[45]⟩,a 24⟩=⟨5,⟨#[45]⟩,a 25⟩)(n25:kF s ⟨5,⟨#[45]⟩,a 25⟩=⟨3,⟨#[50]⟩,a 26⟩)(n26:kF s ⟨3,⟨#[50]⟩,a 26⟩=⟨5,⟨#[59]⟩,a 27⟩)(n27:kF s ⟨5,⟨#[59]⟩,a 27⟩=⟨5,⟨#[105,102]⟩,a 28⟩)(n28:kF s ⟨5,⟨#[105,102]⟩,a 28⟩=⟨5,⟨#[33]⟩,a 29⟩)(n29:kF s ⟨5,⟨#[33]⟩,a 29⟩=⟨5,⟨#[40]⟩,a 30⟩)(n30:kF s ⟨5,⟨#[40]⟩,a 30⟩=⟨3,⟨#[49]⟩,a 31⟩)(n31:kF s ⟨3,⟨#[49]⟩,a 31⟩=⟨5,⟨#[60]⟩,a 32⟩)(n32:kF s ⟨5,⟨#[60]⟩,a 32⟩=⟨3,⟨#[50]⟩,a 33⟩)(n33:kF s ⟨3,⟨#[50]⟩,a 33⟩=⟨5,⟨#[38,38]⟩,a 34⟩)(n34:kF s ⟨5,⟨#[38,38]⟩,a 34⟩=⟨3,D,a 35⟩)(n35:kF s ⟨3,D,a 35⟩=⟨5,⟨#[62,61]⟩,a 36⟩)(n36:kF s ⟨5,⟨#[62,61]⟩,a 36⟩=⟨3,⟨#[48]⟩,a 37⟩)(n37:kF s ⟨3,⟨#[48]⟩,a 37⟩=⟨5,⟨#[41]⟩,a 38⟩)(n38:kF s ⟨5,⟨#[41]⟩,a 38⟩=⟨5,⟨#[124,124]⟩,a 39⟩)(n39:kF s ⟨5,⟨#[124,124]⟩,a 39⟩=⟨3,⟨#[49]⟩,a 40⟩)(n40:kF s ⟨3,⟨#[49]⟩,a 40⟩=⟨5,⟨#[61,61]⟩,a 41⟩)(n41:kF s ⟨5,⟨#[61,61]⟩,a 41⟩=⟨3,⟨#[50]⟩,a 42⟩)(n42:kF s ⟨3,⟨#[50]⟩,a 42⟩=⟨5,⟨#[123]⟩,a 43⟩)(n43:kF s ⟨5,⟨#[123]⟩,a 43⟩=⟨4,⟨#[82,51]⟩,a 44⟩)(n44:kF s ⟨4,⟨#[82,51]⟩,a 44⟩=⟨5,⟨#[61]⟩,a 45⟩)(n45:kF s ⟨5,⟨#[61]⟩,a 45⟩=⟨3,⟨#[49]⟩,a 46⟩)(n46:kF s ⟨3,⟨#[49]⟩,a 46⟩=⟨5,⟨#[59]⟩,a 47⟩)(n47:kF s ⟨5,⟨#[59]⟩,a 47⟩=⟨5,⟨#[125]⟩,a 48⟩)(n48:kF s ⟨5,⟨#[125]⟩,a 48⟩=⟨5,⟨#[101,108,115,101]⟩,a 49⟩)(n49:kF s ⟨5,⟨#[101,108,115,101]⟩,a 49⟩=⟨5,⟨#[123]⟩,a 50⟩)(n50:kF s ⟨5,⟨#[123]⟩,a 50⟩=⟨4,⟨#[82,52]⟩,a 51⟩)(n51:kF s ⟨4,⟨#[82,52]⟩,a 51⟩=⟨5,⟨#[61]⟩,a 52⟩)(n52:kF s ⟨5,⟨#[61]⟩,a 52⟩=⟨3,⟨#[51]⟩,a 53⟩)(n53:kF s ⟨3,⟨#[51]⟩,a 53⟩=⟨5,⟨#[59]⟩,a 54⟩)(n54:kF s ⟨5,⟨#[59]⟩,a 54⟩=⟨5,⟨#[125]⟩,a 55⟩)(n55:kF s ⟨5,⟨#[125]⟩,a 55⟩=⟨1,⟨#[]⟩,a 56⟩):
 lZ s 21 ⟨⟨4,⟨#[82,48]⟩,a 0⟩,0,0,0⟩=(zh a x y,⟨⟨1,⟨#[]⟩,a 56⟩,0,0,0⟩):=by
 have hz:2<=s.size+1:=by omega
 have k1:=vZ (ex:=kT s 20) (n:=s.size+1) (xG hx rfl (oK n2 0) hx1 hx2 rfl _);have k2:=vZ (ex:=kT s 20) (n:=s.size+1) (xG hy rfl (oK n4 0) hy1 hy2 rfl _);have k3:=JY (L:=6) (of:=5) k1 rfl rfl (by decide) (oK n3 0) k2 rfl (by decide);have k4:kT s 21 ⟨⟨3,D,a 2⟩,0,0,0⟩=((kK (a 2) (kE [42]).2 ⟨#[42]⟩ (kN (a 2) x) (kN (a 4) y)),⟨⟨5,⟨#[59]⟩,a 5⟩,0,0,0⟩):=(uj (l:=1) (L:=6) k3 rfl 5 (by decide));have k5:nD s (kT s 21) (oJ s (lZ s 20)) (kT s 20) (s.size+1) ⟨⟨4,⟨#[82,48]⟩,a 0⟩,0,0,0⟩=(some (mY (a 0) 0 (kK (a 2) (kE [42]).2 ⟨#[42]⟩ (kN (a 2) x) (kN (a 4) y))),⟨⟨4,⟨#[82,49]⟩,a 6⟩,0,0,0⟩):=NQ rfl (oK n0 0) (LY (Aq n1 rfl 0) k4 (Aq n5 rfl 0));have k6:∀m,qG s (kT s 20) (s.size+1) m ⟨⟨3,D,a 9⟩,0,0,0⟩=((kN (a 9) x),⟨⟨5,⟨#[47]⟩,a 10⟩,0,0,0⟩):=xG hx rfl (oK n9 0) hx1 hx2 rfl;have k7:=vZ (ae5 rfl (oK n8 0) k6 _);have k8:=vZ (ex:=kT s 19) (n:=s.size+1) (xG hy rfl (oK n12 1) hy1 hy2 rfl _);have k9:=vZ (ex:=kT s 19) (n:=s.size+1) (xG rfl rfl (oK n14 1) rfl rfl rfl _);have k10:=JY (L:=6) (of:=4) (uj (l:=0) (L:=4) k8 rfl 1 (by decide)) rfl rfl (by decide) (oK n13 1) (uj (l:=0) (L:=6) k9 rfl 1 (by decide)) rfl (by decide);have k11:kT s 20 ⟨⟨3,E,a 12⟩,1,0,0⟩=((kK (a 12) (kE [45]).2 ⟨#[45]⟩ (kN (a 12) y) (kN (a 14) 5)),⟨⟨5,⟨#[41]⟩,a 15⟩,1,0,0⟩):=(uj (l:=2) (L:=6) k10 rfl 4 (by decide));have k12:=vZ (ex:=kT s 20) (n:=s.size+1) (ae4 rfl rfl (Qs n11 rfl (d:=0) (by decide) (by decide+kernel)) k11 (Oz n15 rfl (d':=0) (by decide+kernel)) rfl _)
 have k13:=JY (L:=6) (of:=5) k7 rfl rfl (by decide) (oK n10 0) k12 rfl (by decide);have k14:kT s 21 ⟨⟨5,⟨#[45]⟩,a 8⟩,0,0,0⟩=((kK (a 8) (kE [47]).2 ⟨#[47]⟩ (oV (a 8) 1 ⟨#[45]⟩ (kN (a 9) x)) ((kK (a 12) (kE [45]).2 ⟨#[45]⟩ (kN (a 12) y) (kN (a 14) 5)).widen (a 11))),⟨⟨5,⟨#[59]⟩,a 16⟩,0,0,0⟩):=(uj (l:=1) (L:=6) k13 rfl 5 (by decide));have k15:nD s (kT s 21) (oJ s (lZ s 20)) (kT s 20) (s.size+1) ⟨⟨4,⟨#[82,49]⟩,a 6⟩,0,0,0⟩=(some (mY (a 6) 1 (kK (a 8) (kE [47]).2 ⟨#[47]⟩ (oV (a 8) 1 ⟨#[45]⟩ (kN (a 9) x)) ((kK (a 12) (kE [45]).2 ⟨#[45]⟩ (kN (a 12) y) (kN (a 14) 5)).widen (a 11)))),⟨⟨4,⟨#[82,50]⟩,a 17⟩,0,0,0⟩):=NQ rfl (oK n6 0) (LY (Aq n7 rfl 0) k14 (Aq n16 rfl 0));have k16:=vZ (ex:=kT s 20) (n:=s.size+1) (xG hx rfl (oK n19 0) hx1 hx2 rfl _);have k17:=vZ (ex:=kT s 20) (n:=s.size+1) (xG rfl rfl (oK n21 0) rfl rfl rfl _);have k18:=JY (L:=4) (of:=5) k16 rfl rfl (by decide) (oK n20 0) k17 rfl (by decide);have k19:=vZ (ex:=kT s 20) (n:=s.size+1) (xG rfl rfl (oK n23 0) rfl rfl rfl _);have k20:∀m,qG s (kT s 20) (s.size+1) m ⟨⟨3,⟨#[50]⟩,a 26⟩,0,0,0⟩=((kN (a 26) 2),⟨⟨5,⟨#[59]⟩,a 27⟩,0,0,0⟩):=xG rfl rfl (oK n26 0) rfl rfl rfl;have k21:=vZ (ae5 rfl (oK n25 0) k20 _);have k22:=aqu hz (L:=6) (of:=4) k18 rfl rfl (by decide) (oK n22 0) (uj (l:=0) (L:=4) k19 rfl 1 (by decide)) rfl (oK n24 0) (uj (l:=0) (L:=6) k21 rfl 1 (by decide)) rfl (by decide)
 have k23:kT s 21 ⟨⟨3,D,a 19⟩,0,0,0⟩=((kK (a 19) (kE [45]).2 ⟨#[45]⟩ (kK (a 19) (kE [43]).2 ⟨#[43]⟩ (kK (a 19) (kE [37]).2 ⟨#[37]⟩ (kN (a 19) x) (kN (a 21) 7)) (kN (a 23) 1)) (oV (a 25) 1 ⟨#[45]⟩ (kN (a 26) 2))),⟨⟨5,⟨#[59]⟩,a 27⟩,0,0,0⟩):=(uj (l:=2) (L:=6) k22 rfl 4 (by decide));have k24:nD s (kT s 21) (oJ s (lZ s 20)) (kT s 20) (s.size+1) ⟨⟨4,⟨#[82,50]⟩,a 17⟩,0,0,0⟩=(some (mY (a 17) 2 (kK (a 19) (kE [45]).2 ⟨#[45]⟩ (kK (a 19) (kE [43]).2 ⟨#[43]⟩ (kK (a 19) (kE [37]).2 ⟨#[37]⟩ (kN (a 19) x) (kN (a 21) 7)) (kN (a 23) 1)) (oV (a 25) 1 ⟨#[45]⟩ (kN (a 26) 2)))),⟨⟨5,⟨#[105,102]⟩,a 28⟩,0,0,0⟩):=NQ rfl (oK n17 0) (LY (Aq n18 rfl 0) k23 (Aq n27 rfl 0));have k25:=vZ (ex:=kT s 19) (n:=s.size+1) (xG rfl rfl (oK n31 1) rfl rfl rfl _);have k26:=vZ (ex:=kT s 19) (n:=s.size+1) (xG rfl rfl (oK n33 1) rfl rfl rfl _);have k27:=VX (of:=3) (uj (l:=0) (L:=3) k25 rfl 2 (by decide)) rfl rfl (by decide) (oK n32 1) (uj (l:=0) (L:=1) k26 rfl 2 (by decide));have k28:=vZ (ex:=kT s 19) (n:=s.size+1) (xG hx rfl (oK n35 1) hx1 hx2 rfl _);have k29:=vZ (ex:=kT s 19) (n:=s.size+1) (xG rfl rfl (oK n37 1) rfl rfl rfl _);have k30:=VX (of:=3) (uj (l:=0) (L:=3) k28 rfl 2 (by decide)) rfl rfl (by decide) (oK n36 1) (uj (l:=0) (L:=6) k29 rfl 2 (by decide));have k31:=JY (L:=6) (of:=1) (uj (l:=3) (L:=1) k27 rfl 1 (by decide)) rfl rfl (by decide) (oK n34 1) (uj (l:=3) (L:=6) k30 rfl 1 (by decide)) rfl (by decide)
 have k32:kT s 20 ⟨⟨3,⟨#[49]⟩,a 31⟩,1,0,0⟩=((kK (a 31) (kE [38,38]).2 ⟨#[38,38]⟩ (kK (a 31) (kE [60]).2 ⟨#[60]⟩ (kN (a 31) 1) (kN (a 33) 2)) (kK (a 35) (kE [62,61]).2 ⟨#[62,61]⟩ (kN (a 35) x) (kN (a 37) 0))),⟨⟨5,⟨#[41]⟩,a 38⟩,1,0,0⟩):=(uj (l:=5) (L:=6) k31 rfl 1 (by decide));have k33:∀m,qG s (kT s 20) (s.size+1) m ⟨⟨5,⟨#[40]⟩,a 30⟩,0,0,0⟩=(((kK (a 31) (kE [38,38]).2 ⟨#[38,38]⟩ (kK (a 31) (kE [60]).2 ⟨#[60]⟩ (kN (a 31) 1) (kN (a 33) 2)) (kK (a 35) (kE [62,61]).2 ⟨#[62,61]⟩ (kN (a 35) x) (kN (a 37) 0))).widen (a 30)),⟨⟨5,⟨#[124,124]⟩,a 39⟩,0,0,0⟩):=ae4 rfl rfl (Qs n30 rfl (d:=0) (by decide) (by decide+kernel)) k32 (Oz n38 rfl (d':=0) (by decide+kernel)) rfl;have k34:=vZ (aqt rfl rfl (oK n29 0) k33 _);have k35:=vZ (ex:=kT s 20) (n:=s.size+1) (xG rfl rfl (oK n40 0) rfl rfl rfl _);have k36:=vZ (ex:=kT s 20) (n:=s.size+1) (xG rfl rfl (oK n42 0) rfl rfl rfl _);have k37:=VX (of:=2) (uj (l:=0) (L:=2) k35 rfl 3 (by decide)) rfl rfl (by decide) (oK n41 0) (uj (l:=0) (L:=6) k36 rfl 3 (by decide));have k38:=JY (L:=6) (of:=0) (uj (l:=0) (L:=0) k34 rfl 5 (by decide)) rfl rfl (by decide) (oK n39 0) (uj (l:=4) (L:=6) k37 rfl 1 (by decide)) rfl (by decide)
 have k39:kT s 21 ⟨⟨5,⟨#[33]⟩,a 29⟩,0,0,0⟩=((kK (a 29) (kE [124,124]).2 ⟨#[124,124]⟩ (oV (a 29) 2 ⟨#[33]⟩ ((kK (a 31) (kE [38,38]).2 ⟨#[38,38]⟩ (kK (a 31) (kE [60]).2 ⟨#[60]⟩ (kN (a 31) 1) (kN (a 33) 2)) (kK (a 35) (kE [62,61]).2 ⟨#[62,61]⟩ (kN (a 35) x) (kN (a 37) 0))).widen (a 30))) (kK (a 40) (kE [61,61]).2 ⟨#[61,61]⟩ (kN (a 40) 1) (kN (a 42) 2))),⟨⟨5,⟨#[123]⟩,a 43⟩,0,0,0⟩):=k38;have k40:=vZ (ex:=kT s 19) (n:=s.size+1) (xG rfl rfl (oK n46 1) rfl rfl rfl _);have k41:kT s 20 ⟨⟨3,⟨#[49]⟩,a 46⟩,1,0,0⟩=((kN (a 46) 1),⟨⟨5,⟨#[59]⟩,a 47⟩,1,0,0⟩):=(uj (l:=0) (L:=6) k40 rfl 6 (by decide));have k42:nD s (kT s 20) (oJ s (lZ s 19)) (kT s 19) (s.size+1) ⟨⟨4,⟨#[82,51]⟩,a 44⟩,1,0,0⟩=(some (mY (a 44) 3 (kN (a 46) 1)),⟨⟨5,⟨#[125]⟩,a 48⟩,1,0,0⟩):=NQ rfl (oK n44 1) (LY (Aq n45 rfl 1) k41 (Aq n47 rfl 1));have k43:oJ s (lZ s 20) ⟨⟨5,⟨#[123]⟩,a 43⟩,0,0,0⟩=([(mY (a 44) 3 (kN (a 46) 1))],⟨⟨5,⟨#[101,108,115,101]⟩,a 49⟩,0,0,0⟩):=aac (Qs n43 rfl (by decide) (by decide+kernel)) (aga (by omega) k42 (WS (K:=5) rfl (by decide) (jf rfl))) (Oz n48 rfl (by decide+kernel));have k44:=vZ (ex:=kT s 19) (n:=s.size+1) (xG rfl rfl (oK n53 1) rfl rfl rfl _);have k45:kT s 20 ⟨⟨3,⟨#[51]⟩,a 53⟩,1,0,0⟩=((kN (a 53) 3),⟨⟨5,⟨#[59]⟩,a 54⟩,1,0,0⟩):=(uj (l:=0) (L:=6) k44 rfl 6 (by decide));have k46:nD s (kT s 20) (oJ s (lZ s 19)) (kT s 19) (s.size+1) ⟨⟨4,⟨#[82,52]⟩,a 51⟩,1,0,0⟩=(some (mY (a 51) 4 (kN (a 53) 3)),⟨⟨5,⟨#[125]⟩,a 55⟩,1,0,0⟩):=NQ rfl (oK n51 1) (LY (Aq n52 rfl 1) k45 (Aq n54 rfl 1))
 have k47:oJ s (lZ s 20) ⟨⟨5,⟨#[123]⟩,a 50⟩,0,0,0⟩=([(mY (a 51) 4 (kN (a 53) 3))],⟨⟨1,⟨#[]⟩,a 56⟩,0,0,0⟩):=aac (Qs n50 rfl (by decide) (by decide+kernel)) (aga (by omega) k46 (WS (K:=5) rfl (by decide) (jf rfl))) (Oz n55 rfl (by decide+kernel));have k48:nD s (kT s 21) (oJ s (lZ s 20)) (kT s 20) (s.size+1) ⟨⟨5,⟨#[105,102]⟩,a 28⟩,0,0,0⟩=(some (nY (a 28) (kK (a 29) (kE [124,124]).2 ⟨#[124,124]⟩ (oV (a 29) 2 ⟨#[33]⟩ ((kK (a 31) (kE [38,38]).2 ⟨#[38,38]⟩ (kK (a 31) (kE [60]).2 ⟨#[60]⟩ (kN (a 31) 1) (kN (a 33) 2)) (kK (a 35) (kE [62,61]).2 ⟨#[62,61]⟩ (kN (a 35) x) (kN (a 37) 0))).widen (a 30))) (kK (a 40) (kE [61,61]).2 ⟨#[61,61]⟩ (kN (a 40) 1) (kN (a 42) 2))) [(mY (a 44) 3 (kN (a 46) 1))] [(mY (a 51) 4 (kN (a 53) 3))]),⟨⟨1,⟨#[]⟩,a 56⟩,0,0,0⟩):=as4 rfl rfl (oK n28 0) k39 k43 rfl (oK n49 0) k47;exact asR (by omega) k5 k15 k24 k48 (WS (K:=1) rfl (by decide) (je rfl))
end
end Go.Proofs.YthllhabjfchgiaaGreatDoor
