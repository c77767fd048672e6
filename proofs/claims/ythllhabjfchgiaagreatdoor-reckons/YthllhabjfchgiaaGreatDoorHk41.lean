import Derived.Test.YthllhabjfchgiaaGreatDoorHk40
import Derived.Test.YthllhabjfchgiaaGreatDoorHk09
import Derived.ChangeKeysEq
set_option maxRecDepth 100000
set_option maxHeartbeats 8000000
set_option linter.unusedSimpArgs false
namespace Go.Proofs.YthllhabjfchgiaaGreatDoor
open _root_.Go.Proofs.Tryz
section
open Go.RowKit Hx
section
variable {s:ji}{ex ex':Ps->Ex×Ps}{jM:Ps->List jG×Ps}{p q:Ps}
def Ku(s:ji)(jM:Ps->List jG×Ps)(k:Int):Prop:=∀p,p.Ok s->(jM p).2.Ok s/\((jM p).2.en=0->p.en=0/\∃zs t,qB (jM p).1 zs t/\p.k.at'+t+k<=(jM p).2.k.at')
def xP(s:ji)(p:Ps)(r:jG×Ps):Prop:=r.2.Ok s/\(r.2.en=0->p.en=0/\∃t,QS t r.1/\p.k.at'+t<=r.2.k.at')
theorem xP.of{r:jG×Ps}{t:Int}(ok:p.Ok s)(h:pO s p r.2 t)(hq:QS t r.1):xP s p r:=⟨(h ok).1,λe=>⟨((h ok).2 e).1,t,hq,((h ok).2 e).2⟩⟩
theorem TT(h:tH s ex)(ok:p.Ok s):∃t,QX t (qF s ex p).1/\pO s p (qF s ex p).2 (t+2):=by
 obtain⟨t,q1,q2⟩:=h (p.expect s [61]) (ok.expect [61]);exact⟨t,q1,(((Ee (by simp)).trans q2).trans (Ee (by simp))).less (by omega)⟩
theorem anV(h:tH s ex)(ok:p.Ok s)(ht:p.is [118,97,114]=true):xP s p (JC s ex p):=by
 obtain⟨t,q1,q2⟩:=TT h (p:=((p.next s).name s).2) ok.next.name;exact xP.of ok ((((rU (qQ (by simp) ht)).trans LJ).trans q2).less (t':=t+3) (by omega)) (anZ q1 _ _)
theorem asv(h:tH s ex)(ok:p.Ok s):xP s p (J4 s ex p):=by
 obtain⟨t,q1,q2⟩:=TT h (p:=(p.name s).2) ok.name;exact xP.of ok ((LJ.trans q2).less (t':=t+3) (by omega)) (asz q1 _)
theorem atb(h:tH s ex)(ok:p.Ok s)(hk:p.k.kind=4):xP s p (Ir s ex p):=by
 obtain⟨t,q1,q2⟩:=TT h (p:=p.next s) ok.next;obtain⟨x,k1,k2,k3⟩:=ok.kinds.register hk;refine xP.of ok (((rU (J9 (by simp) k1)).trans q2).less (t':=t+3) (by omega)) (ate q1 _ _ ?_);rw[k1];show 0<=((x.toNat:Int)-48)/\((x.toNat:Int)-48)<8;omega
theorem apY(h:tH s ex')(ok:p.Ok s)(ht:p.is [112,117,115,104]=true):xP s p (JX s ex' p):=by
 have o1:=ok.next.jZ [40];obtain⟨t,q1,q2⟩:=h _ o1;have o2:=((q2 o1).1).expect [44];obtain⟨t',r1,r2⟩:=h _ o2;exact xP.of ok (((((rU (qQ (by simp) ht)).trans (LK (by simp))).trans (q2.trans (Ee (by simp)))).trans (r2.trans ((LG (by simp)).trans (Ee (by simp))))).less (t':=t+t'+3) (by omega)) (ap1 q1 r1 _)
theorem aq8(ok:p.Ok s)(ht:p.is [114,101,116,117,114,110]=true):xP s p (JZ s p):=
 xP.of ok (((rU (qQ (by simp) ht)).trans (Ee (by simp))).less (t':=2) (by omega)) (ard _)
theorem ajH(h:tH s ex)(hb:Ku s jM 2)(ok:p.Ok s)(ht:p.is [105,102]=true):xP s p (yT s ex jM p):=by
 obtain⟨te,q1,q2⟩:=h (p.next s) ok.next;have e1:pO s p (ex (p.next s)).2 (1+te):=(rU (qQ (by simp) ht)).trans q2;obtain⟨o1,g1⟩:=e1 ok;obtain⟨o2,g2⟩:=hb _ o1;unfold yT;simp only;split
 .rename_i hel;obtain⟨o3,g3⟩:=hb _ o2.next;refine⟨o3,λen=>?_⟩;obtain⟨n1,zn,tn,n2,n3⟩:=g3 en;obtain⟨y1,zy,ty,y2,y3⟩:=g2 n1;obtain⟨x1,x2⟩:=g1 y1;have:=F6 o2;have hz:=qQ (q:=(jM (ex (p.next s)).2).2) (by simp) hel;exact⟨x1,te+ty+tn+3,aax q1 y2 n2 _,by show p.k.at'+(te+ty+tn+3)<=(jM ((jM (ex (p.next s)).2).2.next s)).2.k.at';omega⟩
 .refine⟨o2,λen=>?_⟩;obtain⟨y1,zy,ty,y2,y3⟩:=g2 en;obtain⟨x1,x2⟩:=g1 y1;exact⟨x1,te+ty+0+3,aax q1 y2 (show qB [] [] 0 from⟨rfl,rfl⟩) _,by show p.k.at'+(te+ty+0+3)<=(jM (ex (p.next s)).2).2.k.at';omega⟩
theorem anb(h:tH s ex')(hb:Ku s jM 2)(n:Nat)(ok:p.Ok s)(ht:p.is [101,97,99,104]=true):xP s p (Hu s jM ex' n p):=by
 have e1:pO s p (((p.next s).name s).2.expect s [105,110]) 3:=(((rU (qQ (by simp) ht)).trans LJ).trans (Ee (by simp))).less (by omega);have o1:=(e1 ok).1;unfold Hu;simp only;have okx:(oD s ex' n (((p.next s).name s).2.expect s [105,110])).2.Ok s:=by
  rcases QT h n o1 with⟨ts,_,h2⟩|⟨_,h2⟩
  .exact(h2 o1).1
  .rw[h2];exact o1.fail
 cases hfl:(oD s ex' n (((p.next s).name s).2.expect s [105,110])).1.2 with
 |true=>
  simp only[dM];obtain⟨o2,g2⟩:=hb _ okx.fail;exact⟨o2,λen=>jl (g2 en).1 (Jf _)⟩
 |false=>
  simp only[aH,cZ];obtain⟨o2,g2⟩:=hb _ okx;refine⟨o2,λen=>?_⟩;obtain⟨l1,zb,tl,l2,l3⟩:=g2 en;rcases QT h n o1 with⟨ts,x1,x2⟩|⟨_,h2⟩
  .rw[hfl]at x2;simp only[aH,cZ]at x2;obtain⟨y1,y2⟩:=(x2 o1).2 l1;obtain⟨w1,w2⟩:=(e1 ok).2 y1;exact⟨w1,ts+tl+4,ani x1 l2 _ _,by show p.k.at'+(ts+tl+4)<=(jM (oD s ex' n (((p.next s).name s).2.expect s [105,110])).2).2.k.at';omega⟩
  .rw[h2]at l1;exact jl l1 (Jf _)
theorem as3(h1:tH s ex)(h0:tH s ex')(hb:Ku s jM 2)(n:Nat)(ok:p.Ok s):(∀e,(nD s ex jM ex' n p).1=some e->xP s p (e,(nD s ex jM ex' n p).2))/\((nD s ex jM ex' n p).1=none->(nD s ex jM ex' n p).2=p):=by
 unfold nD;by_cases c1:p.k.kind=2
 .rw[jh c1];exact⟨λe he=>by cases he;exact asv h1 ok,λhe=>by cases he⟩
 rw[jg c1];by_cases c2:p.k.kind=4
 .rw[jh c2];exact⟨λe he=>by cases he;exact atb h1 ok c2,λhe=>by cases he⟩
 rw[jg c2];by_cases c3:p.is [118,97,114]=true
 .rw[jh c3];exact⟨λe he=>by cases he;exact anV h1 ok c3,λhe=>by cases he⟩
 rw[jg c3];by_cases c4:p.is [112,117,115,104]=true
 .rw[jh c4];exact⟨λe he=>by cases he;exact apY h0 ok c4,λhe=>by cases he⟩
 rw[jg c4];by_cases c5:p.is [114,101,116,117,114,110]=true
 .rw[jh c5];exact⟨λe he=>by cases he;exact aq8 ok c5,λhe=>by cases he⟩
 rw[jg c5];by_cases c6:p.is [105,102]=true
 .rw[jh c6];exact⟨λe he=>by cases he;exact ajH h1 hb ok c6,λhe=>by cases he⟩
 rw[jg c6];by_cases c7:p.is [101,97,99,104]=true
 .rw[jh c7];exact⟨λe he=>by cases he;exact anb h0 hb n ok c7,λhe=>by cases he⟩
 rw[jg c7];exact⟨(λe he=>by cases he),λ_=>rfl⟩
theorem af6{st:Ps->Option jG×Ps}(hst:∀p,p.Ok s->(∀e,(st p).1=some e->xP s p (e,(st p).2))/\((st p).1=none->(st p).2=p)):∀(n:Nat)(l:List jG)(p0 p:Ps),p.Ok s->(p.en=0->p0.en=0/\∃zs t,qB l zs t/\p0.k.at'+t<=p.k.at')->(pX st n l p).2.Ok s/\((pX st n l p).2.en=0->p0.en=0/\∃zs t,qB (pX st n l p).1 zs t/\p0.k.at'+t<=(pX st n l p).2.k.at')
 |0,l,p0,p,ok,h=>⟨ok,h⟩
 |n+1,l,p0,p,ok,h=>by
  obtain⟨h1,h2⟩:=hst p ok;unfold pX;split
  .rename_i e q he;have e1:(st p).1=some e:=by rw[he]
   have e2:(st p).2=q:=by rw[he]
   obtain⟨o1,g1⟩:=h1 e e1;rw[e2]at o1 g1;refine af6 hst n _ p0 q o1 λen=>?_;obtain⟨a1,t,a2,a3⟩:=g1 en;obtain⟨b1,zs,t0,b2,b3⟩:=h a1;obtain⟨z,F,m1,m2⟩:=a2;exact⟨b1,_,t0+t,adp b2 m1 m2,by have a3:p.k.at'+t<=q.k.at':=a3;omega⟩
  .rename_i q he;have e2:(st p).2=q:=by rw[he]
   have e3:=h2 (by rw[he]);rw[e2]at e3;subst e3;exact⟨ok,h⟩
theorem agh(s:ji):∀d:Nat,Ku s (lZ s d) 0
 |0,p,ok=>⟨ok,λen=>⟨en,[],0,⟨rfl,rfl⟩,by show p.k.at'+0+0<=p.k.at';omega⟩⟩
 |d+1,p,ok=>by
  have h0:=agh s d;have hb:Ku s (oJ s (lZ s d)) 2:=λp ok=>by
   have e1:pO s p (p.jZ s [123]) 1:=LK (by simp);obtain⟨o1,g1⟩:=h0 _ (e1 ok).1;have e2:pO s (lZ s d (p.jZ s [123])).2 ((lZ s d (p.jZ s [123])).2.close s [125]) 1:=LG (by simp);refine⟨(e2 o1).1,λen=>?_⟩;obtain⟨a1,a2⟩:=(e2 o1).2 en;obtain⟨b1,zs,t,b2,b3⟩:=g1 a1;obtain⟨c1,c2⟩:=(e1 ok).2 b1;exact⟨c1,zs,t,b2,by show p.k.at'+t+2<=((lZ s d (p.jZ s [123])).2.close s [125]).k.at';omega⟩
  have hst:=λ(p:Ps)(ok:p.Ok s)=>as3 (p:=p) (TA s (d+1)) (TA s d) hb (s.size+1) ok;obtain⟨o1,g1⟩:=af6 hst (s.size+1) [] p p ok (λen=>⟨en,[],0,⟨rfl,rfl⟩,by omega⟩);refine⟨o1,λen=>?_⟩;obtain⟨a1,zs,t,a2,a3⟩:=g1 en;exact⟨a1,zs,t,a2,by show p.k.at'+t+0<=(pX _ (s.size+1) [] p).2.k.at';omega⟩
theorem ajD(s:ji)(h:(mO s).2.1=0):∃zs t,qB (mO s).1 zs t/\t<=4000/\(oh (mO s).1 ⟨[],0,0⟩).en=0/\lM (mO s).1<=1000000:=by
 unfold mO at h⊢;split at h
 .contradiction
 split at h
 .contradiction
 split at h
 .exact jl h (by decide)
 rename_i h1 h2 h3;rw[jg h1,jg h2,jg h3];have h1:(oC s).2.1=0:=by simpa using h1
 have h2:(qy (oC s).1 ⟨[],0,0⟩).en=0:=by simpa using h2
 show∃zs t,qB (oC s).1 zs t/\t<=4000/\(oh (oC s).1 ⟨[],0,0⟩).en=0/\lM (oC s).1<=1000000;have hp:∃zs t,qB (oC s).1 zs t/\t<=4000:=by
  unfold oC at h1⊢;split at h1
  .exact jl h1 (by decide)
  .rename_i hsz;rw[jg hsz];unfold xB at h1⊢;split at h1
   .rename_i he;rw[jh he];obtain⟨o1,g1⟩:=agh s 21 (xE s) (QB s);have hen:(lZ s 21 (xE s)).2.en=0:=by
     unfold FH at he;split at he
     .exact he
     .exact jl he (Jf _)
    obtain⟨a1,zs,t,a2,a3⟩:=g1 hen;refine⟨zs,t,a2,?_⟩;have b1:=o1.tok.bd;have b2:=o1.tok.yR;have b3:=(QB s).tok.yR;omega
   .rename_i he;exact jl h1 he
 obtain⟨zs,t,q1,q2⟩:=hp;refine⟨zs,t,q1,q2,h2,?_⟩;rw[<-Gj (λx hx=>((H6 q1).pos x hx).1) (by omega)];omega
end
end
section
open Go.RowKit
open Hx (Rd Pk Vw St Mc jJ)
attribute [local go_sem ↓] Go.wp_at_zero Go.wp_at_succ
attribute [local go_sem] kP
def Ez(c n:Int):Int:=(if c<0 then -(c+1)else c)%n
theorem aey{c n:Int}(hn:0<n):0<=Ez c n/\Ez c n<n:=⟨Int.emod_nonneg _ (by omega),Int.emod_lt_of_pos _ hn⟩
theorem VO(w:jk)(c n:Int)(hc:jJ c)(hn:0<n)(hn2:n<=9223372036854775807):
 Calls prog 28 #[Im c,Im n] w λe w'=>e=.returned (Im (Ez c n))/\w'=w:=by
 obtain⟨c0,c1⟩:=hc;have n0:¬n=0:=by omega
 by_cases h:c<0
 .have d:decide (c<0)=true:=dR h;go_enter func28,ntmps28;go_wp2;go_ret;refine⟨zi ?_,rfl⟩;rw[Ez,jh h];first
   |(rw[<-Int.neg_tmod];exact Int.tmod_eq_emod_of_nonneg (by omega))
   |exact Int.tmod_eq_emod_of_nonneg (by omega)
 .have d:decide (c<0)=false:=dO h;go_enter func28,ntmps28;go_wp2;go_ret;refine⟨zi ?_,rfl⟩;rw[Ez,jg (by omega)]
end
section
open Go.RowKit
open Hx (Rd Pk Vw St Mc jJ)
section
structure Raw where
 ar:Option Addr
 af:Option Addr
 aa:Option Addr
 nr:Nat
 cr:Nat
 nf:Nat
 cf:Nat
 na:Nat
 ca:Nat
variable {w wr y:jk}{x:Raw}{vr vf va:jm}{out:List Rd}{fs gs:List Pk}{sn:Array jm}
theorem apd{B k:Nat}{e:jo}{s n:Nat}{v:jm}{xs:List jm}(h:wr.ownsRow B e s v n xs)(hk:k<B):v.ownBlock=none\/v.ownBlock≠some k:=by
 cases hv:v.ownBlock with
 |none=>exact jf rfl
 |some g=>
  right;have:=(h.lt g hv).1;intro e;simp only[bJ]at e;omega
end
end
section
open Go.RowKit
open Hx (Rd Pk Vw St Mc jJ Out)
attribute [local go_sem ↓] Go.wp_at_zero Go.wp_at_succ
attribute [local go_sem] kP
section
variable {w:jk}
theorem aog{C:Nat}{n:Int}(h:w.cell? (Ad C 2)=some (Im n)):
 Calls prog 17 #[Pt C 0] w λe w'=>e=.returned (Im n)/\w'=w:=by
 go_enter func17,ntmps17;go_wp2;go_ret;exact⟨rfl,rfl⟩
theorem aaX(xs:Array jm)(w:jk):∀(is:List Nat),(∀i∈is,∃x:Int,xs[i]? =some (Im x))->(Op.eqItems 9999 3 1 xs xs is).run prog w=.ok true w
 |[],_=>by simp[Op.eqItems]
 |i::is,h=>by
  obtain⟨x,hx⟩:=h i (by simp);have hp:(part 3 xs (i * 1)).run prog w=.ok (Im x) w:=run_part_plain w (by kernel_rfl) (by simpa using hx);simp only[Op.eqItems,Sem.run_bind,hp,Result.andThen_ok,run_equalIn_int w 9998 3 .i64 .i64 x x Tryz.underlying3,beq_self_eq_true,jc,aH,cZ];exact aaX xs w is (λj hj=>h j (by simp[hj]))
theorem aaY(w:jk)(x0 x1 x2 x3 x4 x5 x6 x7:Int):
 (Op.equalIn 10000 26 (.agg #[Im x0,Im x1,Im x2,Im x3,Im x4,Im x5,Im x6,Im x7]) (.agg #[Im x0,Im x1,Im x2,Im x3,Im x4,Im x5,Im x6,Im x7])).run prog w=.ok true w:=by
 obtain⟨i,hi⟩:∃i,prog.info? 3=some i:=Option.isSome_iff_exists.1 (by kernel_rfl);rw[show(10000:Nat)=9999+1 from rfl,run_equalIn_array w 9999 _ _ Tryz.underlying26 hi,show prog.cellsOf 3=1 by kernel_rfl];refine aaX _ w _ λi hi=>?_;have:i<8:=by simpa using hi
 match i,this with
 |0,_=>exact⟨_,rfl⟩
 |1,_=>exact⟨_,rfl⟩
 |2,_=>exact⟨_,rfl⟩
 |3,_=>exact⟨_,rfl⟩
 |4,_=>exact⟨_,rfl⟩
 |5,_=>exact⟨_,rfl⟩
 |6,_=>exact⟨_,rfl⟩
 |7,_=>exact⟨_,rfl⟩
end
end
section
open Go.RowKit
open Hx (Rd Pk Vw St Mc jJ Out Ls)
attribute [local go_sem ↓] Go.wp_at_zero Go.wp_at_succ
attribute [local go_sem] kP
section
variable {w w':jk}
theorem uw.later{B B':Nat}{cb co sb so cap:Nat}{jB:List St}(h:uw B w cb co sb so cap jB)(hb:Below B w w')(hB:B<=B'):uw B' w' cb co sb so cap jB:=by
 have:=h.keep hb;exact⟨by have:=this.GR;omega,by have:=this.F9;omega,this.slice,this.step⟩
theorem yP.later{B B':Nat}{ar af aa:Option Addr}{nr nf na:Nat}{v:Vw}(h:yP B w ar af aa nr nf na v)(hb:Below B w w')(hB:B<=B'):yP B' w' ar af aa nr nf na v:=by
 have h2:=h.keep (w':=w') λx hx=>hb.cell (p:=x) hx;refine⟨h2.pW.mono hB,λi r hr=>?_,λi r hr=>?_,h2.MZ,h2.MW,h2.MV,h2.Ij⟩
 .obtain⟨b,o,e,hb,hp⟩:=h2.qK i r hr;exact⟨b,o,e,by omega,hp⟩
 .obtain⟨b,o,e,hb,hp⟩:=h2.qJ i r hr;exact⟨b,o,e,by omega,hp⟩
theorem vJ.later{B:Nat}(h:vJ w)(hb:Below B w w')(hB:1<B):vJ w':=λj hj=>(hb.cell (p:=(Ad 1 j)) hB).trans (h j hj)
theorem ER.later{C:Nat}{l:Ls}(h:ER w C l)(hb:Below w.heap.size w w'):ER w' C l:=by
 obtain⟨sb,cap,hc⟩:=h.code;exact⟨⟨sb,cap,hc.later hb hb.size⟩,(hb.cell (p:=(Ad C 1)) hc.GR).trans h.jD,(hb.cell (p:=(Ad C 2)) hc.GR).trans h.jC⟩
theorem WY{bs:List UInt8}(h:wU bs=true):bs.length<=100000/\(mG bs).bad=false:=by
 simp only[wU,dD,decide_eq_true_eq,Bool.not_eq_true']at h;exact⟨by omega,by simp[h]⟩
def vX(v:Vw)(bs:List UInt8)(fuel x0 x1 x2 x3 x4 x5 x6 x7:Int):Out:=Cj v (mG bs).jB (mG bs).jD.toNat fuel x0 x1 x2 x3 x4 x5 x6 x7
theorem arV(w:jk)(C:Nat)(bs:List UInt8)(ht:wU bs=true)(hC:ER w C (mG bs))(v:Vw)(ar af aa:Option Addr)(nr cr nf cf na ca:Nat)(x0 x1 x2 x3 x4 x5 x6 x7 fuel:Int)
 (hv:yP w.heap.size w ar af aa nr nf na v)(hT:vJ w)(hone:1<w.heap.size)(hx:∀x∈[x0,x1,x2,x3,x4,x5,x6,x7],jJ x)(hfm:fuel<=9223372036854775807):
 Calls prog 16 #[Pt C 0,.agg #[.slice ar nr cr,.slice af nf cf,.slice aa na ca],.agg #[Im x0,Im x1,Im x2,Im x3,Im x4,Im x5,Im x6,Im x7],Im fuel] w λe w'=>
  ∃va,e=.returned (vk (vX v bs fuel x0 x1 x2 x3 x4 x5 x6 x7).status va (vX v bs fuel x0 x1 x2 x3 x4 x5 x6 x7).jF)/\
   w'.ownsRow w.heap.size 76 2 va (vX v bs fuel x0 x1 x2 x3 x4 x5 x6 x7).jO.length (sD (vX v bs fuel x0 x1 x2 x3 x4 x5 x6 x7).jO)/\Below w.heap.size w w':=by
 obtain⟨hl,hb⟩:=WY ht;have hf:=Hx.Qc bs hl hb;obtain⟨sb,cap,hc⟩:=hC.code;have e:(((mG bs).jD.toNat:Nat):Int)=(mG bs).jD:=by have:=hf.jD;omega
 exact arU w C 0 sb 0 cap (mG bs).jD.toNat (mG bs).jB v ar af aa nr cr nf cf na ca x0 x1 x2 x3 x4 x5 x6 x7 fuel hf.sound.fits (by have:=hf.jD;omega) (by have:=hf.jD;omega) hc (by rw[e];exact hC.jD) hv hT hone hx hfm
theorem Below.Vx(h:w.grownBy w' none):Below w.heap.size w w':=⟨h.os,h.tape,h.output,h.size,λk hk=>h.block k hk (by simp)⟩
structure EP(w W:jk)(o0 o1 o2:Obj):Prop where
 below:Below w.heap.size w W
 b0:W.heap[w.heap.size]? =some o0
 b1:W.heap[w.heap.size+1]? =some o1
 b2:W.heap[w.heap.size+2]? =some o2
theorem ajr(w:jk)(o0 o1 o2:Obj):EP w (((w.alloc o0).alloc o1).alloc o2) o0 o1 o2:=by
 have e:(((w.alloc o0).alloc o1).alloc o2).heap=((w.heap.push o0).push o1).push o2:=rfl;have g:w.grownBy (((w.alloc o0).alloc o1).alloc o2) none:=((ah w _ none).trans (ah _ _ none)).trans (ah _ _ none);refine⟨Below.Vx g,?_,?_,?_⟩;all_goals
  rw[e];simp only[eH,eY];repeat (rw[jg (by omega)])
  exact jh trivial
theorem EP.lt{W:jk}{o0 o1 o2:Obj}(h:EP w W o0 o1 o2):w.heap.size+2<W.heap.size:=lY h.b2
theorem EP.later{W y:jk}{o0 o1 o2:Obj}(h:EP w W o0 o1 o2)(hb:Below W.heap.size W y):EP w y o0 o1 o2:=by
 have:=h.lt;exact⟨h.below.trans (hb.mono (by omega)),(hb.block _ (by omega)).trans h.b0,(hb.block _ (by omega)).trans h.b1,(hb.block _ (by omega)).trans h.b2⟩
theorem aqp(tmps:Array jm)(w:jk)(g:Nat)(v0 v1 v2 v3 v4 v5 v6 v7 v8 v9 b:jm)(h8:tmps[8]? =some (Pt g 0))(h9:tmps[9]? =some b)(h:w.heap[g]? =some (.cells #[v0,v1,v2,v3,v4,v5,v6,v7,v8,v9] 35)):
 (results Tryz.f26 tmps).run prog w=.ok (.tuple #[.agg #[v0,v1,v2,v3,v4,v5,v6,v7,v8,v9],b]) w:=by
 have q0:=jK 0 h rfl;have q1:=jK 1 h rfl;have q2:=jK 2 h rfl;have q3:=jK 3 h rfl;have q4:=jK 4 h rfl;have q5:=jK 5 h rfl;have q6:=jK 6 h rfl;have q7:=jK 7 h rfl;have q8:=jK 8 h rfl;have q9:=jK 9 h rfl;simp[results,Tryz.results26,go_sem,h8,h9,q0,q1,q2,q3,q4,q5,q6,q7,q8,q9]
theorem ase(w:jk)(g:Nat)(T:jo)(a0 a1 a2 a3 a4 a5 a6 a7 a8 a9 v0 v1 v2 v3 v4 v5 v6 v7 v8 v9:jm)(h:w.heap[g]? =some (.cells #[a0,a1,a2,a3,a4,a5,a6,a7,a8,a9] T)):
 ((((((((((w.setCell (Ad g 0) v0).setCell (Ad g 1) v1).setCell (Ad g 2) v2).setCell (Ad g 3) v3).setCell (Ad g 4) v4).setCell (Ad g 5) v5).setCell (Ad g 6) v6).setCell (Ad g 7) v7).setCell (Ad g 8) v8).setCell (Ad g 9) v9).heap[g]? =some (.cells #[v0,v1,v2,v3,v4,v5,v6,v7,v8,v9] T)/\w.grownBy ((((((((((w.setCell (Ad g 0) v0).setCell (Ad g 1) v1).setCell (Ad g 2) v2).setCell (Ad g 3) v3).setCell (Ad g 4) v4).setCell (Ad g 5) v5).setCell (Ad g 6) v6).setCell (Ad g 7) v7).setCell (Ad g 8) v8).setCell (Ad g 9) v9) (some g):=by
 have h0:(w.setCell (Ad g 0) v0).heap[g]? =some (.cells #[v0,a1,a2,a3,a4,a5,a6,a7,a8,a9] T):=aK _ _ _ _ _ _ h;have g0:w.grownBy (w.setCell (Ad g 0) v0) (some g):=nK w g 0 v0;have h1:((w.setCell (Ad g 0) v0).setCell (Ad g 1) v1).heap[g]? =some (.cells #[v0,v1,a2,a3,a4,a5,a6,a7,a8,a9] T):=aK _ _ _ _ _ _ h0;have g1:w.grownBy ((w.setCell (Ad g 0) v0).setCell (Ad g 1) v1) (some g):=g0.trans (nK _ g 1 v1);have h2:(((w.setCell (Ad g 0) v0).setCell (Ad g 1) v1).setCell (Ad g 2) v2).heap[g]? =some (.cells #[v0,v1,v2,a3,a4,a5,a6,a7,a8,a9] T):=aK _ _ _ _ _ _ h1;have g2:w.grownBy (((w.setCell (Ad g 0) v0).setCell (Ad g 1) v1).setCell (Ad g 2) v2) (some g):=g1.trans (nK _ g 2 v2);have h3:((((w.setCell (Ad g 0) v0).setCell (Ad g 1) v1).setCell (Ad g 2) v2).setCell (Ad g 3) v3).heap[g]? =some (.cells #[v0,v1,v2,v3,a4,a5,a6,a7,a8,a9] T):=aK _ _ _ _ _ _ h2;have g3:=g2.trans (nK _ g 3 v3);have h4:(((((w.setCell (Ad g 0) v0).setCell (Ad g 1) v1).setCell (Ad g 2) v2).setCell (Ad g 3) v3).setCell (Ad g 4) v4).heap[g]? =some (.cells #[v0,v1,v2,v3,v4,a5,a6,a7,a8,a9] T):=aK _ _ _ _ _ _ h3;have g4:=g3.trans (nK _ g 4 v4);have h5:((((((w.setCell (Ad g 0) v0).setCell (Ad g 1) v1).setCell (Ad g 2) v2).setCell (Ad g 3) v3).setCell (Ad g 4) v4).setCell (Ad g 5) v5).heap[g]? =some (.cells #[v0,v1,v2,v3,v4,v5,a6,a7,a8,a9] T):=aK _ _ _ _ _ _ h4;have g5:=g4.trans (nK _ g 5 v5)
 have h6:(((((((w.setCell (Ad g 0) v0).setCell (Ad g 1) v1).setCell (Ad g 2) v2).setCell (Ad g 3) v3).setCell (Ad g 4) v4).setCell (Ad g 5) v5).setCell (Ad g 6) v6).heap[g]? =some (.cells #[v0,v1,v2,v3,v4,v5,v6,a7,a8,a9] T):=aK _ _ _ _ _ _ h5;have g6:=g5.trans (nK _ g 6 v6);have h7:((((((((w.setCell (Ad g 0) v0).setCell (Ad g 1) v1).setCell (Ad g 2) v2).setCell (Ad g 3) v3).setCell (Ad g 4) v4).setCell (Ad g 5) v5).setCell (Ad g 6) v6).setCell (Ad g 7) v7).heap[g]? =some (.cells #[v0,v1,v2,v3,v4,v5,v6,v7,a8,a9] T):=aK _ _ _ _ _ _ h6;have g7:=g6.trans (nK _ g 7 v7);have h8:(((((((((w.setCell (Ad g 0) v0).setCell (Ad g 1) v1).setCell (Ad g 2) v2).setCell (Ad g 3) v3).setCell (Ad g 4) v4).setCell (Ad g 5) v5).setCell (Ad g 6) v6).setCell (Ad g 7) v7).setCell (Ad g 8) v8).heap[g]? =some (.cells #[v0,v1,v2,v3,v4,v5,v6,v7,v8,a9] T):=aK _ _ _ _ _ _ h7;have g8:=g7.trans (nK _ g 8 v8);have h9:((((((((((w.setCell (Ad g 0) v0).setCell (Ad g 1) v1).setCell (Ad g 2) v2).setCell (Ad g 3) v3).setCell (Ad g 4) v4).setCell (Ad g 5) v5).setCell (Ad g 6) v6).setCell (Ad g 7) v7).setCell (Ad g 8) v8).setCell (Ad g 9) v9).heap[g]? =some (.cells #[v0,v1,v2,v3,v4,v5,v6,v7,v8,v9] T):=aK _ _ _ _ _ _ h8;have g9:=g8.trans (nK _ g 9 v9);exact⟨h9,g9⟩
theorem ao8(v:Vw)(hok:zZ v=true)(bs:List UInt8)(ht:wU bs=true)(fuel x0 x1 x2 x3 x4 x5 x6 x7:Int):
 Hx.Sn v [x0,x1,x2,x3,x4,x5,x6,x7] (vX v bs fuel x0 x1 x2 x3 x4 x5 x6 x7)/\
 (vX v bs (mG bs).jC x0 x1 x2 x3 x4 x5 x6 x7).status≠2/\
 ((vX v bs fuel x0 x1 x2 x3 x4 x5 x6 x7).status=2->fuel<(mG bs).jC)/\
 ((vX v bs fuel x0 x1 x2 x3 x4 x5 x6 x7).status≠2->vX v bs fuel x0 x1 x2 x3 x4 x5 x6 x7=vX v bs (mG bs).jC x0 x1 x2 x3 x4 x5 x6 x7):=by
 obtain⟨hl,hb⟩:=WY ht;have hg:=YL hok;have hs:v.small:=⟨hg.JF,hg.JE,hg.JD⟩;have hm:Hx.wZ (sH x0 x1 x2 x3 x4 x5 x6 x7 (mG bs).jD.toNat):=⟨by simp[sH],λx hx=>by
  simp[sH]at hx;omega⟩
 obtain⟨h1,h2,h3⟩:=Hx.am1 bs hl hb v hs [x0,x1,x2,x3,x4,x5,x6,x7] _ hm fuel.toNat;have e:∀f:Int,vX v bs f x0 x1 x2 x3 x4 x5 x6 x7=Hx.runs v (mG bs).jB [x0,x1,x2,x3,x4,x5,x6,x7] f.toNat 0 (sH x0 x1 x2 x3 x4 x5 x6 x7 (mG bs).jD.toNat):=λf=>by
  rw[vX,Cj,jh hok]
 have hn:=(Hx.Qc bs hl hb).jC;rw[e,e];refine⟨Hx.afA v _ _ _ _ _ (Hx.ahY v),h1,λh=>?_,h3⟩;have:=h2 h;omega
variable {x:Raw}{x0 x1 x2 x3 x4 x5 x6 x7:Int}
end
end
section
open Go.RowKit Hx
attribute [local go_sem ↓] Go.wp_at_zero Go.wp_at_succ
attribute [local go_sem] kP
section
variable {w w' w1 w2 w3 wr W:jk}{lo hi m b H S g l k:Nat}{u v fv:jm}{e:Ex}{a:Int}{T:jo}{c:Co}{x:Sx}{oG:List jm}
structure Ag(x:Sx)(S g lo hi:Nat)(fv:jm)(oG:List jm)(w wr:jk)(k m:Nat):Prop where
 rest:uS g (x.jE.drop k) wr m hi (oG.drop k)
 set:wr.heap[S]? =some (.cells #[Im x.at',Im x.jw,.string x.base,Im x.of,fv] 348)
 row:wr.heap[g]? =w.heap[g]?
 fk:Fk w wr lo hi
 m1:S<m
 m2:m<=hi
theorem Ag.og{bb:Wd×Ex}(h:Ag x S g lo hi fv oG w wr k m)(hl:∀b∈x.jE,∀a,Lawful (b.2.here a))(hk:x.jE[k]? =some bb)(hlo:lo<=S)(hg:g<hi)(hH:hi<=w.heap.size):
 ∃l m' u,oG[k]? =some u/\m<=l/\l<=m'/\m'<=hi/\bb.2.here bb.2.at' wr l m' u/\∀W3,Fk wr W3 l m'->Ag x S g lo hi fv oG w W3 (k+1) m':=by
 have hlt:k<x.jE.length:=by
  rcases dG k x.jE.length with h1|h1
  .exact h1
  .rw[bV h1]at hk;cases hk
 have hbb:x.jE[k]=bb:=by
  rw[bU hlt]at hk;exact fZ hk
 have hr:=h.rest;rw[dA hlt,hbb]at hr;obtain⟨l,m',u,us',e0,e1,e2,e3,e4,e5,e6⟩:=hr;have hs:=h.fk.size;have hu:oG[k]? =some u:=by
  have:=congrArg (λl=>l[0]?) e0;simpa using this
 have hus:oG.drop (k+1)=us':=by
  have:=congrArg List.tail e0;simpa using this
 refine⟨l,m',u,hu,e1,e2,e3,e5,λW3 hf=>⟨?_,(hf.keep S (by have:=h.m1;have:=h.m2;omega) (jf (by have:=h.m1;omega))).trans h.set,(hf.keep g (by omega) (by omega)).trans h.row,?_,by have:=h.m1;omega,e3⟩⟩
 .rw[hus];exact Fv (λc hc=>hl c (gU hc)) e6 λj j1 j2=>hf.keep j (by omega) (je j1)
 .exact h.fk.trans (hf.wide (by have:=h.m1;omega) e3)
theorem Fk.box{o:Obj}{j:Nat}(h:Fk (w.alloc o) w2 l m):Fk w (w2.setCell (Ad w.heap.size j) u) l m:=by
 have g1:=ah w o none;have g2:=nK w2 w.heap.size j u;have h1:=(Fk.grown (lo:=l) (hi:=m) g1).trans h;exact⟨g2.os.trans h1.os,g2.tape.trans h1.tape,g2.output.trans h1.output,dH h1.size g2.size,λk hk h3=>(g2.block k (by have:=h1.size;omega) (by intro e;cases e;omega)).trans (h1.keep k hk h3)⟩
theorem Ag.grow{row:Option Nat}(h:Ag x S g lo hi fv oG w wr k m)(hl:∀b∈x.jE,∀a,Lawful (b.2.here a))(hg:wr.grownBy W row)(hrow:∀j,row=some j->w.heap.size<=j)(hH:hi<=w.heap.size)(hgh:g<hi):Ag x S g lo hi fv oG w W k m:=by
 have hs:=h.fk.size;have hk:∀j,j<w.heap.size->W.heap[j]? =wr.heap[j]? :=λj hj=>hg.block j (by omega) λe=>by have:=hrow j e.symm;omega
 have O9:=h.m1;have hm2:=h.m2;exact⟨Fv (λc hc=>hl c (gU hc)) h.rest λj j1 j2=>hk j (by omega),(hk S (by omega)).trans h.set,(hk g (by omega)).trans h.row,⟨hg.os.trans h.fk.os,hg.tape.trans h.fk.tape,hg.output.trans h.fk.output,by have:=hg.size;omega,λj j1 j2=>(hk j j1).trans (h.fk.keep j j1 j2)⟩,O9,hm2⟩
theorem WL(h:∀b∈x.jE,nR b.2)(hlen:x.jE.length<=100000)(hh:oW x w lo hi (Pt S 0))(hH:hi<=w.heap.size):
 Calls prog 341 #[Pt S 0] w λen w'=>en=.returned (.tuple #[])/\RD x w' lo hi w.heap.size w'.heap.size S/\Fk w w' lo hi:=by
 have hl:∀b∈x.jE,∀a,Lawful (b.2.here a):=λb hb a=>(h b hb).l7.ok.law a;obtain⟨S',fv,hv,h1,h2,hS,hrow⟩:=hh;cases hv;obtain⟨g,oG,m0,hgh,hR0,EX⟩:∃g oG m0,g<hi/\Ag x S g lo hi fv oG w w 0 m0/\∀(k:Nat)(bb:Wd×Ex)(u:jm),x.jE[k]? =some bb->oG[k]? =some u->(∃cap,fv=.slice (some (Ad g 0)) x.jE.length cap)/\w.cell? (Ad g (k * 3))=some (.string bb.1.text)/\w.cell? (Ad g (k * 3+1))=some (Im bb.1.at')/\w.cell? (Ad g (k * 3+2))=some u:=by
  by_cases hf:x.jE=[]
  .refine⟨S,[],S+1,h2,⟨by rw[hf];rfl,hS,rfl,Fk.refl _ _ _,by omega,by omega⟩,λk bb u hk=>by rw[hf]at hk;simp at hk⟩
  .rcases hrow with⟨h4,_⟩|⟨g,cap,m,us,arr,e1,g1,g2,m1,m2,hbr,hg,harr⟩
   .exact jl h4 hf
   .have hm:m<=hi:=by
     cases hx:x.jE with
     |nil=>exact jl hx hf
     |cons b0 bs=>
      rw[hx]at hbr;obtain⟨l,m',u,us',_,z1,z2,z3,_⟩:=hbr;omega
    refine⟨g,us,m,g2,⟨hbr,hS,rfl,Fk.refl _ _ _,m2,hm⟩,λk bb u hk hu=>⟨⟨cap,e1⟩,?_⟩⟩;obtain⟨z0,z1,z2⟩:=Ot _ us k _ u hk hu;exact⟨(jI hg).trans (harr _ _ z0),(jI hg).trans (harr _ _ z1),(jI hg).trans (harr _ _ z2)⟩
 obtain⟨fa,fc,hfv⟩:∃fa fc,fv=.slice fa x.jE.length fc:=by
  rcases hrow with⟨hf,rfl⟩|⟨g,cap,m,us,arr,rfl,_⟩
  .exact⟨none,0,by rw[hf];rfl⟩
  .exact⟨_,_,rfl⟩
 subst hfv;have c4:w.cell? (Ad S 4)=some (.slice fa x.jE.length fc):=jI hS;have H0:Hid (vH x S w.heap.size m0 w 0 (Nl) [] []/\Ag x S g lo hi (.slice fa x.jE.length fc) oG w w 0 m0):=⟨vH.nil _ _ _ _ _,hR0⟩;have EX:=jA EX;have HF:=jA h;have HL:=jA hl;have HB:=jA (jd h1 (jd h2 (jd hH hgh)));have hSw:S<w.heap.size:=by omega
 clear hS hrow hR0 h hl h1 h2 hH hgh;go_enter func341,ntmps341;go_wp2_with fail;go_loopg [2,10] (x.jE.length+1) (λgg kv i wr=>Hid (∃(k m:Nat)(fs:List (Wd×Ex))(cells:List jm),k+gg=x.jE.length+1/\k<=x.jE.length/\i=Im k/\vH x S w.heap.size m wr k kv fs cells/\Ag x S g lo hi (.slice fa x.jE.length fc) oG w wr k m))
 case atStart=>exact⟨0,m0,[],[],by omega,bD _,rfl,H0.out⟩
 case round=>
  obtain⟨k,m,fs,cells,hk1,hk2,rfl,hK,hR⟩:=hrel.out;clear hrel H0 c4;obtain⟨ka,kc,hkv⟩:=V5 hK.row;subst hkv;obtain⟨b1,b2,b3,b4⟩:=HB.out;by_cases hlt:k<x.jE.length
  .have d1:decide ((k:Int)<(x.jE.length:Int))=true:=by simp;omega
   have i0:(0:Int)<=(k:Int):=by omega
   have i1:(k:Int)<(x.jE.length:Int):=by omega
   obtain⟨bb,hbb⟩:∃bb,x.jE[k]? =some bb:=⟨_,bU hlt⟩;have hQ:=HF.out bb (bT hbb);obtain⟨l,m',u,hu,q1,q2,q3,q4,q5⟩:=hR.og HL.out hbb b1 b4 b3;obtain⟨⟨cap,hcap⟩,z0,z1,z2⟩:=EX.out k bb u hbb hu;cases hcap;obtain⟨T1,a1,rfl,hT1,l1,l2,_⟩:=hQ.l7.ok.head _ _ _ _ _ q4;have hsw:=hR.fk.size;have k0:wr.cell? (Ad g (k * 3))=some (.string bb.1.text):=(bQ hR.row).trans z0;have k1:wr.cell? (Ad g (k * 3+1))=some (Im bb.1.at'):=(bQ hR.row).trans z1;have k2:wr.cell? (Ad g (k * 3+2))=some (.iface T1 (Pt a1 0)):=(bQ hR.row).trans z2;obtain⟨g',hg'⟩:∃g',gk=g'+1:=⟨gk-1,by omega⟩;obtain⟨f1,F5,kM,H1⟩:=hQ.fold _ (wr.alloc (.cells #[.string bb.1.text,Im bb.1.at',.iface T1 (Pt a1 0)] 361)) l m' T1 a1 ((hQ.l7.ok.law _).loc _ _ _ _ _ q4 λj _ j2=>fP _ _ _ (by omega)) (by rw[nX];omega);have kM:∀args w,(callFunc f1 args).run prog w=.ok (.enter f1 args) w:=kM;have H1:=jA H1;have HK:=jA hK;have HR:=jA hR;have II:=jA q5;have HQ:=jA hQ;have NY:=jA hbb;have hgw:g<wr.heap.size:=by omega
   have ng:¬g=wr.heap.size:=by omega
   have hm':m'<=wr.heap.size:=by omega
   clear hK hR q4 q5 hQ hbb hu z0 z1 z2 EX;obtain⟨⟨bt,ba⟩,be⟩:=bb;simp only at k0 k1 k2 H1 HQ II NY;go_wp2_with fail;refine H1.out.mono ?_;rintro en w2 ⟨v',rfl,TW,En⟩;have hbx:w2.heap[wr.heap.size]? =some (.cells #[.string bt,Im ba,.iface T1 (Pt a1 0)] 361):=(En.keep _ (by rw[nX];omega) (je hm')).trans (aY _ _);have c2:w2.cell? (Ad wr.heap.size 2)=some (.iface T1 (Pt a1 0)):=jI hbx;have fz:∀j,w2.frozen? (Ad wr.heap.size j)=false:=λj=>oQ hbx;obtain⟨e',T2,a2,x2,T3,a3,hv',hT2,hin,hge,Az,Jp,_,FQ⟩:=TW;subst hv';have Pm:=aK w2 _ 2 _ _ (.iface T2 (Pt a2 0)) hbx;have e0:(w2.setCell (Ad wr.heap.size 2) (.iface T2 (Pt a2 0))).cell? (Ad wr.heap.size 0)=some (.string bt):=jI Pm;have e1:(w2.setCell (Ad wr.heap.size 2) (.iface T2 (Pt a2 0))).cell? (Ad wr.heap.size 1)=some (Im ba):=jI Pm;have e2:(w2.setCell (Ad wr.heap.size 2) (.iface T2 (Pt a2 0))).cell? (Ad wr.heap.size 2)=some (.iface T2 (Pt a2 0)):=jI Pm;have Ua:∀w',qm (w2.setCell (Ad wr.heap.size 2) (.iface T2 (Pt a2 0))) w' l m' (wr.heap.size+1) w2.heap.size->qm w2 w' l m' (wr.alloc (.cells #[.string bt,Im ba,.iface T1 (Pt a1 0)] 361)).heap.size w2.heap.size:=λw' hw j hj=>by
    rw[nX]at hj;exact(hw j (by omega)).trans (qZ j (by omega))
   have HTc:=jA (UH (FQ _ (Ua _ (qm.refl _ _ _ _ _))).2 true);have hf3:Fk wr (w2.setCell (Ad wr.heap.size 2) (.iface T2 (Pt a2 0))) l m':=Fk.box En;have hs3:(w2.setCell (Ad wr.heap.size 2) (.iface T2 (Pt a2 0))).heap.size=w2.heap.size:=dI ..;have KF:Hid (vH x S w.heap.size m' (w2.setCell (Ad wr.heap.size 2) (.iface T2 (Pt a2 0))) k (.slice ka fs.length kc) fs cells/\Ag x S g lo hi (.slice (some (Ad g 0)) x.jE.length fc) oG w (w2.setCell (Ad wr.heap.size 2) (.iface T2 (Pt a2 0))) (k+1) m'/\zC (S+1) m' w.heap.size (w2.setCell (Ad wr.heap.size 2) (.iface T2 (Pt a2 0))) (Value.slice ka fs.length kc).ownBlock λw lo hi=>e'.here e'.at' w lo hi (.iface T2 (Pt a2 0))):=by
    have O9:=HR.out.m1;refine⟨HK.out.pF (by omega) hf3.size (λj j1 j2=>hf3.keep j (by omega) (jf (by omega))) (λj j1 j2=>hf3.keep j j2 (je (by omega))),II.out _ hf3,l,m',wr.heap.size+1,w2.heap.size,by omega,aj _,by omega,by omega,λgg hgg=>jf (by have:=(HK.out.row.lt gg hgg).2;omega),λw' hw=>(FQ w' (Ua w' hw)).1⟩
   have hww:w.heap.size<=w2.heap.size:=by have:=hf3.size;omega
   have HGE:=jA (jd hge (jd Az Jp));have hfl:fs.length<=100000:=by have:=HK.out.len;omega
   have HO:=jA (λo=>KF.out.1.row.alloc o);have HAdd:Hid (be.does.fd.lq true=false->∀(o:Obj)(y:jk)(gg cap:Nat),((w2.setCell (Ad wr.heap.size 2) (.iface T2 (Pt a2 0))).alloc o).grownBy y (Value.slice ka fs.length kc).ownBlock->y.ownsRow w.heap.size 361 3 (.slice (some (Ad gg 0)) (fs.length+1) cap) (fs.length+1) (cells++[.string bt,Im ba,.iface T2 (Pt a2 0)])->((Value.slice ka fs.length kc).ownBlock=some gg\/gg=w2.heap.size+1)->
    vH x S w.heap.size m' y (k+1) (.slice (some (Ad gg 0)) (fs.length+1) cap) (fs++[(⟨bt,ba⟩,e')]) (cells++[.string bt,Im ba,.iface T2 (Pt a2 0)])/\Ag x S g lo hi (.slice (some (Ad g 0)) x.jE.length fc) oG w y (k+1) m'):=λht o y gg cap hgr hown hat=>by
    obtain⟨n1,n2,n3⟩:=KF.out;have ga:=ah (w2.setCell (Ad wr.heap.size 2) (.iface T2 (Pt a2 0))) o none;have O9:=HR.out.m1;have hk:=n1.pF (aj _) ga.size (λj j1 j2=>ga.block j (by omega) (by simp)) (λj j1 j2=>ga.block j j2 (by simp));have hh:=n3.later (own':=(Value.slice ka fs.length kc).ownBlock) (aj _) ga.size (λj j1 j2=>ga.block j (by omega) (by simp)) (λj j1 j2 _=>ga.block j j2 (by simp)) (jf rfl);refine⟨hk.add NY.out ht hgr (by rw[nX];omega) (by omega) hown hat (by rw[nX];omega) hge Az Jp hh,?_⟩;have Vo:=n2.grow HL.out ga (λj hj=>by cases hj) b3 b4;exact Vo.grow HL.out hgr (λj hj=>(hk.row.lt j hj).1) b3 b4
   have hcb:=HQ.out.l7.ok.jw;have KN:Hid (be.does.fd.lq true=true->vH x S w.heap.size m' (w2.setCell (Ad wr.heap.size 2) (.iface T2 (Pt a2 0))) (k+1) (.slice ka fs.length kc) fs cells/\Ag x S g lo hi (.slice (some (Ad g 0)) x.jE.length fc) oG w (w2.setCell (Ad wr.heap.size 2) (.iface T2 (Pt a2 0))) (k+1) m'):=λht=>⟨KF.out.1.skip NY.out hcb.1 ht,KF.out.2.1⟩;obtain⟨PL,hi0,hz0,hz1,hz2⟩:=info_parts ach;have FN:wr.heap.size<w2.heap.size:=lY hbx;clear En hbx Pm Ua FQ hf3 KF hge Az Jp HGE HK HR II HQ NY H1 kM F5 hin hcb k0 k1 k2;generalize alg:fs.length=fl at *;cases hT:be.does.fd.lq true with
   |true=>
    rw[hT]at HTc;have wW:=jA (KN.out hT);clear KN HAdd HO;go_wp2_with fail;refine HTc.out.mono ?_;rintro en w4 ⟨rfl,rfl⟩;go_wp2_with fail;go_roundg g'
    case measure=>omega
    case rel=>exact⟨k+1,m',fs,cells,by omega,by omega,by go_num,wW.out⟩
   |false=>
    rw[hT]at HTc;have wW:=jA (HAdd.out hT);clear KN HAdd;go_wp2_with fail;refine HTc.out.mono ?_;rintro en w4 ⟨rfl,rfl⟩;generalize hW3:w2.setCell (Ad wr.heap.size 2) (.iface T2 (Pt a2 0))=w3 at *;clear hW3 c2 fz;have auT:w.heap.size<=w3.heap.size:=by omega
    have HS3:=jA hs3;clear hs3 FN hww;go_wp2_with (at_builtin;refine wpList_append_lies _ rfl _ _ 346 rfl w.heap.size 361 PL _ 3 40 Tryz.underlying346 hi0 hz0 hz1 hz2 rfl (by decide) (.slice ka fl kc) fl cells rfl (HO.out _) (Ad w3.heap.size 0) 1 1 [.string bt,Im ba,.iface T2 (Pt a2 0)] rfl rfl (fM (cs:=#[.string bt,Im ba,.iface T2 (Pt a2 0)]) (t:=361) (fr:=(0,0)) (aY w3 _)) (by simp[Value.oneCell']) (by decide) (by unfold maxLen;omega) (by omega) (by simp;omega) (w3.heap.size+1) (by simp) ?_;intro gg cap w5 hown hgr hat hlt2);have KG:=jA (wW.out _ _ _ _ hgr hown (by rw[<-HS3.out];exact hat));clear hgr hown hat wW HO;go_wp2_with fail;go_roundg g'
    case measure=>omega
    case rel=>exact⟨k+1,m',_,_,by omega,by omega,by go_num,KG.out⟩
  .have d1:decide ((k:Int)<(x.jE.length:Int))=false:=by simp;omega
   have hke:k=x.jE.length:=by omega
   subst hke;have hSr:=hR.set;have d4:wr.cell? (Ad S 4)=some (.slice fa x.jE.length fc):=jI hSr;have fz:∀j,wr.frozen? (Ad S j)=false:=λj=>oQ hSr;have HE:Hid (RD x (wr.setCell (Ad S 4) (.slice ka fs.length kc)) lo hi w.heap.size (wr.setCell (Ad S 4) (.slice ka fs.length kc)).heap.size S/\Fk w (wr.setCell (Ad S 4) (.slice ka fs.length kc)) lo hi):=
    ⟨hK.done b1 b2 hR.m2 b3 hR.fk.size hSr,hR.fk.trans (Fk.set b1 b2)⟩
   clear hK hR EX HF HL hSr HB;generalize fs.length=fl at *;go_wp2_with fail;go_end0;exact⟨rfl,HE.out⟩
end
section
variable {w w' w1 w2 w3 wr W:jk}{lo hi m b H S g l k:Nat}{u v fv:jm}{e:Ex}{a:Int}{T:jo}{c:Co}{x:Sx}
theorem aia{fs fs':List (Wd×Ex)}(h:yN fs fs')(what base:ji):Dc what base fs=Dc what base fs':=by
 funext c into
 unfold Dc;rw[aa4 h]
theorem an4{fs:List (Wd×Ex)}{e':Ex}(h:yN fs x.fold)(hg:e'.does.give=e.does.fd.give)(kind:Int)(what:ji)(t:Wd):(yE kind what x (t,e)).fd.give=(yE kind what {x with jE:=fs} (t,e')).give:=by
 funext c into
 simp only[yE];rw[aeg h,ack (d:=e'.does) (d':=e.does.fd.dn) rfl hg]
theorem TV{N:Nat}(h:rD N nR x):rD N kC x:=⟨h.of,λb hb=>(h.all b hb).l7,h.len,h.jw,h.sum⟩
theorem TN{N:Nat}(hN:N<=100000)(h:rD N nR x)(hk:x.jw<=1000000){fs:List (Wd×Ex)}(h2:∀b∈fs,kC b.2)(h3:(fs.map λb=>1+b.2.jw).sum<=(x.jE.map λb=>1+b.2.jw).sum)(h4:fs.length<=x.jE.length):wG {x with jE:=fs}:=
 ⟨h2,λb hb=>(h2 b hb).ok.jw.1,by have:=h.sum hk;show 1+(fs.map λb=>1+b.2.jw).sum<=x.jw;omega,hk,by have:=h.len;show fs.length<=100000;omega⟩
theorem aib{N:Nat}(hN:N<=100000)(h:rD N nR x)(kind:Int)(what:ji):nR (xR kind what x):=by
 refine⟨ZI hN (TV h) kind what,?_⟩;rintro a w lo hi T b ⟨b',us,hv,h1,h2,⟨u,rfl,hu⟩,hb⟩ hH;cases hv;obtain⟨S,fv,rfl,_⟩:=id hu;have c4:w.cell? (Ad b 4)=some (Pt S 0):=jI hb;have H1:=jA (WL h.all (by have:=h.len;omega) hu (by omega));have HB:=jA hb;refine⟨391,λw=>by kernel_rfl,λargs w=>by kernel_rfl,?_⟩;clear hu hb;go_enter func391,ntmps391;go_wp2_with fail;refine H1.out.mono ?_;rintro en w1 ⟨rfl,hF,hK⟩;have HE:Hid (mJ (xR kind what x).does.fd (xR kind what x).jw w1 lo hi w.heap.size w1.heap.size (.iface 410 (Pt b 0))/\Fk w w1 lo hi):=by
  have hb1:=(hK.keep b (by omega) (je (aj _))).trans HB.out;have s1:=hK.size;obtain⟨fs,e1,e2,e3,e4,e5,e6,e7⟩:=hF;refine⟨⟨_,_,b,rF,0,0,rfl,by simp[lU],jf ⟨h1,h2⟩,SH (x:={x with jE:=fs}) e2 kind a (jR [x.jw]) what (qj h.jw) (λhk=>?_) {give:=(xR kind what x).does.fd.give} ?_,rfl,aV _,λh=>jl h (by show¬(0:Int)=3;decide),λw' ha=>⟨?_,Ia rfl (by unfold yL;decide)⟩⟩,hK.wide (aj _) (by omega)⟩
  .have hp:=yG h.jw.1 h.jw.2 hk;exact⟨TN hN h (by omega) e2 e3 e4,by show 1+x.jw<=_;omega⟩
  .show Dc what x.base x.fold=Dc what x.base fs;exact(aia e1 _ _).symm
  .exact⟨b,_,rfl,h1,by omega,⟨_,rfl,e7 w' (ha.less (aj _) (by omega) (aj _) (aj _))⟩,(ha b (jf ⟨h1,h2⟩)).trans hb1⟩
 clear hF hK H1 HB;go_wp2_with fail;go_ret;exact⟨_,rfl,HE.out⟩
theorem an5{N:Nat}(hN:N<=100000)(h:rD N nR x)(kind:Int)(what:ji)(t:Wd)(he:nR e):nR (uY kind what x (t,e)):=by
 have ec:=he.l7.ok.jw;refine⟨adz hN (TV h) kind what t he.l7,?_⟩;rintro a w lo hi T b ⟨b',us,hv,h1,h2,⟨m,u,v,rfl,m1,m2,hu,hv2⟩,hb⟩ hH;cases hv;obtain⟨S,fv,rfl,_⟩:=id hu;obtain⟨T1,b1,rfl,hT1,l1,l2,_⟩:=he.l7.ok.head _ _ _ _ _ hv2;obtain⟨tt,ta⟩:=t;have c4:w.cell? (Ad b 4)=some (Pt S 0):=jI hb;have H1:=jA (WL h.all (by have:=h.len;omega) hu (by omega));have HB:=jA hb;have HV:=jA hv2;refine⟨394,λw=>by kernel_rfl,λargs w=>by kernel_rfl,?_⟩;have hbw:b<w.heap.size:=by omega
 clear hu hb hv2;go_enter func394,ntmps394;go_wp2_with fail;refine H1.out.mono ?_;rintro en w1 ⟨rfl,hF,hK⟩;have s1:=hK.size;have hb1:=(hK.keep b hbw (je (by omega))).trans HB.out;have d7:w1.cell? (Ad b 7)=some (.iface T1 (Pt b1 0)):=jI hb1;obtain⟨f1,F5,kM,H2⟩:=he.fold _ w1 m b T1 b1 ((he.l7.ok.law _).loc _ _ _ _ _ HV.out λj j1 j2=>hK.keep j (by omega) (je j1)) (by omega);have kM:∀args w,(callFunc f1 args).run prog w=.ok (.enter f1 args) w:=kM;have H2:=jA H2;have HS:=jA (jd hF (jd hK hb1));clear hF hK hb1 HB HV H1;go_wp2_with fail;refine H2.out.mono ?_;rintro en w2 ⟨v',rfl,hF2,hK2⟩;obtain⟨hF,hK,hb1⟩:=HS.out;have s2:=hK2.size;have hb2:=(hK2.keep b (by omega) (je (aj _))).trans hb1;have e7:w2.cell? (Ad b 7)=some (.iface T1 (Pt b1 0)):=jI hb2;have fz:∀j,w2.frozen? (Ad b j)=false:=λj=>oQ hb2;obtain⟨e',T2,b2,_,_,_,hv2,q1,q2,q3,q4,q5,_,q6⟩:=hF2;subst hv2;have HE:Hid (mJ (uY kind what x (⟨tt,ta⟩,e)).does.fd (uY kind what x (⟨tt,ta⟩,e)).jw (w2.setCell (Ad b 7) (.iface T2 (Pt b2 0))) lo hi w.heap.size (w2.setCell (Ad b 7) (.iface T2 (Pt b2 0))).heap.size (.iface 413 (Pt b 0))/\Fk w (w2.setCell (Ad b 7) (.iface T2 (Pt b2 0))) lo hi):=by
  have hb3:=aK w2 _ 7 _ _ (.iface T2 (Pt b2 0)) hb2;have g3:=nK w2 b 7 (.iface T2 (Pt b2 0));have s3:(w2.setCell (Ad b 7) (.iface T2 (Pt b2 0))).heap.size=w2.heap.size:=dI ..;have rc:=uo (x:=x) ec;obtain⟨fs,e1,e2,e3,e4,e5,e6,e7⟩:=hF;refine⟨⟨_,_,b,rF,0,0,rfl,by simp[lU],jf ⟨h1,h2⟩,ady (x:={x with jE:=fs}) e2 h.jw kind a (jR [x.jw,x.round e.jw]) what ⟨tt,ta⟩ q3 (rG h.jw rc) (λhk=>?_) {give:=(uY kind what x (⟨tt,ta⟩,e)).does.fd.give} ?_,rfl,aV _,λh=>jl h (by show¬(0:Int)=3;decide),λw' ha=>⟨?_,Ia rfl (by unfold yL;decide)⟩⟩,((hK.wide (aj _) (by omega)).trans (hK2.wide (by omega) (by omega))).trans (Fk.set h1 h2)⟩
  .have hp:=zU h.jw.1 h.jw.2 rc.1 rc.2 hk;have hg:=NG (x:=x) ec.1 (by have:=h.jw;omega);exact⟨TN hN h (by have:=h.jw;omega) e2 e3 e4,by have:=h.jw;omega,by show 2+x.jw+_<=_;omega⟩
  .exact an4 e1 q4 kind what ⟨tt,ta⟩
  .have hag:∀j,j≠b->(lo<=j/\j<hi)\/(w.heap.size<=j/\j<w2.heap.size)->w'.heap[j]? =w2.heap[j]? :=λj hj hk=>(ha j (by omega)).trans (qZ j hj);refine⟨b,_,rfl,h1,by omega,⟨_,_,rfl,?_,?_⟩,(ha b (jf ⟨h1,h2⟩)).trans hb3⟩
   .refine(Gf λb hb a=>(e2 b hb).ok.law a).wide _ _ _ _ _ _ (e7 w' λj hj=>?_) (aj _) (by omega);exact(hag j (by omega) (by omega)).trans (hK2.keep j (by omega) (by omega))
   .exact(q3.ok.law _).wide _ _ _ _ _ _ (q6 w' λj hj=>hag j (by omega) (by omega)).1 (by omega) (by omega)
 clear hF hK hb1 hb2 hK2 q1 q2 q3 q4 q5 q6 H2 HS;go_wp2_with fail;go_ret;exact⟨_,rfl,HE.out⟩
theorem akE(N:Nat)(hN:N<=100000):CV N nR nR where
 jw:=λ_ h=>h.l7.ok.jw
 number:=aox
 kW:=λa b=>Xa (Rn a 2 b)
 none:=Xa F7
 register:=aqN
 use:=atO
 widen:=λ_ a h=>atV h a
 isNone:=λa _ h=>amj h a
 minus:=λa sign _ _ h=>ad6 h a 1 sign
 not:=λa sign _ _ h=>ad6 h a 2 sign
 two:=λa sign _ _ h k=>atB h k a _ sign
 property:=λa _ t h=>apL h a _ _ t
 Qp:=λa _ _ h k=>aoH h k a
 Le:=λk what _ h=>aib hN h k what
 FX:=λk what _ b h hb=>an5 hN h k what b.1 hb
theorem akt(s:ji)(hs:s.size<=4000)(d:Nat)(p:Ps):nR (kT s d p).1:=
 OJ s (λ_=>nR) (Xa F7) (λ_=>akE (s.size+1) (by omega)) d p
end
end
end Go.Proofs.YthllhabjfchgiaaGreatDoor
