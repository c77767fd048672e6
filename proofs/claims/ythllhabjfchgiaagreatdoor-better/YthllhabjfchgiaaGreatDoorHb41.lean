import Derived.Test.YthllhabjfchgiaaGreatDoorHb40
import Derived.Test.YthllhabjfchgiaaGreatDoorHb09
import Derived.ChangeKeysEq
set_option maxRecDepth 100000
set_option maxHeartbeats 8000000
set_option linter.unusedSimpArgs false
namespace Go.Proofs.YthllhabjfchgiaaGreatDoor
open _root_.Go.Proofs.Tryz
section
open Go.RowKit Hx
section
variable {s:jm}{ex ex':Ps->Ex×Ps}{jL:Ps->List jK×Ps}{p q:Ps}
def Kq(s:jm)(jL:Ps->List jK×Ps)(k:Int):Prop:=∀p,p.Ok s->(jL p).2.Ok s/\((jL p).2.en=0->p.en=0/\∃zs t,qX (jL p).1 zs t/\p.k.at'+t+k<=(jL p).2.k.at')
def xB(s:jm)(p:Ps)(r:jK×Ps):Prop:=r.2.Ok s/\(r.2.en=0->p.en=0/\∃t,QS t r.1/\p.k.at'+t<=r.2.k.at')
theorem xB.of{r:jK×Ps}{t:Int}(ok:p.Ok s)(h:nP s p r.2 t)(hq:QS t r.1):xB s p r:=⟨(h ok).1,λe=>⟨((h ok).2 e).1,t,hq,((h ok).2 e).2⟩⟩
theorem QS.less{t t':Int}{x:jK}(h:QS t x)(ht:t<=t'):QS t' x:=by
 obtain⟨z,F,h1,h2⟩:=h;have a1:=h2.tok;have a2:=h2.wide;have a3:=h2.jM;exact⟨z,F,h1,⟨by omega,⟨a2.1,by omega⟩,⟨a3.1,by omega⟩,h2.jD,h2.jy,h2.all⟩⟩
theorem Uh(h:sU s ex)(ok:p.Ok s):∃t,QX t (pF s ex p).1/\nP s p (pF s ex p).2 (t+2):=by
 obtain⟨t,q1,q2⟩:=h (p.expect s [61]) (ok.expect [61]);exact⟨t,q1,(((Ec (by simp)).trans q2).trans (Ec (by simp))).less (by omega)⟩
theorem amU(h:sU s ex)(ok:p.Ok s)(ht:p.is [118,97,114]=true):xB s p (Ez s ex p):=by
 obtain⟨t,q1,q2⟩:=Uh h (p:=((p.next s).name s).2) ok.next.name;exact xB.of ok ((((rJ (qK (by simp) ht)).trans LD).trans q2).less (t':=t+3) (by omega)) (amZ q1 _ _)
theorem aqp(h:sU s ex)(ok:p.Ok s):xB s p (EO s ex p):=by
 obtain⟨t,q1,q2⟩:=Uh h (p:=(p.name s).2) ok.name;exact xB.of ok ((LD.trans q2).less (t':=t+3) (by omega)) (aqv q1 _)
theorem aq2(h:sU s ex)(ok:p.Ok s)(hk:p.k.kind=4):xB s p (EP s ex p):=by
 obtain⟨t,q1,q2⟩:=Uh h (p:=p.next s) ok.next;obtain⟨x,k1,k2,k3⟩:=ok.kinds.register hk;refine xB.of ok (((rJ (J5 (by simp) k1)).trans q2).less (t':=t+3) (by omega)) (aq6 q1 _ _ ?_);rw[k1];show 0<=((x.toNat:Int)-48)/\((x.toNat:Int)-48)<8;omega
theorem aoX(h:sU s ex')(ok:p.Ok s)(ht:p.is [112,117,115,104]=true):xB s p (ED s ex' p):=by
 have o1:=ok.next.jW [40];obtain⟨t,q1,q2⟩:=h _ o1;have o2:=((q2 o1).1).expect [44];obtain⟨t',r1,r2⟩:=h _ o2;exact xB.of ok (((((rJ (qK (by simp) ht)).trans (LG (by simp))).trans (q2.trans (Ec (by simp)))).trans (r2.trans ((Lu (by simp)).trans (Ec (by simp))))).less (t':=t+t'+3) (by omega)) (ao1 q1 r1 _)
theorem apN(ok:p.Ok s)(ht:p.is [114,101,116,117,114,110]=true):xB s p (EI s p):=
 xB.of ok (((rJ (qK (by simp) ht)).trans (Ec (by simp))).less (t':=2) (by omega)) (apS _)
theorem aiM(h:sU s ex)(hb:Kq s jL 2)(ok:p.Ok s)(ht:p.is [105,102]=true):xB s p (yP s ex jL p):=by
 obtain⟨te,q1,q2⟩:=h (p.next s) ok.next;have e1:nP s p (ex (p.next s)).2 (1+te):=(rJ (qK (by simp) ht)).trans q2;obtain⟨o1,g1⟩:=e1 ok;obtain⟨o2,g2⟩:=hb _ o1;unfold yP;simp only;split
 .rename_i hel;obtain⟨o3,g3⟩:=hb _ o2.next;refine⟨o3,λen=>?_⟩;obtain⟨n1,zn,tn,n2,n3⟩:=g3 en;obtain⟨y1,zy,ty,y2,y3⟩:=g2 n1;obtain⟨x1,x2⟩:=g1 y1;have:=Gi o2;have hz:=qK (q:=(jL (ex (p.next s)).2).2) (by simp) hel;exact⟨x1,te+ty+tn+3,aaj q1 y2 n2 _,by show p.k.at'+(te+ty+tn+3)<=(jL ((jL (ex (p.next s)).2).2.next s)).2.k.at';omega⟩
 .refine⟨o2,λen=>?_⟩;obtain⟨y1,zy,ty,y2,y3⟩:=g2 en;obtain⟨x1,x2⟩:=g1 y1;exact⟨x1,te+ty+0+3,aaj q1 y2 (show qX [] [] 0 from⟨rfl,rfl⟩) _,by show p.k.at'+(te+ty+0+3)<=(jL (ex (p.next s)).2).2.k.at';omega⟩
theorem amG(h:sU s ex')(hb:Kq s jL 2)(n:Nat)(ok:p.Ok s)(ht:p.is [101,97,99,104]=true):xB s p (Dl s jL ex' n p):=by
 have e1:nP s p (((p.next s).name s).2.expect s [105,110]) 3:=(((rJ (qK (by simp) ht)).trans LD).trans (Ec (by simp))).less (by omega);have o1:=(e1 ok).1;unfold Dl;simp only;have okx:(mZ s ex' n (((p.next s).name s).2.expect s [105,110])).2.Ok s:=by
  rcases Q8 h n o1 with⟨ts,_,h2⟩|⟨_,h2⟩
  .exact(h2 o1).1
  .rw[h2];exact o1.fail
 cases hfl:(mZ s ex' n (((p.next s).name s).2.expect s [105,110])).1.2 with
 |true=>
  simp only[dM];obtain⟨o2,g2⟩:=hb _ okx.fail;exact⟨o2,λen=>jq (g2 en).1 (Eh _)⟩
 |false=>
  simp only[aH,cZ];obtain⟨o2,g2⟩:=hb _ okx;refine⟨o2,λen=>?_⟩;obtain⟨l1,zb,tl,l2,l3⟩:=g2 en;rcases Q8 h n o1 with⟨ts,x1,x2⟩|⟨_,h2⟩
  .rw[hfl]at x2;simp only[aH,cZ]at x2;obtain⟨y1,y2⟩:=(x2 o1).2 l1;obtain⟨w1,w2⟩:=(e1 ok).2 y1;exact⟨w1,ts+tl+4,amN x1 l2 _ _,by show p.k.at'+(ts+tl+4)<=(jL (mZ s ex' n (((p.next s).name s).2.expect s [105,110])).2).2.k.at';omega⟩
  .rw[h2]at l1;exact jq l1 (Eh _)
theorem aqU(h1:sU s ex)(h0:sU s ex')(hb:Kq s jL 2)(n:Nat)(ok:p.Ok s):(∀e,(uJ s ex jL ex' n p).1=some e->xB s p (e,(uJ s ex jL ex' n p).2))/\((uJ s ex jL ex' n p).1=none->(uJ s ex jL ex' n p).2=p):=by
 unfold uJ;by_cases c1:p.k.kind=2
 .rw[jl c1];exact⟨λe he=>by cases he;exact aqp h1 ok,λhe=>by cases he⟩
 rw[jk c1];by_cases c2:p.k.kind=4
 .rw[jl c2];exact⟨λe he=>by cases he;exact aq2 h1 ok c2,λhe=>by cases he⟩
 rw[jk c2];by_cases c3:p.is [118,97,114]=true
 .rw[jl c3];exact⟨λe he=>by cases he;exact amU h1 ok c3,λhe=>by cases he⟩
 rw[jk c3];by_cases c4:p.is [112,117,115,104]=true
 .rw[jl c4];exact⟨λe he=>by cases he;exact aoX h0 ok c4,λhe=>by cases he⟩
 rw[jk c4];by_cases c5:p.is [114,101,116,117,114,110]=true
 .rw[jl c5];exact⟨λe he=>by cases he;exact apN ok c5,λhe=>by cases he⟩
 rw[jk c5];by_cases c6:p.is [105,102]=true
 .rw[jl c6];exact⟨λe he=>by cases he;exact aiM h1 hb ok c6,λhe=>by cases he⟩
 rw[jk c6];by_cases c7:p.is [101,97,99,104]=true
 .rw[jl c7];exact⟨λe he=>by cases he;exact amG h0 hb n ok c7,λhe=>by cases he⟩
 rw[jk c7];exact⟨(λe he=>by cases he),λ_=>rfl⟩
theorem afx{st:Ps->Option jK×Ps}(hst:∀p,p.Ok s->(∀e,(st p).1=some e->xB s p (e,(st p).2))/\((st p).1=none->(st p).2=p)):∀(n:Nat)(l:List jK)(p0 p:Ps),p.Ok s->(p.en=0->p0.en=0/\∃zs t,qX l zs t/\p0.k.at'+t<=p.k.at')->(pR st n l p).2.Ok s/\((pR st n l p).2.en=0->p0.en=0/\∃zs t,qX (pR st n l p).1 zs t/\p0.k.at'+t<=(pR st n l p).2.k.at')
 |0,l,p0,p,ok,h=>⟨ok,h⟩
 |n+1,l,p0,p,ok,h=>by
  obtain⟨h1,h2⟩:=hst p ok;unfold pR;split
  .rename_i e q he;have e1:(st p).1=some e:=by rw[he]
   have e2:(st p).2=q:=by rw[he]
   obtain⟨o1,g1⟩:=h1 e e1;rw[e2]at o1 g1;refine afx hst n _ p0 q o1 λen=>?_;obtain⟨a1,t,a2,a3⟩:=g1 en;obtain⟨b1,zs,t0,b2,b3⟩:=h a1;obtain⟨z,F,m1,m2⟩:=a2;exact⟨b1,_,t0+t,ac2 b2 m1 m2,by have a3:p.k.at'+t<=q.k.at':=a3;omega⟩
  .rename_i q he;have e2:(st p).2=q:=by rw[he]
   have e3:=h2 (by rw[he]);rw[e2]at e3;subst e3;exact⟨ok,h⟩
theorem afG(s:jm):∀d:Nat,Kq s (oH s d) 0
 |0,p,ok=>⟨ok,λen=>⟨en,[],0,⟨rfl,rfl⟩,by show p.k.at'+0+0<=p.k.at';omega⟩⟩
 |d+1,p,ok=>by
  have h0:=afG s d;have hb:Kq s (xZ s (oH s d)) 2:=λp ok=>by
   have e1:nP s p (p.jW s [123]) 1:=LG (by simp);obtain⟨o1,g1⟩:=h0 _ (e1 ok).1;have e2:nP s (oH s d (p.jW s [123])).2 ((oH s d (p.jW s [123])).2.close s [125]) 1:=Lu (by simp);refine⟨(e2 o1).1,λen=>?_⟩;obtain⟨a1,a2⟩:=(e2 o1).2 en;obtain⟨b1,zs,t,b2,b3⟩:=g1 a1;obtain⟨c1,c2⟩:=(e1 ok).2 b1;exact⟨c1,zs,t,b2,by show p.k.at'+t+2<=((oH s d (p.jW s [123])).2.close s [125]).k.at';omega⟩
  have hst:=λ(p:Ps)(ok:p.Ok s)=>aqU (p:=p) (TR s (d+1)) (TR s d) hb (s.size+1) ok;obtain⟨o1,g1⟩:=afx hst (s.size+1) [] p p ok (λen=>⟨en,[],0,⟨rfl,rfl⟩,by omega⟩);refine⟨o1,λen=>?_⟩;obtain⟨a1,zs,t,a2,a3⟩:=g1 en;exact⟨a1,zs,t,a2,by show p.k.at'+t+0<=(pR _ (s.size+1) [] p).2.k.at';omega⟩
theorem aiH(s:jm)(h:(lV s).2.1=0):∃zs t,qX (lV s).1 zs t/\t<=4000/\(oG (lV s).1 ⟨[],0,0⟩).en=0/\lQ (lV s).1<=1000000:=by
 unfold lV at h⊢;split at h
 .contradiction
 split at h
 .contradiction
 split at h
 .exact jq h (by decide)
 rename_i h1 h2 h3;rw[jk h1,jk h2,jk h3];have h1:(mY s).2.1=0:=by simpa using h1
 have h2:(qC (mY s).1 ⟨[],0,0⟩).en=0:=by simpa using h2
 show∃zs t,qX (mY s).1 zs t/\t<=4000/\(oG (mY s).1 ⟨[],0,0⟩).en=0/\lQ (mY s).1<=1000000;have hp:∃zs t,qX (mY s).1 zs t/\t<=4000:=by
  unfold mY at h1⊢;split at h1
  .exact jq h1 (by decide)
  .rename_i hsz;rw[jk hsz];unfold uI at h1⊢;split at h1
   .rename_i he;rw[jl he];obtain⟨o1,g1⟩:=afG s 21 (vT s) (QI s);have hen:(oH s 21 (vT s)).2.en=0:=by
     unfold yS at he;split at he
     .exact he
     .exact jq he (Eh _)
    obtain⟨a1,zs,t,a2,a3⟩:=g1 hen;refine⟨zs,t,a2,?_⟩;have b1:=o1.tok.bd;have b2:=o1.tok.oQ;have b3:=(QI s).tok.oQ;omega
   .rename_i he;exact jq h1 he
 obtain⟨zs,t,q1,q2⟩:=hp;refine⟨zs,t,q1,q2,h2,?_⟩;rw[<-Gu (λx hx=>((Ig q1).pos x hx).1) (by omega)];omega
end
end
section
open Go.RowKit
def Qi:jm:=⟨#[112,117,115,104,40,82,79,65,68,83,46,102,105,114,115,116,44,32,70,82,69,83,72,46,102,105,114,115,116,41,59,32,82,49,32,61,32,50,59]⟩
def Aj:jm:=strOfNums [21,16,0,24,16,16,21,18,2,24,18,18,36,16,18,6,2,4,0]
theorem amk:zW Qi=(Aj,0,0):=by decide+kernel
theorem aiZ(w:jo):Calls prog 12 #[.string Qi,.bool false] w λe w'=>e=.returned (.tuple #[.string Aj,Im 0,Im 0])/\w.grownBy w' none:=by
 have h:=aar Qi w;rw[amk]at h;exact h
end
section
open Go.RowKit
open Hx (Rd Pk Vw St Mc jO)
section
def aeP(l:List Rd):List jr:=l.flatMap λr=>[Im r.id,Im r.Iw,Im r.Hg,Im r.out,.bool r.Na]
def QC(l:List Pk):List jr:=l.flatMap λp=>[Im p.seq,Im p.size,Im p.on]
def IJ(u v:jr):Prop:=∀k,u.ownBlock=some k->v.ownBlock=some k->False
theorem IJ.symm{u v:jr}(h:IJ u v):IJ v u:=λk a b=>h k b a
structure Raw where
 ar:Option Addr
 af:Option Addr
 aa:Option Addr
 nr:Nat
 cr:Nat
 nf:Nat
 cf:Nat
 na:Nat
 ca:Nat
structure KY(w wr:jo)(x:Raw)(vr vf va:jr)(out:List Rd)(fs gs:List Pk)(sn:Array jr):Prop where
 below:Below w.heap.size w wr
 size:w.heap.size+4<=wr.heap.size
 b0:wr.heap[w.heap.size]? =some (.cells #[.slice x.ar x.nr x.cr,.slice x.af x.nf x.cf,.slice x.aa x.na x.ca] 25)
 b1:wr.heap[w.heap.size+1]? =some (.cells #[Nl,Nl,Nl] 25)
 b2:wr.heap[w.heap.size+2]? =some (.cells #[vr,vf,va] 25)
 b3:wr.heap[w.heap.size+3]? =some (.cells sn 146)
 QU:wr.ownsRow (w.heap.size+4) 74 5 vr out.length (aeP out)
 QT:wr.ownsRow (w.heap.size+4) 72 3 vf fs.length (QC fs)
 QO:wr.ownsRow (w.heap.size+4) 72 3 va gs.length (QC gs)
 nRF:IJ vr vf
 nRA:IJ vr va
 nFA:IJ vf va
variable {w wr y:jo}{x:Raw}{vr vf va:jr}{out:List Rd}{fs gs:List Pk}{sn:Array jr}
theorem KY.grow(h:KY w wr x vr vf va out fs gs sn)(hg:wr.grownBy y none):KY w y x vr vf va out fs gs sn:=by
 have hs:=h.size;have hb:∀k,k<w.heap.size+4->y.heap[k]? =wr.heap[k]? :=λk hk=>hg.block k (by omega) (by simp);have hn:∀v:jr,v.ownBlock=none\/v.ownBlock≠none:=λv=>by cases v.ownBlock<;>simp
 exact⟨h.below.trans ⟨hg.os,hg.tape,hg.output,hg.size,λk hk=>hb k (by omega)⟩,by have:=hg.size;omega,(hb _ (by omega)).trans h.b0,(hb _ (by omega)).trans h.b1,(hb _ (by omega)).trans h.b2,(hb _ (by omega)).trans h.b3,
  h.QU.kept hg (hn _),h.QT.kept hg (hn _),h.QO.kept hg (hn _),h.nRF,h.nRA,h.nFA⟩
theorem Ny{B k:Nat}{e:jv}{s n:Nat}{v:jr}{xs:List jr}(h:wr.ownsRow B e s v n xs)(hk:k<B):v.ownBlock=none\/v.ownBlock≠some k:=by
 cases hv:v.ownBlock with
 |none=>exact ji rfl
 |some g=>
  right;have:=(h.lt g hv).1;intro e;simp only[bJ]at e;omega
end
end
section
open Go.RowKit
open Hx (Rd Pk Vw St Mc jO)
attribute [local go_sem ↓] Go.wp_at_zero Go.wp_at_succ
attribute [local go_sem] kL
section
variable {w:jo}
structure ahb(w wr:jo)(vr vf va:jr)(out:List Rd)(fs gs:List Pk):Prop where
 below:Below w.heap.size w wr
 QU:wr.ownsRow (w.heap.size+4) 74 5 vr out.length (aeP out)
 QT:wr.ownsRow (w.heap.size+4) 72 3 vf fs.length (QC fs)
 QO:wr.ownsRow (w.heap.size+4) 72 3 va gs.length (QC gs)
theorem KY.out{wr:jo}{x:Raw}{vr vf va:jr}{out:List Rd}{fs gs:List Pk}{sn:Array jr}(h:KY w wr x vr vf va out fs gs sn)(a b c:jr):ahb w (((wr.setCell (Ad (w.heap.size+1) 0) a).setCell (Ad (w.heap.size+1) 1) b).setCell (Ad (w.heap.size+1) 2) c) vr vf va out fs gs:=by
 have g1:=mX wr (w.heap.size+1) 0 a;have g2:=mX (wr.setCell (Ad (w.heap.size+1) 0) a) (w.heap.size+1) 1 b;have g3:=mX ((wr.setCell (Ad (w.heap.size+1) 0) a).setCell (Ad (w.heap.size+1) 1) b) (w.heap.size+1) 2 c;have gg:=(g1.trans g2).trans g3;refine⟨((h.below.setCell (p:=(Ad (w.heap.size+1) 0)) (by show _<=w.heap.size+1;omega) _).setCell (p:=(Ad (w.heap.size+1) 1)) (by show _<=w.heap.size+1;omega) _).setCell (p:=(Ad (w.heap.size+1) 2)) (by show _<=w.heap.size+1;omega) _,?_,?_,?_⟩
 .exact h.QU.kept gg (Ny h.QU (by omega))
 .exact h.QT.kept gg (Ny h.QT (by omega))
 .exact h.QO.kept gg (Ny h.QO (by omega))
end
end
section
open Go.RowKit
open Hx (Rd Pk Vw St Mc jO)
section
variable {w:jo}
theorem Iu{B:Nat}{e:jv}{s n:Nat}{xs:List jr}{a:Option Addr}{l c:Nat}(h:w.ownsRow B e s (.slice a l c) n xs){j:Nat}{u:jr}(hj:xs[j]? =some u):
 ∃g,a=some (Ad g 0)/\B<=g/\g<w.heap.size/\∀j u,xs[j]? =some u->w.cell? (Ad g j)=some u:=by
 have h0:=h.2;rcases h0 with⟨e1,e2⟩|⟨g,cap,cur,e1,e2,e3,e4⟩
 .subst e2;have h1:=h.1;simp at h1;rw[h1]at hj;simp at hj
 .simp only[Value.slice.injEq]at e1;obtain⟨rfl,rfl,rfl⟩:=e1;refine⟨g,rfl,e2,(h.lt g rfl).2,λj u hj=>?_⟩;have:=h.cells (g:=g) rfl j u hj;have e:((Ad g 0):Addr).add j=(Ad g j):=by unfold Addr.add;split<;>simp_all
  rwa [e]at this
end
end
section
open Go.RowKit
open Hx (Rd Pk Vw St Mc jO Out)
attribute [local go_sem ↓] Go.wp_at_zero Go.wp_at_succ
attribute [local go_sem] kL
section
variable {w:jo}
theorem ado{C:Nat}{n:Int}(h:w.cell? (Ad C 2)=some (Im n)):
 Calls prog 17 #[Pt C 0] w λe w'=>e=.returned (Im n)/\w'=w:=by
 go_enter func17,ntmps17;go_wp2;go_ret;exact⟨rfl,rfl⟩
theorem aaM(xs:Array jr)(w:jo):∀(is:List Nat),(∀i∈is,∃x:Int,xs[i]? =some (Im x))->(Op.eqItems 9999 3 1 xs xs is).run prog w=.ok true w
 |[],_=>by simp[Op.eqItems]
 |i::is,h=>by
  obtain⟨x,hx⟩:=h i (by simp);have hp:(part 3 xs (i * 1)).run prog w=.ok (Im x) w:=run_part_plain w (by kernel_rfl) (by simpa using hx);simp only[Op.eqItems,Sem.run_bind,hp,Result.andThen_ok,run_equalIn_int w 9998 3 .i64 .i64 x x Tryz.underlying3,beq_self_eq_true,je,aH,cZ];exact aaM xs w is (λj hj=>h j (by simp[hj]))
theorem TQ(w:jo)(x0 x1 x2 x3 x4 x5 x6 x7:Int):
 (Op.equalIn 10000 26 (.agg #[Im x0,Im x1,Im x2,Im x3,Im x4,Im x5,Im x6,Im x7]) (.agg #[Im x0,Im x1,Im x2,Im x3,Im x4,Im x5,Im x6,Im x7])).run prog w=.ok true w:=by
 obtain⟨i,hi⟩:∃i,prog.info? 3=some i:=Option.isSome_iff_exists.1 (by kernel_rfl);rw[show(10000:Nat)=9999+1 from rfl,run_equalIn_array w 9999 _ _ Tryz.underlying26 hi,show prog.cellsOf 3=1 by kernel_rfl];refine aaM _ w _ λi hi=>?_;have:i<8:=by simpa using hi
 match i,this with
 |0,_=>exact⟨_,rfl⟩
 |1,_=>exact⟨_,rfl⟩
 |2,_=>exact⟨_,rfl⟩
 |3,_=>exact⟨_,rfl⟩
 |4,_=>exact⟨_,rfl⟩
 |5,_=>exact⟨_,rfl⟩
 |6,_=>exact⟨_,rfl⟩
 |7,_=>exact⟨_,rfl⟩
theorem Tc:∀(l:List (Int×Int))(i:Nat)(a:Int×Int),l[i]? =some a->(oK l)[i * 2]? =some (Im a.1)/\(oK l)[i * 2+1]? =some (Im a.2)
 |[],i,a,h=>by simp at h
 |q::l,0,a,h=>by
  simp at h;subst h;simp[oK]
 |q::l,i+1,a,h=>by
  have ih:=Tc l i a (by simpa using h);have e:oK (q::l)=Im q.1::Im q.2::oK l:=by simp[oK]
  rw[e,show(i+1) * 2=i * 2+1+1 by omega];refine⟨ih.1,?_⟩;rw[show i * 2+1+1+1=(i * 2+1)+1+1 by omega];exact ih.2
structure SI(w W:jo)(ae:Option Addr)(n ce:Nat)(ar af aa:Option Addr)(nr cr nf cf na ca:Nat):Prop where
 below:Below w.heap.size w W
 act:W.cell? (Ad w.heap.size 1)=some (.slice ae n ce)
 r:W.cell? (Ad (w.heap.size+1) 0)=some (.slice ar nr cr)
 f:W.cell? (Ad (w.heap.size+1) 1)=some (.slice af nf cf)
 a:W.cell? (Ad (w.heap.size+1) 2)=some (.slice aa na ca)
 size:w.heap.size+1<W.heap.size
theorem SI.grow{W y:jo}{ae ar af aa:Option Addr}{n ce nr cr nf cf na ca:Nat}(h:SI w W ae n ce ar af aa nr cr nf cf na ca)(hg:W.grownBy y none):SI w y ae n ce ar af aa nr cr nf cf na ca:=by
 have hs:=h.size;have hb:=λk (hk:k<W.heap.size)=>hg.block k hk (by simp);have hc:∀p:Addr,p.block<W.heap.size->y.cell? p=W.cell? p:=λp hp=>bQ (hb _ hp);have hz:=hg.size;exact⟨h.below.trans ⟨hg.os,hg.tape,hg.output,hg.size,λk hk=>hb k (by omega)⟩,(hc _ (by show w.heap.size<_;omega)).trans h.act,(hc _ (by show w.heap.size+1<_;omega)).trans h.r,(hc _ (by show w.heap.size+1<_;omega)).trans h.f,(hc _ (by show w.heap.size+1<_;omega)).trans h.a,by omega⟩
end
end
section
open Go.RowKit
open Hx (Rd Pk Vw St Mc jO Out Ls)
attribute [local go_sem ↓] Go.wp_at_zero Go.wp_at_succ
attribute [local go_sem] kL
section
variable {w w':jo}
theorem uh.later{B B':Nat}{cb co sb so cap:Nat}{jC:List St}(h:uh B w cb co sb so cap jC)(hb:Below B w w')(hB:B<=B'):uh B' w' cb co sb so cap jC:=by
 have:=h.keep hb;exact⟨by have:=this.FK;omega,by have:=this.Gn;omega,this.slice,this.step⟩
theorem wu.later{B B':Nat}{ar af aa:Option Addr}{nr nf na:Nat}{v:Vw}(h:wu B w ar af aa nr nf na v)(hb:Below B w w')(hB:B<=B'):wu B' w' ar af aa nr nf na v:=by
 have h2:=h.keep (w':=w') λx hx=>hb.cell (p:=x) hx;refine⟨h2.pO.mono hB,λi r hr=>?_,λi r hr=>?_,h2.MQ,h2.MP,h2.MO,h2.Gl⟩
 .obtain⟨b,o,e,hb,hp⟩:=h2.qB i r hr;exact⟨b,o,e,by omega,hp⟩
 .obtain⟨b,o,e,hb,hp⟩:=h2.qy i r hr;exact⟨b,o,e,by omega,hp⟩
theorem rW.later{B:Nat}(h:rW w)(hb:Below B w w')(hB:1<B):rW w':=λj hj=>(hb.cell (p:=(Ad 1 j)) hB).trans (h j hj)
theorem AQ.later{C:Nat}{l:Ls}(h:AQ w C l)(hb:Below w.heap.size w w'):AQ w' C l:=by
 obtain⟨sb,cap,hc⟩:=h.code;exact⟨⟨sb,cap,hc.later hb hb.size⟩,(hb.cell (p:=(Ad C 1)) hc.FK).trans h.jE,(hb.cell (p:=(Ad C 2)) hc.FK).trans h.jD⟩
theorem AQ.lt{C:Nat}{l:Ls}(h:AQ w C l):C<w.heap.size:=by
 obtain⟨sb,cap,hc⟩:=h.code;exact hc.FK
theorem WU{bs:List UInt8}(h:vX bs=true):bs.length<=100000/\(lX bs).bad=false:=by
 simp only[vX,dD,decide_eq_true_eq,Bool.not_eq_true']at h;exact⟨by omega,by simp[h]⟩
def ru(v:Vw)(bs:List UInt8)(fuel x0 x1 x2 x3 x4 x5 x6 x7:Int):Out:=Az v (lX bs).jC (lX bs).jE.toNat fuel x0 x1 x2 x3 x4 x5 x6 x7
theorem aeU(w:jo)(C:Nat)(bs:List UInt8)(ht:vX bs=true)(hC:AQ w C (lX bs))(v:Vw)(ar af aa:Option Addr)(nr cr nf cf na ca:Nat)(x0 x1 x2 x3 x4 x5 x6 x7 fuel:Int)
 (hv:wu w.heap.size w ar af aa nr nf na v)(hT:rW w)(hone:1<w.heap.size)(hx:∀x∈[x0,x1,x2,x3,x4,x5,x6,x7],jO x)(hfm:fuel<=9223372036854775807):
 Calls prog 16 #[Pt C 0,.agg #[.slice ar nr cr,.slice af nf cf,.slice aa na ca],.agg #[Im x0,Im x1,Im x2,Im x3,Im x4,Im x5,Im x6,Im x7],Im fuel] w λe w'=>
  ∃va,e=.returned (tZ (ru v bs fuel x0 x1 x2 x3 x4 x5 x6 x7).status va (ru v bs fuel x0 x1 x2 x3 x4 x5 x6 x7).jG)/\
   w'.ownsRow w.heap.size 76 2 va (ru v bs fuel x0 x1 x2 x3 x4 x5 x6 x7).jP.length (oK (ru v bs fuel x0 x1 x2 x3 x4 x5 x6 x7).jP)/\Below w.heap.size w w':=by
 obtain⟨hl,hb⟩:=WU ht;have hf:=Hx.Qk bs hl hb;obtain⟨sb,cap,hc⟩:=hC.code;have e:(((lX bs).jE.toNat:Nat):Int)=(lX bs).jE:=by have:=hf.jE;omega
 exact apY w C 0 sb 0 cap (lX bs).jE.toNat (lX bs).jC v ar af aa nr cr nf cf na ca x0 x1 x2 x3 x4 x5 x6 x7 fuel hf.sound.fits (by have:=hf.jE;omega) (by have:=hf.jE;omega) hc (by rw[e];exact hC.jE) hv hT hone hx hfm
def xI:Vw:=⟨[⟨3,0,0,0,false⟩],[⟨9,0,0⟩],[]⟩
theorem acJ:vX Aj.data.toList=true:=by decide+kernel
theorem aml:(lX Aj.data.toList).jD=7:=by decide+kernel
theorem amo:(ru xI Aj.data.toList 7 0 0 0 0 0 0 0 0).status=0:=by decide+kernel
theorem amj:(ru xI Aj.data.toList 7 0 0 0 0 0 0 0 0).jP=[(3,9)]:=by decide+kernel
theorem amm:(ru xI Aj.data.toList 7 0 0 0 0 0 0 0 0).jG.take 8=[0,2,0,0,0,0,0,0]:=by decide+kernel
theorem Below.wY(h:w.grownBy w' none):Below w.heap.size w w':=⟨h.os,h.tape,h.output,h.size,λk hk=>h.block k hk (by simp)⟩
structure Cb(w W:jo)(o0 o1 o2:Obj):Prop where
 below:Below w.heap.size w W
 b0:W.heap[w.heap.size]? =some o0
 b1:W.heap[w.heap.size+1]? =some o1
 b2:W.heap[w.heap.size+2]? =some o2
theorem Ou(w:jo)(o0 o1 o2:Obj):Cb w (((w.alloc o0).alloc o1).alloc o2) o0 o1 o2:=by
 have e:(((w.alloc o0).alloc o1).alloc o2).heap=((w.heap.push o0).push o1).push o2:=rfl;have g:w.grownBy (((w.alloc o0).alloc o1).alloc o2) none:=((ah w _ none).trans (ah _ _ none)).trans (ah _ _ none);refine⟨Below.wY g,?_,?_,?_⟩;all_goals
  rw[e];simp only[eH,eY];repeat (rw[jk (by omega)])
  exact jl trivial
theorem Cb.lt{W:jo}{o0 o1 o2:Obj}(h:Cb w W o0 o1 o2):w.heap.size+2<W.heap.size:=lN h.b2
theorem Cb.later{W y:jo}{o0 o1 o2:Obj}(h:Cb w W o0 o1 o2)(hb:Below W.heap.size W y):Cb w y o0 o1 o2:=by
 have:=h.lt;exact⟨h.below.trans (hb.mono (by omega)),(hb.block _ (by omega)).trans h.b0,(hb.block _ (by omega)).trans h.b1,(hb.block _ (by omega)).trans h.b2⟩
theorem Wj(tmps:Array jr)(w:jo)(g:Nat)(v0 v1 v2 v3 v4 v5 v6 v7 v8 v9 b:jr)(h8:tmps[8]? =some (Pt g 0))(h9:tmps[9]? =some b)(h:w.heap[g]? =some (.cells #[v0,v1,v2,v3,v4,v5,v6,v7,v8,v9] 35)):
 (results Tryz.f26 tmps).run prog w=.ok (.tuple #[.agg #[v0,v1,v2,v3,v4,v5,v6,v7,v8,v9],b]) w:=by
 have q0:=jJ 0 h rfl;have q1:=jJ 1 h rfl;have q2:=jJ 2 h rfl;have q3:=jJ 3 h rfl;have q4:=jJ 4 h rfl;have q5:=jJ 5 h rfl;have q6:=jJ 6 h rfl;have q7:=jJ 7 h rfl;have q8:=jJ 8 h rfl;have q9:=jJ 9 h rfl;simp[results,Tryz.results26,go_sem,h8,h9,q0,q1,q2,q3,q4,q5,q6,q7,q8,q9]
theorem QZ(w:jo)(g:Nat)(T:jv)(a0 a1 a2 a3 a4 a5 a6 a7 a8 a9 v0 v1 v2 v3 v4 v5 v6 v7 v8 v9:jr)(h:w.heap[g]? =some (.cells #[a0,a1,a2,a3,a4,a5,a6,a7,a8,a9] T)):
 ((((((((((w.setCell (Ad g 0) v0).setCell (Ad g 1) v1).setCell (Ad g 2) v2).setCell (Ad g 3) v3).setCell (Ad g 4) v4).setCell (Ad g 5) v5).setCell (Ad g 6) v6).setCell (Ad g 7) v7).setCell (Ad g 8) v8).setCell (Ad g 9) v9).heap[g]? =some (.cells #[v0,v1,v2,v3,v4,v5,v6,v7,v8,v9] T)/\w.grownBy ((((((((((w.setCell (Ad g 0) v0).setCell (Ad g 1) v1).setCell (Ad g 2) v2).setCell (Ad g 3) v3).setCell (Ad g 4) v4).setCell (Ad g 5) v5).setCell (Ad g 6) v6).setCell (Ad g 7) v7).setCell (Ad g 8) v8).setCell (Ad g 9) v9) (some g):=by
 have h0:(w.setCell (Ad g 0) v0).heap[g]? =some (.cells #[v0,a1,a2,a3,a4,a5,a6,a7,a8,a9] T):=aK _ _ _ _ _ _ h;have g0:w.grownBy (w.setCell (Ad g 0) v0) (some g):=mX w g 0 v0;have h1:((w.setCell (Ad g 0) v0).setCell (Ad g 1) v1).heap[g]? =some (.cells #[v0,v1,a2,a3,a4,a5,a6,a7,a8,a9] T):=aK _ _ _ _ _ _ h0;have g1:w.grownBy ((w.setCell (Ad g 0) v0).setCell (Ad g 1) v1) (some g):=g0.trans (mX _ g 1 v1);have h2:(((w.setCell (Ad g 0) v0).setCell (Ad g 1) v1).setCell (Ad g 2) v2).heap[g]? =some (.cells #[v0,v1,v2,a3,a4,a5,a6,a7,a8,a9] T):=aK _ _ _ _ _ _ h1;have g2:w.grownBy (((w.setCell (Ad g 0) v0).setCell (Ad g 1) v1).setCell (Ad g 2) v2) (some g):=g1.trans (mX _ g 2 v2);have h3:((((w.setCell (Ad g 0) v0).setCell (Ad g 1) v1).setCell (Ad g 2) v2).setCell (Ad g 3) v3).heap[g]? =some (.cells #[v0,v1,v2,v3,a4,a5,a6,a7,a8,a9] T):=aK _ _ _ _ _ _ h2;have g3:=g2.trans (mX _ g 3 v3);have h4:(((((w.setCell (Ad g 0) v0).setCell (Ad g 1) v1).setCell (Ad g 2) v2).setCell (Ad g 3) v3).setCell (Ad g 4) v4).heap[g]? =some (.cells #[v0,v1,v2,v3,v4,a5,a6,a7,a8,a9] T):=aK _ _ _ _ _ _ h3;have g4:=g3.trans (mX _ g 4 v4);have h5:((((((w.setCell (Ad g 0) v0).setCell (Ad g 1) v1).setCell (Ad g 2) v2).setCell (Ad g 3) v3).setCell (Ad g 4) v4).setCell (Ad g 5) v5).heap[g]? =some (.cells #[v0,v1,v2,v3,v4,v5,a6,a7,a8,a9] T):=aK _ _ _ _ _ _ h4;have g5:=g4.trans (mX _ g 5 v5)
 have h6:(((((((w.setCell (Ad g 0) v0).setCell (Ad g 1) v1).setCell (Ad g 2) v2).setCell (Ad g 3) v3).setCell (Ad g 4) v4).setCell (Ad g 5) v5).setCell (Ad g 6) v6).heap[g]? =some (.cells #[v0,v1,v2,v3,v4,v5,v6,a7,a8,a9] T):=aK _ _ _ _ _ _ h5;have g6:=g5.trans (mX _ g 6 v6);have h7:((((((((w.setCell (Ad g 0) v0).setCell (Ad g 1) v1).setCell (Ad g 2) v2).setCell (Ad g 3) v3).setCell (Ad g 4) v4).setCell (Ad g 5) v5).setCell (Ad g 6) v6).setCell (Ad g 7) v7).heap[g]? =some (.cells #[v0,v1,v2,v3,v4,v5,v6,v7,a8,a9] T):=aK _ _ _ _ _ _ h6;have g7:=g6.trans (mX _ g 7 v7);have h8:(((((((((w.setCell (Ad g 0) v0).setCell (Ad g 1) v1).setCell (Ad g 2) v2).setCell (Ad g 3) v3).setCell (Ad g 4) v4).setCell (Ad g 5) v5).setCell (Ad g 6) v6).setCell (Ad g 7) v7).setCell (Ad g 8) v8).heap[g]? =some (.cells #[v0,v1,v2,v3,v4,v5,v6,v7,v8,a9] T):=aK _ _ _ _ _ _ h7;have g8:=g7.trans (mX _ g 8 v8);have h9:((((((((((w.setCell (Ad g 0) v0).setCell (Ad g 1) v1).setCell (Ad g 2) v2).setCell (Ad g 3) v3).setCell (Ad g 4) v4).setCell (Ad g 5) v5).setCell (Ad g 6) v6).setCell (Ad g 7) v7).setCell (Ad g 8) v8).setCell (Ad g 9) v9).heap[g]? =some (.cells #[v0,v1,v2,v3,v4,v5,v6,v7,v8,v9] T):=aK _ _ _ _ _ _ h8;have g9:=g8.trans (mX _ g 9 v9);exact⟨h9,g9⟩
theorem arb{l:List Int}(h:l.take 8=[0,2,0,0,0,0,0,0]):l.getD 0 0=0/\l.getD 1 0=2/\l.getD 2 0=0/\l.getD 3 0=0/\l.getD 4 0=0/\l.getD 5 0=0/\l.getD 6 0=0/\l.getD 7 0=0:=by
 have k:∀i,i<8->l[i]? =([0,2,0,0,0,0,0,0]:List Int)[i]? :=λi hi=>by rw[<-h,iI hi]
 simp[List.getD,k]
theorem amn(va:jr):tZ (ru xI Aj.data.toList 7 0 0 0 0 0 0 0 0).status va (ru xI Aj.data.toList 7 0 0 0 0 0 0 0 0).jG=.agg #[.int .u8 0,va,Im 0,Im 2,Im 0,Im 0,Im 0,Im 0,Im 0,Im 0]:=by
 obtain⟨h0,h1,h2,h3,h4,h5,h6,h7⟩:=arb amm;rw[tZ,amo,h0,h1,h2,h3,h4,h5,h6,h7]
theorem apu(ar af aa:Option Addr)(nr cr nf cf na ca:Nat)(hv:wu w.heap.size w ar af aa nr nf na xI)(hT:rW w)(hone:1<w.heap.size):
 Calls prog 26 #[.string Qi,.bool false,.agg #[.slice ar nr cr,.slice af nf cf,.slice aa na ca],.agg #[Im 0,Im 0,Im 0,Im 0,Im 0,Im 0,Im 0,Im 0]] w λe w'=>∃a c,e=.returned (.tuple #[.agg #[.int .u8 0,.slice a 1 c,Im 0,Im 2,Im 0,Im 0,Im 0,Im 0,Im 0,Im 0],.bool true])/\
  w'.ownsRow w.heap.size 76 2 (.slice a 1 c) 1 [Im 3,Im 9]/\Below w.heap.size w w':=by
 go_enter func26,ntmps26;go_wp2_with fail;refine(aiZ _).mono ?_;rintro e w1 ⟨rfl,g1⟩;have b1:=(Ou w _ _ _).later (Below.wY g1);clear g1;have HB1:=b1;go_wp2_with fail;refine(acQ w1 Aj).mono ?_;rintro e w2 ⟨hb2,h⟩;obtain⟨C,yU,rfl,hcd⟩:∃C,w1.heap.size<=C/\e=.returned (.tuple #[Pt C 0,Im 0])/\AQ w2 C (lX Aj.data.toList):=by
  rcases h with⟨_,C,h1,h2,h3⟩|⟨ht,_⟩
  .exact⟨C,h1,h2,h3⟩
  .rw[acJ]at ht;cases ht
 have b2:=b1.later hb2;have v0:=jJ 0 b2.b0 rfl;have v1:=jJ 1 b2.b0 rfl;have v2:=jJ 2 b2.b0 rfl;have z:∀j,j<8->w2.cell? (Ad (w.heap.size+1) j)=some (Im 0):=λj hj=>by
  rw[jH b2.b1]
  match j,hj with
  |0,_=>rfl
  |1,_=>rfl
  |2,_=>rfl
  |3,_=>rfl
  |4,_=>rfl
  |5,_=>rfl
  |6,_=>rfl
  |7,_=>rfl
 have z0:=z 0 (by omega);have z1:=z 1 (by omega);have z2:=z 2 (by omega);have z3:=z 3 (by omega);have z4:=z 4 (by omega);have z5:=z 5 (by omega);have z6:=z 6 (by omega);have z7:=z 7 (by omega);have HN:Hid (∀n,Calls prog 17 #[Pt C 0] (w2.drewN n) λe w'=>e=.returned (Im 7)/\w'=w2.drewN n):=λn=>by
  have:=ado (w:=w2.drewN n) (C:=C) (n:=7) (by rw[bH,<-aml];exact hcd.jD);exact this
 have hbw:=b2.below;have HR:Hid (∀n,Calls prog 16 #[Pt C 0,.agg #[.slice ar nr cr,.slice af nf cf,.slice aa na ca],.agg #[Im 0,Im 0,Im 0,Im 0,Im 0,Im 0,Im 0,Im 0],Im 7] (w2.drewN n) λe w'=>∃a c,e=.returned (.agg #[.int .u8 0,.slice a 1 c,Im 0,Im 2,Im 0,Im 0,Im 0,Im 0,Im 0,Im 0])/\w'.ownsRow w2.heap.size 76 2 (.slice a 1 c) 1 [Im 3,Im 9]/\Below w2.heap.size w2 w'):=λn=>by
  have hd:Below w2.heap.size w2 (w2.drewN n):=⟨rfl,rfl,rfl,aj _,λ_ _=>rfl⟩;have hlt:=b2.lt;refine(aeU (w2.drewN n) C Aj.data.toList acJ (hcd.later hd) xI ar af aa nr cr nf cf na ca 0 0 0 0 0 0 0 0 7 (hv.later (hbw.trans (hd.mono (by omega))) (by show _<=w2.heap.size;omega)) (hT.later (hbw.trans (hd.mono (by omega))) hone) (by show 1<w2.heap.size;omega) (by simp[jO]) (by omega)).mono ?_;rintro e w' ⟨va,h1,h2,h3⟩;rw[amj]at h2;rw[amn]at h1;obtain⟨a,c,rfl⟩:=AB h2;exact⟨a,c,h1,by simpa [oK]using h2,hd.trans h3⟩
 have HB2:=jB b2;clear hb2 h hcd b2 b1 HB1 hbw hv hT z;go_wp2_with fail;refine nJ 5 (by kernel_rfl) (by kernel_rfl) ?_;simp only[aC,aO,aG,aQ];repeat (go_big_quiet_step ((go_at_call 17;exact dN (HN.out _))))
 refine bF ?_;intro _ hw';obtain⟨k3,hw''⟩:=hw';subst hw'';go_wp2_with fail;refine(HR.out _).mono ?_;rintro e w3 ⟨a,c,rfl,hrow,hb3⟩;have b3:=HB2.out.later hb3;have hf:=qJ b3.b2;have hc:∀j,w3.cell? (Ad (w.heap.size+1+1) j)=_:=λj=>jH b3.b2;have r0:=hc 0;have r1:=hc 1;have r2:=hc 2;have r3:=hc 3;have r4:=hc 4;have r5:=hc 5;have r6:=hc 6;have r7:=hc 7;have r8:=hc 8;have r9:=hc 9;have HB3:=jB b3;have HS:=jB HB2.out.lt;have HW:=jB hrow;clear b3 hb3 hc hrow HB2 HR HN;go_wp2_with fail;obtain⟨k1,k2⟩:=QZ w3 (w.heap.size+1+1) 35 _ _ _ _ _ _ _ _ _ _ (.int .u8 0) (.slice a 1 c) (Im 0) (Im 2) (Im 0) (Im 0) (Im 0) (Im 0) (Im 0) (Im 0) HB3.out.b2;refine cu (v:=.tuple #[.agg #[.int .u8 0,.slice a 1 c,Im 0,Im 2,Im 0,Im 0,Im 0,Im 0,Im 0,Im 0],.bool true]) ?_ rfl ?_
 .exact Wj _ _ (w.heap.size+1+1) _ _ _ _ _ _ _ _ _ _ _ rfl rfl k1
 .refine⟨a,c,rfl,?_,?_⟩
  .have hs:=HS.out;exact(Dq HW.out (by omega)).kept k2 (Ny HW.out (by omega))
  .exact HB3.out.below.trans ⟨k2.os,k2.tape,k2.output,k2.size,λk hk=>k2.block k (by have:=HB3.out.lt;omega) (by simp;omega)⟩
theorem amq{W:jo}{o2:Obj}(h:Cb w W (.cells #[Im 3,Im 0,Im 0,Im 0,.bool false] 74) (.cells #[Im 9,Im 0,Im 0] 72) o2):
 wu W.heap.size W (some (Ad w.heap.size 0)) (some (Ad (w.heap.size+1) 0)) none 1 1 0 xI:=by
 have hl:=h.lt;refine⟨λi r hr=>?_,λi r hr=>?_,λi r hr=>by simp[xI]at hr,rfl,rfl,rfl,⟨?_,?_,?_⟩⟩
 .match i,hr with
  |0,hr=>
   simp[xI]at hr;subst hr;exact⟨w.heap.size,0,rfl,by omega,w.heap.size,0,rfl,jH h.b0,jH h.b0,jH h.b0,jH h.b0,jH h.b0⟩
  |i+1,hr=>simp[xI]at hr
 .match i,hr with
  |0,hr=>
   simp[xI]at hr;subst hr;exact⟨w.heap.size+1,0,rfl,by omega,w.heap.size+1,0,rfl,jH h.b1,jH h.b1,jH h.b1⟩
  |i+1,hr=>simp[xI]at hr
 .intro r hr;simp[xI]at hr;subst hr;simp[jO]
 .intro r hr;simp[xI]at hr;subst hr;simp[jO]
 .intro r hr;simp[xI]at hr
theorem Vh(hT:rW w)(hone:1<w.heap.size):
 Calls prog 30 #[] w λe w'=>e=.returned (.bool true)/\Below w.heap.size w w':=by
 go_enter func30,ntmps30;go_wp2_with fail;have hx:=Ou w (.cells #[Im 3,Im 0,Im 0,Im 0,.bool false] 74) (.cells #[Im 9,Im 0,Im 0] 72) (.cells #[.slice (some (Ad w.heap.size 0)) 1 1,.slice (some (Ad (w.heap.size+1) 0)) 1 1,Nl] 25);refine(apu _ _ _ _ _ _ _ _ _ (amq hx) (hT.later hx.below hone) (by have:=hx.lt;omega)).mono ?_;rintro e w1 ⟨a,c,rfl,hrow,hb⟩;have hlt:=hx.lt;obtain⟨g,rfl,hg1,hg2,hcs⟩:=Iu hrow (j:=0) (u:=Im 3) rfl;have k0:=hcs 0 _ rfl;have k1:=hcs 1 _ rfl;have HB:=jB (λo=>(hx.below.trans (hb.mono (by omega))).alloc (by have:=hb.size;omega) o);have n1:¬g=w1.heap.size:=by omega
 have e8:=λw=>TQ w 0 2 0 0 0 0 0 0;clear hrow hb hx hlt hcs hT hg1;go_wp2_with fail;go_ret;exact⟨rfl,HB.out _⟩
theorem ad5(v:Vw)(hok:AO v=true)(bs:List UInt8)(ht:vX bs=true)(fuel x0 x1 x2 x3 x4 x5 x6 x7:Int):
 Hx.SN v [x0,x1,x2,x3,x4,x5,x6,x7] (ru v bs fuel x0 x1 x2 x3 x4 x5 x6 x7)/\
 (ru v bs (lX bs).jD x0 x1 x2 x3 x4 x5 x6 x7).status≠2/\
 ((ru v bs fuel x0 x1 x2 x3 x4 x5 x6 x7).status=2->fuel<(lX bs).jD)/\
 ((ru v bs fuel x0 x1 x2 x3 x4 x5 x6 x7).status≠2->ru v bs fuel x0 x1 x2 x3 x4 x5 x6 x7=ru v bs (lX bs).jD x0 x1 x2 x3 x4 x5 x6 x7):=by
 obtain⟨hl,hb⟩:=WU ht;have hg:=YH hok;have hs:v.small:=⟨hg.JG,hg.JF,hg.JE⟩;have hm:Hx.wQ (su x0 x1 x2 x3 x4 x5 x6 x7 (lX bs).jE.toNat):=⟨by simp[su],λx hx=>by
  simp[su]at hx;omega⟩
 obtain⟨h1,h2,h3⟩:=Hx.amv bs hl hb v hs [x0,x1,x2,x3,x4,x5,x6,x7] _ hm fuel.toNat;have e:∀f:Int,ru v bs f x0 x1 x2 x3 x4 x5 x6 x7=Hx.runs v (lX bs).jC [x0,x1,x2,x3,x4,x5,x6,x7] f.toNat 0 (su x0 x1 x2 x3 x4 x5 x6 x7 (lX bs).jE.toNat):=λf=>by
  rw[ru,Az,jl hok]
 have hn:=(Hx.Qk bs hl hb).jD;rw[e,e];refine⟨Hx.aeX v _ _ _ _ _ (Hx.ahm v),h1,λh=>?_,h3⟩;have:=h2 h;omega
structure BX(w W:jo)(x:Raw)(x0 x1 x2 x3 x4 x5 x6 x7:Int):Prop where
 below:Below w.heap.size w W
 b0:W.heap[w.heap.size]? =some (.cells #[.slice x.ar x.nr x.cr,.slice x.af x.nf x.cf,.slice x.aa x.na x.ca] 25)
 b1:W.heap[w.heap.size+1]? =some (.cells #[Im x0,Im x1,Im x2,Im x3,Im x4,Im x5,Im x6,Im x7] 26)
variable {x:Raw}{x0 x1 x2 x3 x4 x5 x6 x7:Int}
theorem BX.lt{W:jo}(h:BX w W x x0 x1 x2 x3 x4 x5 x6 x7):w.heap.size+1<W.heap.size:=lN h.b1
theorem BX.cells{W:jo}(h:BX w W x x0 x1 x2 x3 x4 x5 x6 x7):W.cell? (Ad w.heap.size 0)=some (.slice x.ar x.nr x.cr)/\W.cell? (Ad w.heap.size 1)=some (.slice x.af x.nf x.cf)/\W.cell? (Ad w.heap.size 2)=some (.slice x.aa x.na x.ca)/\W.cell? (Ad (w.heap.size+1) 0)=some (Im x0)/\W.cell? (Ad (w.heap.size+1) 1)=some (Im x1)/\W.cell? (Ad (w.heap.size+1) 2)=some (Im x2)/\W.cell? (Ad (w.heap.size+1) 3)=some (Im x3)/\W.cell? (Ad (w.heap.size+1) 4)=some (Im x4)/\W.cell? (Ad (w.heap.size+1) 5)=some (Im x5)/\W.cell? (Ad (w.heap.size+1) 6)=some (Im x6)/\W.cell? (Ad (w.heap.size+1) 7)=some (Im x7):=
 ⟨jH h.b0,jH h.b0,jH h.b0,jH h.b1,jH h.b1,jH h.b1,jH h.b1,jH h.b1,jH h.b1,jH h.b1,jH h.b1⟩
theorem BX.Ey{W:jo}(h:BX w W x x0 x1 x2 x3 x4 x5 x6 x7):(¬w.heap.size=W.heap.size)/\(¬w.heap.size+1=W.heap.size)/\w.heap.size<W.heap.size/\w.heap.size+1<W.heap.size:=by
 have:=h.lt;omega
theorem BX.later{W y:jo}(h:BX w W x x0 x1 x2 x3 x4 x5 x6 x7)(hb:Below W.heap.size W y):BX w y x x0 x1 x2 x3 x4 x5 x6 x7:=by
 have:=h.lt;exact⟨h.below.trans (hb.mono (by omega)),(hb.block _ (by omega)).trans h.b0,(hb.block _ (by omega)).trans h.b1⟩
theorem Tf(w:jo)(x:Raw)(x0 x1 x2 x3 x4 x5 x6 x7:Int):BX w ((w.alloc (.cells #[.slice x.ar x.nr x.cr,.slice x.af x.nf x.cf,.slice x.aa x.na x.ca] 25)).alloc (.cells #[Im x0,Im x1,Im x2,Im x3,Im x4,Im x5,Im x6,Im x7] 26)) x x0 x1 x2 x3 x4 x5 x6 x7:=by
 generalize ho0:Obj.cells #[.slice x.ar x.nr x.cr,.slice x.af x.nf x.cf,.slice x.aa x.na x.ca] 25=o0;generalize ho1:Obj.cells #[Im x0,Im x1,Im x2,Im x3,Im x4,Im x5,Im x6,Im x7] 26=o1;have e:((w.alloc o0).alloc o1).heap=(w.heap.push o0).push o1:=rfl;refine⟨Below.wY ((ah w _ none).trans (ah _ _ none)),?_,?_⟩
 .rw[e,ho0];simp only[eH,eY];repeat (rw[jk (by omega)])
  exact jl trivial
 .rw[e,ho1];simp only[eH,eY];repeat (rw[jk (by omega)])
  exact jl trivial
end
end
section
open Go.RowKit Hx
attribute [local go_sem ↓] Go.wp_at_zero Go.wp_at_succ
attribute [local go_sem] kL
section
variable {w w' w1 w2 w3 wr W:jo}{lo hi m b H S g l k:Nat}{u v fv:jr}{e:Ex}{a:Int}{T:jv}{c:Co}{x:Sx}{oJ:List jr}
structure Bf(x:Sx)(S g lo hi:Nat)(fv:jr)(oJ:List jr)(w wr:jo)(k m:Nat):Prop where
 rest:uP g (x.jF.drop k) wr m hi (oJ.drop k)
 set:wr.heap[S]? =some (.cells #[Im x.at',Im x.jy,.string x.base,Im x.of,fv] 348)
 row:wr.heap[g]? =w.heap[g]?
 fk:Fk w wr lo hi
 m1:S<m
 m2:m<=hi
theorem Bf.nX{bb:Wd×Ex}(h:Bf x S g lo hi fv oJ w wr k m)(hl:∀b∈x.jF,∀a,Lawful (b.2.here a))(hk:x.jF[k]? =some bb)(hlo:lo<=S)(hg:g<hi)(hH:hi<=w.heap.size):
 ∃l m' u,oJ[k]? =some u/\m<=l/\l<=m'/\m'<=hi/\bb.2.here bb.2.at' wr l m' u/\∀W3,Fk wr W3 l m'->Bf x S g lo hi fv oJ w W3 (k+1) m':=by
 have hlt:k<x.jF.length:=by
  rcases dG k x.jF.length with h1|h1
  .exact h1
  .rw[bV h1]at hk;cases hk
 have hbb:x.jF[k]=bb:=by
  rw[bU hlt]at hk;exact fZ hk
 have hr:=h.rest;rw[dA hlt,hbb]at hr;obtain⟨l,m',u,us',e0,e1,e2,e3,e4,e5,e6⟩:=hr;have hs:=h.fk.size;have hu:oJ[k]? =some u:=by
  have:=congrArg (λl=>l[0]?) e0;simpa using this
 have hus:oJ.drop (k+1)=us':=by
  have:=congrArg List.tail e0;simpa using this
 refine⟨l,m',u,hu,e1,e2,e3,e5,λW3 hf=>⟨?_,(hf.keep S (by have:=h.m1;have:=h.m2;omega) (ji (by have:=h.m1;omega))).trans h.set,(hf.keep g (by omega) (by omega)).trans h.row,?_,by have:=h.m1;omega,e3⟩⟩
 .rw[hus];exact FI (λc hc=>hl c (gU hc)) e6 λj j1 j2=>hf.keep j (by omega) (jh j1)
 .exact h.fk.trans (hf.wide (by have:=h.m1;omega) e3)
theorem Fk.box{o:Obj}{j:Nat}(h:Fk (w.alloc o) w2 l m):Fk w (w2.setCell (Ad w.heap.size j) u) l m:=by
 have g1:=ah w o none;have g2:=mX w2 w.heap.size j u;have h1:=(Fk.grown (lo:=l) (hi:=m) g1).trans h;exact⟨g2.os.trans h1.os,g2.tape.trans h1.tape,g2.output.trans h1.output,dH h1.size g2.size,λk hk h3=>(g2.block k (by have:=h1.size;omega) (by intro e;cases e;omega)).trans (h1.keep k hk h3)⟩
theorem Bf.grow{row:Option Nat}(h:Bf x S g lo hi fv oJ w wr k m)(hl:∀b∈x.jF,∀a,Lawful (b.2.here a))(hg:wr.grownBy W row)(hrow:∀j,row=some j->w.heap.size<=j)(hH:hi<=w.heap.size)(hgh:g<hi):Bf x S g lo hi fv oJ w W k m:=by
 have hs:=h.fk.size;have hk:∀j,j<w.heap.size->W.heap[j]? =wr.heap[j]? :=λj hj=>hg.block j (by omega) λe=>by have:=hrow j e.symm;omega
 have Po:=h.m1;have hm2:=h.m2;exact⟨FI (λc hc=>hl c (gU hc)) h.rest λj j1 j2=>hk j (by omega),(hk S (by omega)).trans h.set,(hk g (by omega)).trans h.row,⟨hg.os.trans h.fk.os,hg.tape.trans h.fk.tape,hg.output.trans h.fk.output,by have:=hg.size;omega,λj j1 j2=>(hk j j1).trans (h.fk.keep j j1 j2)⟩,Po,hm2⟩
theorem WG(h:∀b∈x.jF,nN b.2)(hlen:x.jF.length<=100000)(hh:oN x w lo hi (Pt S 0))(hH:hi<=w.heap.size):
 Calls prog 341 #[Pt S 0] w λen w'=>en=.returned (.tuple #[])/\DN x w' lo hi w.heap.size w'.heap.size S/\Fk w w' lo hi:=by
 have hl:∀b∈x.jF,∀a,Lawful (b.2.here a):=λb hb a=>(h b hb).lW.ok.law a;obtain⟨S',fv,hv,h1,h2,hS,hrow⟩:=hh;cases hv;obtain⟨g,oJ,m0,hgh,hR0,Fg⟩:∃g oJ m0,g<hi/\Bf x S g lo hi fv oJ w w 0 m0/\∀(k:Nat)(bb:Wd×Ex)(u:jr),x.jF[k]? =some bb->oJ[k]? =some u->(∃cap,fv=.slice (some (Ad g 0)) x.jF.length cap)/\w.cell? (Ad g (k * 3))=some (.string bb.1.text)/\w.cell? (Ad g (k * 3+1))=some (Im bb.1.at')/\w.cell? (Ad g (k * 3+2))=some u:=by
  by_cases hf:x.jF=[]
  .refine⟨S,[],S+1,h2,⟨by rw[hf];rfl,hS,rfl,Fk.refl _ _ _,by omega,by omega⟩,λk bb u hk=>by rw[hf]at hk;simp at hk⟩
  .rcases hrow with⟨h4,_⟩|⟨g,cap,m,us,arr,e1,g1,g2,m1,m2,hbr,hg,harr⟩
   .exact jq h4 hf
   .have hm:m<=hi:=by
     cases hx:x.jF with
     |nil=>exact jq hx hf
     |cons b0 bs=>
      rw[hx]at hbr;obtain⟨l,m',u,us',_,z1,z2,z3,_⟩:=hbr;omega
    refine⟨g,us,m,g2,⟨hbr,hS,rfl,Fk.refl _ _ _,m2,hm⟩,λk bb u hk hu=>⟨⟨cap,e1⟩,?_⟩⟩;obtain⟨z0,z1,z2⟩:=Oz _ us k _ u hk hu;exact⟨(jH hg).trans (harr _ _ z0),(jH hg).trans (harr _ _ z1),(jH hg).trans (harr _ _ z2)⟩
 obtain⟨fa,fc,hfv⟩:∃fa fc,fv=.slice fa x.jF.length fc:=by
  rcases hrow with⟨hf,rfl⟩|⟨g,cap,m,us,arr,rfl,_⟩
  .exact⟨none,0,by rw[hf];rfl⟩
  .exact⟨_,_,rfl⟩
 subst hfv;have c4:w.cell? (Ad S 4)=some (.slice fa x.jF.length fc):=jH hS;have H0:Hid (vZ x S w.heap.size m0 w 0 (Nl) [] []/\Bf x S g lo hi (.slice fa x.jF.length fc) oJ w w 0 m0):=⟨vZ.nil _ _ _ _ _,hR0⟩;have Fg:=jB Fg;have HF:=jB h;have HL:=jB hl;have HB:=jB (jg h1 (jg h2 (jg hH hgh)));have hSw:S<w.heap.size:=by omega
 clear hS hrow hR0 h hl h1 h2 hH hgh;go_enter func341,ntmps341;go_wp2_with fail;go_loopg [2,10] (x.jF.length+1) (λgg kv i wr=>Hid (∃(k m:Nat)(fs:List (Wd×Ex))(cells:List jr),k+gg=x.jF.length+1/\k<=x.jF.length/\i=Im k/\vZ x S w.heap.size m wr k kv fs cells/\Bf x S g lo hi (.slice fa x.jF.length fc) oJ w wr k m))
 case atStart=>exact⟨0,m0,[],[],by omega,bD _,rfl,H0.out⟩
 case round=>
  obtain⟨k,m,fs,cells,hk1,hk2,rfl,hK,hR⟩:=hrel.out;clear hrel H0 c4;obtain⟨ka,kc,hkv⟩:=Wx hK.row;subst hkv;obtain⟨b1,b2,b3,b4⟩:=HB.out;by_cases hlt:k<x.jF.length
  .have d1:decide ((k:Int)<(x.jF.length:Int))=true:=by simp;omega
   have i0:(0:Int)<=(k:Int):=by omega
   have i1:(k:Int)<(x.jF.length:Int):=by omega
   obtain⟨bb,hbb⟩:∃bb,x.jF[k]? =some bb:=⟨_,bU hlt⟩;have hQ:=HF.out bb (bT hbb);obtain⟨l,m',u,hu,q1,q2,q3,q4,q5⟩:=hR.nX HL.out hbb b1 b4 b3;obtain⟨⟨cap,hcap⟩,z0,z1,z2⟩:=Fg.out k bb u hbb hu;cases hcap;obtain⟨T1,a1,rfl,hT1,l1,l2,_⟩:=hQ.lW.ok.head _ _ _ _ _ q4;have hsw:=hR.fk.size;have k0:wr.cell? (Ad g (k * 3))=some (.string bb.1.text):=(bQ hR.row).trans z0;have k1:wr.cell? (Ad g (k * 3+1))=some (Im bb.1.at'):=(bQ hR.row).trans z1;have k2:wr.cell? (Ad g (k * 3+2))=some (.iface T1 (Pt a1 0)):=(bQ hR.row).trans z2;obtain⟨g',hg'⟩:∃g',gk=g'+1:=⟨gk-1,by omega⟩;obtain⟨f1,Gh,kK,H1⟩:=hQ.fold _ (wr.alloc (.cells #[.string bb.1.text,Im bb.1.at',.iface T1 (Pt a1 0)] 361)) l m' T1 a1 ((hQ.lW.ok.law _).loc _ _ _ _ _ q4 λj _ j2=>fP _ _ _ (by omega)) (by rw[nU];omega);have kK:∀args w,(callFunc f1 args).run prog w=.ok (.enter f1 args) w:=kK;have H1:=jB H1;have HK:=jB hK;have HR:=jB hR;have IX:=jB q5;have HQ:=jB hQ;have N7:=jB hbb;have hgw:g<wr.heap.size:=by omega
   have ng:¬g=wr.heap.size:=by omega
   have hm':m'<=wr.heap.size:=by omega
   clear hK hR q4 q5 hQ hbb hu z0 z1 z2 Fg;obtain⟨⟨bt,ba⟩,be⟩:=bb;simp only at k0 k1 k2 H1 HQ IX N7;go_wp2_with fail;refine H1.out.mono ?_;rintro en w2 ⟨v',rfl,Ul,En⟩;have hbx:w2.heap[wr.heap.size]? =some (.cells #[.string bt,Im ba,.iface T1 (Pt a1 0)] 361):=(En.keep _ (by rw[nU];omega) (jh hm')).trans (aY _ _);have c2:w2.cell? (Ad wr.heap.size 2)=some (.iface T1 (Pt a1 0)):=jH hbx;have fz:∀j,w2.frozen? (Ad wr.heap.size j)=false:=λj=>oh hbx;obtain⟨e',T2,a2,x2,T3,a3,hv',hT2,hin,hge,Ae,Pz,_,FX⟩:=Ul;subst hv';have Py:=aK w2 _ 2 _ _ (.iface T2 (Pt a2 0)) hbx;have e0:(w2.setCell (Ad wr.heap.size 2) (.iface T2 (Pt a2 0))).cell? (Ad wr.heap.size 0)=some (.string bt):=jH Py;have e1:(w2.setCell (Ad wr.heap.size 2) (.iface T2 (Pt a2 0))).cell? (Ad wr.heap.size 1)=some (Im ba):=jH Py;have e2:(w2.setCell (Ad wr.heap.size 2) (.iface T2 (Pt a2 0))).cell? (Ad wr.heap.size 2)=some (.iface T2 (Pt a2 0)):=jH Py;have Un:∀w',o8 (w2.setCell (Ad wr.heap.size 2) (.iface T2 (Pt a2 0))) w' l m' (wr.heap.size+1) w2.heap.size->o8 w2 w' l m' (wr.alloc (.cells #[.string bt,Im ba,.iface T1 (Pt a1 0)] 361)).heap.size w2.heap.size:=λw' hw j hj=>by
    rw[nU]at hj;exact(hw j (by omega)).trans (qU j (by omega))
   have HTc:=jB (U0 (FX _ (Un _ (o8.refl _ _ _ _ _))).2 true);have hf3:Fk wr (w2.setCell (Ad wr.heap.size 2) (.iface T2 (Pt a2 0))) l m':=Fk.box En;have hs3:(w2.setCell (Ad wr.heap.size 2) (.iface T2 (Pt a2 0))).heap.size=w2.heap.size:=dI ..;have KA:Hid (vZ x S w.heap.size m' (w2.setCell (Ad wr.heap.size 2) (.iface T2 (Pt a2 0))) k (.slice ka fs.length kc) fs cells/\Bf x S g lo hi (.slice (some (Ad g 0)) x.jF.length fc) oJ w (w2.setCell (Ad wr.heap.size 2) (.iface T2 (Pt a2 0))) (k+1) m'/\Ba (S+1) m' w.heap.size (w2.setCell (Ad wr.heap.size 2) (.iface T2 (Pt a2 0))) (Value.slice ka fs.length kc).ownBlock λw lo hi=>e'.here e'.at' w lo hi (.iface T2 (Pt a2 0))):=by
    have Po:=HR.out.m1;refine⟨HK.out.oV (by omega) hf3.size (λj j1 j2=>hf3.keep j (by omega) (ji (by omega))) (λj j1 j2=>hf3.keep j j2 (jh (by omega))),IX.out _ hf3,l,m',wr.heap.size+1,w2.heap.size,by omega,aj _,by omega,by omega,λgg hgg=>ji (by have:=(HK.out.row.lt gg hgg).2;omega),λw' hw=>(FX w' (Un w' hw)).1⟩
   have hww:w.heap.size<=w2.heap.size:=by have:=hf3.size;omega
   have HGE:=jB (jg hge (jg Ae Pz));have hfl:fs.length<=100000:=by have:=HK.out.len;omega
   have HO:=jB (λo=>KA.out.1.row.alloc o);have HAdd:Hid (be.does.fd.lI true=false->∀(o:Obj)(y:jo)(gg cap:Nat),((w2.setCell (Ad wr.heap.size 2) (.iface T2 (Pt a2 0))).alloc o).grownBy y (Value.slice ka fs.length kc).ownBlock->y.ownsRow w.heap.size 361 3 (.slice (some (Ad gg 0)) (fs.length+1) cap) (fs.length+1) (cells++[.string bt,Im ba,.iface T2 (Pt a2 0)])->((Value.slice ka fs.length kc).ownBlock=some gg\/gg=w2.heap.size+1)->
    vZ x S w.heap.size m' y (k+1) (.slice (some (Ad gg 0)) (fs.length+1) cap) (fs++[(⟨bt,ba⟩,e')]) (cells++[.string bt,Im ba,.iface T2 (Pt a2 0)])/\Bf x S g lo hi (.slice (some (Ad g 0)) x.jF.length fc) oJ w y (k+1) m'):=λht o y gg cap hgr hown hat=>by
    obtain⟨n1,n2,n3⟩:=KA.out;have ga:=ah (w2.setCell (Ad wr.heap.size 2) (.iface T2 (Pt a2 0))) o none;have Po:=HR.out.m1;have hk:=n1.oV (aj _) ga.size (λj j1 j2=>ga.block j (by omega) (by simp)) (λj j1 j2=>ga.block j j2 (by simp));have hh:=n3.later (own':=(Value.slice ka fs.length kc).ownBlock) (aj _) ga.size (λj j1 j2=>ga.block j (by omega) (by simp)) (λj j1 j2 _=>ga.block j j2 (by simp)) (ji rfl);refine⟨hk.add N7.out ht hgr (by rw[nU];omega) (by omega) hown hat (by rw[nU];omega) hge Ae Pz hh,?_⟩;have VD:=n2.grow HL.out ga (λj hj=>by cases hj) b3 b4;exact VD.grow HL.out hgr (λj hj=>(hk.row.lt j hj).1) b3 b4
   have hcb:=HQ.out.lW.ok.jy;have KH:Hid (be.does.fd.lI true=true->vZ x S w.heap.size m' (w2.setCell (Ad wr.heap.size 2) (.iface T2 (Pt a2 0))) (k+1) (.slice ka fs.length kc) fs cells/\Bf x S g lo hi (.slice (some (Ad g 0)) x.jF.length fc) oJ w (w2.setCell (Ad wr.heap.size 2) (.iface T2 (Pt a2 0))) (k+1) m'):=λht=>⟨KA.out.1.skip N7.out hcb.1 ht,KA.out.2.1⟩;obtain⟨PW,hi0,hz0,hz1,hz2⟩:=info_parts ab3;have FV:wr.heap.size<w2.heap.size:=lN hbx;clear En hbx Py Un FX hf3 KA hge Ae Pz HGE HK HR IX HQ N7 H1 kK Gh hin hcb k0 k1 k2;generalize akg:fs.length=fl at *;cases hT:be.does.fd.lI true with
   |true=>
    rw[hT]at HTc;have wM:=jB (KH.out hT);clear KH HAdd HO;go_wp2_with fail;refine HTc.out.mono ?_;rintro en w4 ⟨rfl,rfl⟩;go_wp2_with fail;go_roundg g'
    case measure=>omega
    case rel=>exact⟨k+1,m',fs,cells,by omega,by omega,by go_num,wM.out⟩
   |false=>
    rw[hT]at HTc;have wM:=jB (HAdd.out hT);clear KH HAdd;go_wp2_with fail;refine HTc.out.mono ?_;rintro en w4 ⟨rfl,rfl⟩;generalize hW3:w2.setCell (Ad wr.heap.size 2) (.iface T2 (Pt a2 0))=w3 at *;clear hW3 c2 fz;have asE:w.heap.size<=w3.heap.size:=by omega
    have HS3:=jB hs3;clear hs3 FV hww;go_wp2_with (at_builtin;refine wpList_append_lies _ rfl _ _ 346 rfl w.heap.size 361 PW _ 3 40 Tryz.underlying346 hi0 hz0 hz1 hz2 rfl (by decide) (.slice ka fl kc) fl cells rfl (HO.out _) (Ad w3.heap.size 0) 1 1 [.string bt,Im ba,.iface T2 (Pt a2 0)] rfl rfl (fM (cs:=#[.string bt,Im ba,.iface T2 (Pt a2 0)]) (t:=361) (fr:=(0,0)) (aY w3 _)) (by simp[Value.oneCell']) (by decide) (by unfold maxLen;omega) (by omega) (by simp;omega) (w3.heap.size+1) (by simp) ?_;intro gg cap w5 hown hgr hat hlt2);have KC:=jB (wM.out _ _ _ _ hgr hown (by rw[<-HS3.out];exact hat));clear hgr hown hat wM HO;go_wp2_with fail;go_roundg g'
    case measure=>omega
    case rel=>exact⟨k+1,m',_,_,by omega,by omega,by go_num,KC.out⟩
  .have d1:decide ((k:Int)<(x.jF.length:Int))=false:=by simp;omega
   have hke:k=x.jF.length:=by omega
   subst hke;have hSr:=hR.set;have d4:wr.cell? (Ad S 4)=some (.slice fa x.jF.length fc):=jH hSr;have fz:∀j,wr.frozen? (Ad S j)=false:=λj=>oh hSr;have HE:Hid (DN x (wr.setCell (Ad S 4) (.slice ka fs.length kc)) lo hi w.heap.size (wr.setCell (Ad S 4) (.slice ka fs.length kc)).heap.size S/\Fk w (wr.setCell (Ad S 4) (.slice ka fs.length kc)) lo hi):=
    ⟨hK.done b1 b2 hR.m2 b3 hR.fk.size hSr,hR.fk.trans (Fk.set b1 b2)⟩
   clear hK hR Fg HF HL hSr HB;generalize fs.length=fl at *;go_wp2_with fail;go_end0;exact⟨rfl,HE.out⟩
end
end
end Go.Proofs.YthllhabjfchgiaaGreatDoor
