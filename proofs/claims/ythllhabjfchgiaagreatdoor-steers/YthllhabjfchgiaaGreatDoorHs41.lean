import Derived.Test.YthllhabjfchgiaaGreatDoorHs40
import Derived.Test.YthllhabjfchgiaaGreatDoorHs09
set_option maxRecDepth 100000
set_option maxHeartbeats 8000000
set_option linter.unusedSimpArgs false
namespace Go.Proofs.YthllhabjfchgiaaGreatDoor
open _root_.Go.Proofs.Tryz
section
open Go.RowKit Hx
section
variable {s:ji}{ex ex':Ps->Ex×Ps}{jM:Ps->List jI×Ps}{p q:Ps}
def LY(s:ji)(jM:Ps->List jI×Ps)(k:Int):Prop:=∀p,p.Ok s->(jM p).2.Ok s/\((jM p).2.en=0->p.en=0/\∃zs t,qF (jM p).1 zs t/\p.k.at'+t+k<=(jM p).2.k.at')
def yt(s:ji)(p:Ps)(r:jI×Ps):Prop:=r.2.Ok s/\(r.2.en=0->p.en=0/\∃t,QS t r.1/\p.k.at'+t<=r.2.k.at')
theorem yt.of{r:jI×Ps}{t:Int}(a:p.Ok s)(h:pV s p r.2 t)(b:QS t r.1):yt s p r:=⟨(h a).1,λe=>⟨((h a).2 e).1,t,b,((h a).2 e).2⟩⟩
theorem Vz(h:tK s ex)(a:p.Ok s):∃t,QX t (qO s ex p).1/\pV s p (qO s ex p).2 (t+2):=by
 obtain⟨t,b,c⟩:=h (p.expect s [61]) (a.expect [61]);exact⟨t,b,(((EU (by simp)).trans c).trans (EU (by simp))).less (by omega)⟩
theorem apg(h:tK s ex)(a:p.Ok s)(b:p.is [118,97,114]=true):yt s p (Eb s ex p):=by
 obtain⟨t,c,d⟩:=Vz h (p:=((p.next s).name s).2) a.next.name;exact yt.of a ((((rZ (qP (by simp) b)).trans NM).trans d).less (t':=t+3) (by omega)) (apm c _ _)
theorem ato(h:tK s ex)(a:p.Ok s):yt s p (Lu s ex p):=by
 obtain⟨t,b,c⟩:=Vz h (p:=(p.name s).2) a.name;exact yt.of a ((NM.trans c).less (t':=t+3) (by omega)) (att b _)
theorem auH(h:tK s ex)(a:p.Ok s)(c:p.k.kind=4):yt s p (LH s ex p):=by
 obtain⟨t,d,e⟩:=Vz h (p:=p.next s) a.next;obtain⟨x,b,f,g⟩:=a.kinds.register c;refine yt.of a (((rZ (LQ (by simp) b)).trans e).less (t':=t+3) (by omega)) (auK d _ _ ?_);rw[b];show 0<=((x.toNat:Int)-48)/\((x.toNat:Int)-48)<8;omega
theorem arB(h:tK s ex')(b:p.Ok s)(d:p.is [112,117,115,104]=true):yt s p (Ll s ex' p):=by
 have a:=b.next.ku [40];obtain⟨t,f,c⟩:=h _ a;have e:=((c a).1).expect [44];obtain⟨t',g,i⟩:=h _ e;exact yt.of b (((((rZ (qP (by simp) d)).trans (NP (by simp))).trans (c.trans (EU (by simp)))).trans (i.trans ((NJ (by simp)).trans (EU (by simp))))).less (t':=t+t'+3) (by omega)) (arE f g _)
theorem asq(b:p.Ok s)(a:p.is [114,101,116,117,114,110]=true):yt s p (Lm s p):=
 yt.of b (((rZ (qP (by simp) a)).trans (EU (by simp))).less (t':=2) (by omega)) (asw _)
theorem akT(h:tK s ex)(m:LY s jM 2)(n:p.Ok s)(v:p.is [105,102]=true):yt s p (CG s ex jM p):=by
 obtain⟨a,o,D⟩:=h (p.next s) n.next;have t:pV s p (ex (p.next s)).2 (1+a):=(rZ (qP (by simp) v)).trans D;obtain⟨B,j⟩:=t n;obtain⟨e,l⟩:=m _ B;unfold CG;simp only;split
 .rename_i d;obtain⟨C,u⟩:=m _ e.next;refine⟨C,λc=>?_⟩;obtain⟨z,J,r,A,I⟩:=u c;obtain⟨g,G,b,i,F⟩:=l z;obtain⟨f,E⟩:=j g;have:=Ho e;have H:=qP (q:=(jM (ex (p.next s)).2).2) (by simp) d;exact⟨f,a+b+r+3,abZ o i A _,by show p.k.at'+(a+b+r+3)<=(jM ((jM (ex (p.next s)).2).2.next s)).2.k.at';omega⟩
 .refine⟨e,λc=>?_⟩;obtain⟨g,G,b,i,F⟩:=l c;obtain⟨f,E⟩:=j g;exact⟨f,a+b+0+3,abZ o i (show qF [] [] 0 from⟨rfl,rfl⟩) _,by show p.k.at'+(a+b+0+3)<=(jM (ex (p.next s)).2).2.k.at';omega⟩
theorem ao2(h:tK s ex')(o:LY s jM 2)(n:Nat)(r:p.Ok s)(u:p.is [101,97,99,104]=true):yt s p (CY s jM ex' n p):=by
 have m:pV s p (((p.next s).name s).2.expect s [105,110]) 3:=(((rZ (qP (by simp) u)).trans NM).trans (EU (by simp))).less (by omega);have b:=(m r).1;unfold CY;simp only;have c:(nB s ex' n (((p.next s).name s).2.expect s [105,110])).2.Ok s:=by
  rcases SV h n b with⟨j,_,a⟩|⟨_,a⟩
  .exact(a b).1
  .rw[a];exact b.fail
 cases f:(nB s ex' n (((p.next s).name s).2.expect s [105,110])).1.2 with
 |true=>
  simp only[dM];obtain⟨i,e⟩:=o _ c.fail;exact⟨i,λd=>jl (e d).1 (J3 _)⟩
 |false=>
  simp only[aH,cZ];obtain⟨i,e⟩:=o _ c;refine⟨i,λd=>?_⟩;obtain⟨g,F,t,v,C⟩:=e d;rcases SV h n b with⟨j,A,l⟩|⟨_,a⟩
  .rw[f]at l;simp only[aH,cZ]at l;obtain⟨B,E⟩:=(l b).2 g;obtain⟨z,D⟩:=(m r).2 B;exact⟨z,j+t+4,ao8 A v _ _,by show p.k.at'+(j+t+4)<=(jM (nB s ex' n (((p.next s).name s).2.expect s [105,110])).2).2.k.at';omega⟩
  .rw[a]at g;exact jl g (J3 _)
theorem auz(c:tK s ex)(m:tK s ex')(o:LY s jM 2)(n:Nat)(b:p.Ok s):(∀e,(o8 s ex jM ex' n p).1=some e->yt s p (e,(o8 s ex jM ex' n p).2))/\((o8 s ex jM ex' n p).1=none->(o8 s ex jM ex' n p).2=p):=by
 unfold o8;by_cases l:p.k.kind=2
 .rw[jh l];exact⟨λe a=>by cases a;exact ato c b,λa=>by cases a⟩
 rw[jg l];by_cases d:p.k.kind=4
 .rw[jh d];exact⟨λe a=>by cases a;exact auH c b d,λa=>by cases a⟩
 rw[jg d];by_cases f:p.is [118,97,114]=true
 .rw[jh f];exact⟨λe a=>by cases a;exact apg c b f,λa=>by cases a⟩
 rw[jg f];by_cases g:p.is [112,117,115,104]=true
 .rw[jh g];exact⟨λe a=>by cases a;exact arB m b g,λa=>by cases a⟩
 rw[jg g];by_cases h:p.is [114,101,116,117,114,110]=true
 .rw[jh h];exact⟨λe a=>by cases a;exact asq b h,λa=>by cases a⟩
 rw[jg h];by_cases i:p.is [105,102]=true
 .rw[jh i];exact⟨λe a=>by cases a;exact akT c o b i,λa=>by cases a⟩
 rw[jg i];by_cases j:p.is [101,97,99,104]=true
 .rw[jh j];exact⟨λe a=>by cases a;exact ao2 m o n b j,λa=>by cases a⟩
 rw[jg j];exact⟨(λe a=>by cases a),λ_=>rfl⟩
theorem ahm{st:Ps->Option jI×Ps}(c:∀p,p.Ok s->(∀e,(st p).1=some e->yt s p (e,(st p).2))/\((st p).1=none->(st p).2=p)):∀(n:Nat)(l:List jI)(a p:Ps),p.Ok s->(p.en=0->a.en=0/\∃d t,qF l d t/\a.k.at'+t<=p.k.at')->(qg st n l p).2.Ok s/\((qg st n l p).2.en=0->a.en=0/\∃d t,qF (qg st n l p).1 d t/\a.k.at'+t<=(qg st n l p).2.k.at')
 |0,l,a,p,ok,h=>⟨ok,h⟩
 |n+1,l,a,p,ok,h=>by
  obtain⟨C,D⟩:=c p ok;unfold qg;split
  .rename_i e q b;have A:(st p).1=some e:=by rw[b]
   have f:(st p).2=q:=by rw[b]
   obtain⟨m,j⟩:=C e A;rw[f]at m j;refine ahm c n _ a q m λB=>?_;obtain⟨o,t,r,g⟩:=j B;obtain⟨u,d,H,v,I⟩:=h o;obtain⟨z,F,E,G⟩:=r;exact⟨u,_,H+t,aeG v E G,by have g:p.k.at'+t<=q.k.at':=g;omega⟩
  .rename_i q b;have f:(st p).2=q:=by rw[b]
   have i:=D (by rw[b]);rw[f]at i;subst i;exact⟨ok,h⟩
theorem ahx(s:ji):∀d:Nat,LY s (mV s d) 0
 |0,p,a=>⟨a,λb=>⟨b,[],0,⟨rfl,rfl⟩,by show p.k.at'+0+0<=p.k.at';omega⟩⟩
 |d+1,p,a=>by
  have r:=ahx s d;have u:LY s (qj s (mV s d)) 2:=λp a=>by
   have j:pV s p (p.ku s [123]) 1:=NP (by simp);obtain⟨c,f⟩:=r _ (j a).1;have l:pV s (mV s d (p.ku s [123])).2 ((mV s d (p.ku s [123])).2.close s [125]) 1:=NJ (by simp);refine⟨(l c).1,λb=>?_⟩;obtain⟨e,i⟩:=(l c).2 b;obtain⟨m,h,t,n,z⟩:=f e;obtain⟨o,A⟩:=(j a).2 m;exact⟨o,h,t,n,by show p.k.at'+t+2<=((mV s d (p.ku s [123])).2.close s [125]).k.at';omega⟩
  have g:=λ(p:Ps)(a:p.Ok s)=>auz (p:=p) (Ve s (d+1)) (Ve s d) u (s.size+1) a;obtain⟨c,f⟩:=ahm g (s.size+1) [] p p a (λb=>⟨b,[],0,⟨rfl,rfl⟩,by omega⟩);refine⟨c,λb=>?_⟩;obtain⟨e,h,t,i,v⟩:=f b;exact⟨e,h,t,i,by show p.k.at'+t+0<=(qg _ (s.size+1) [] p).2.k.at';omega⟩
theorem akP(s:ji)(h:(nH s).2.1=0):∃b t,qF (nH s).1 b t/\t<=4000/\(oJ (nH s).1 ⟨[],0,0⟩).en=0/\lS (nH s).1<=1000000:=by
 unfold nH at h⊢;split at h
 .contradiction
 split at h
 .contradiction
 split at h
 .exact jl h (by decide)
 rename_i a d l;rw[jg a,jg d,jg l];have a:(oP s).2.1=0:=by simpa using a
 have d:(qK (oP s).1 ⟨[],0,0⟩).en=0:=by simpa using d
 show∃b t,qF (oP s).1 b t/\t<=4000/\(oJ (oP s).1 ⟨[],0,0⟩).en=0/\lS (oP s).1<=1000000;have m:∃b t,qF (oP s).1 b t/\t<=4000:=by
  unfold oP at a⊢;split at a
  .exact jl a (by decide)
  .rename_i f;rw[jg f];unfold xU at a⊢;split at a
   .rename_i c;rw[jh c];obtain⟨g,k⟩:=ahx s 21 (yF s) (SA s);have e:(mV s 21 (yF s)).2.en=0:=by
     unfold GL at c;split at c
     .exact c
     .exact jl c (J3 _)
    obtain⟨r,b,t,j,u⟩:=k e;refine⟨b,t,j,?_⟩;have v:=g.tok.bd;have z:=g.tok.zA;have A:=(SA s).tok.zA;omega
   .rename_i c;exact jl a c
 obtain⟨b,t,i,o⟩:=m;refine⟨b,t,i,o,d,?_⟩;rw[<-Ia (λx n=>((Jd i).pos x n).1) (by omega)];omega
end
end
section
open Go.RowKit
open Hx (Rd Pk Vw St Mc jK)
attribute [local go_sem ↓] Go.wp_at_zero Go.wp_at_succ
attribute [local go_sem] kN
def Dc(c n:Int):Int:=(if c<0 then -(c+1)else c)%n
theorem af0{c n:Int}(a:0<n):0<=Dc c n/\Dc c n<n:=⟨Int.emod_nonneg _ (by omega),Int.emod_lt_of_pos _ a⟩
theorem aq9(w:jk)(c n:Int)(a:jK c)(j:0<n)(b:n<=9223372036854775807):
 Calls prog 28 #[Im c,Im n] w λe f=>e=.returned (Im (Dc c n))/\f=w:=by
 obtain⟨g,i⟩:=a;have k:¬n=0:=by omega
 by_cases h:c<0
 .have d:decide (c<0)=true:=dR h;go_enter func28,ntmps28;go_wp2;go_ret;refine⟨zI ?_,rfl⟩;rw[Dc,jh h];first
   |(rw[<-Int.neg_tmod];exact Int.tmod_eq_emod_of_nonneg (by omega))
   |exact Int.tmod_eq_emod_of_nonneg (by omega)
 .have d:decide (c<0)=false:=dO h;go_enter func28,ntmps28;go_wp2;go_ret;refine⟨zI ?_,rfl⟩;rw[Dc,jg (by omega)]
end
section
open Go.RowKit
open Hx (Rd Pk Vw St Mc jK)
section
def vO(out:List Rd):List Rd->List Rd
 |[]=>out
 |r::rs=>if out.length<8 then vO (if out.any (λq=>decide (q.id=Dc r.id 8))then out else out++[{r with id:=Dc r.id 8}]) rs else out
def rQ(v:Vw):Vw:=⟨vO [] v.jU,v.kK.take 16,v.jW.take 16⟩
def yY(l:List Rd):List jm:=l.flatMap λr=>[Im r.id,Im r.qR,Im r.tZ,Im r.out,.bool r.wo]
def uo(l:List Pk):List jm:=l.flatMap λp=>[Im p.seq,Im p.size,Im p.on]
def yH(out:List Rd):Array jm:=(List.range 8).map (λ(k:Nat)=>Value.bool (out.any λq=>decide (q.id=(k:Int))))|>.toArray
def BI(u v:jm):Prop:=∀k,u.ownBlock=some k->v.ownBlock=some k->False
theorem BI.symm{u v:jm}(h:BI u v):BI v u:=λk a b=>h k b a
theorem BI.or{u v:jm}(h:BI u v):u.ownBlock=none\/u.ownBlock≠v.ownBlock:=by
 cases a:u.ownBlock with
 |none=>exact jf rfl
 |some k=>exact je λe=>h k a e.symm
theorem UF(v:jm):BI (Nl) v:=λk h _=>by simp[Value.ownBlock]at h
structure Raw where
 ar:Option Addr
 af:Option Addr
 aa:Option Addr
 nr:Nat
 cr:Nat
 nf:Nat
 cf:Nat
 na:Nat
 ca:Nat
structure oV(w wr:jk)(x:Raw)(vr vf va:jm)(out:List Rd)(fs gs:List Pk)(sn:Array jm):Prop where
 below:Below w.heap.size w wr
 size:w.heap.size+4<=wr.heap.size
 b0:wr.heap[w.heap.size]? =some (.cells #[.slice x.ar x.nr x.cr,.slice x.af x.nf x.cf,.slice x.aa x.na x.ca] 25)
 b1:wr.heap[w.heap.size+1]? =some (.cells #[Nl,Nl,Nl] 25)
 b2:wr.heap[w.heap.size+2]? =some (.cells #[vr,vf,va] 25)
 b3:wr.heap[w.heap.size+3]? =some (.cells sn 146)
 zL:wr.ownsRow (w.heap.size+4) 74 5 vr out.length (yY out)
 zK:wr.ownsRow (w.heap.size+4) 72 3 vf fs.length (uo fs)
 zJ:wr.ownsRow (w.heap.size+4) 72 3 va gs.length (uo gs)
 OM:BI vr vf
 OL:BI vr va
 OJ:BI vf va
variable {w wr y:jk}{x:Raw}{vr vf va:jm}{out:List Rd}{fs gs:List Pk}{sn:Array jm}
theorem oV.grow(h:oV w wr x vr vf va out fs gs sn)(a:wr.grownBy y none):oV w y x vr vf va out fs gs sn:=by
 have e:=h.size;have b:∀k,k<w.heap.size+4->y.heap[k]? =wr.heap[k]? :=λk d=>a.block k (by omega) (by simp);have c:∀v:jm,v.ownBlock=none\/v.ownBlock≠none:=λv=>by cases v.ownBlock<;>simp
 exact⟨h.below.trans ⟨a.os,a.tape,a.output,a.size,λk d=>b k (by omega)⟩,by have:=a.size;omega,(b _ (by omega)).trans h.b0,(b _ (by omega)).trans h.b1,(b _ (by omega)).trans h.b2,(b _ (by omega)).trans h.b3,
  h.zL.kept a (c _),h.zK.kept a (c _),h.zJ.kept a (c _),h.OM,h.OL,h.OJ⟩
theorem yD{B k:Nat}{e:jo}{s n:Nat}{v:jm}{xs:List jm}(h:wr.ownsRow B e s v n xs)(b:k<B):v.ownBlock=none\/v.ownBlock≠some k:=by
 cases a:v.ownBlock with
 |none=>exact jf rfl
 |some g=>
  right;have:=(h.lt g a).1;intro e;simp only[bJ]at e;omega
theorem oV.seen(h:oV w wr x vr vf va out fs gs sn)(j:Nat)(u:jm):oV w (wr.setCell (Ad (w.heap.size+3) j) u) x vr vf va out fs gs (sn.setIfInBounds j u):=by
 have c:=h.size;have a:=mM wr (w.heap.size+3) j u;have o:∀k,k≠w.heap.size+3->(wr.setCell (Ad (w.heap.size+3) j) u).heap[k]? =wr.heap[k]? :=λk b=>bC _ _ _ _ b;exact⟨h.below.setCell (p:=(Ad (w.heap.size+3) j)) (by show _<=w.heap.size+3;omega) _,by simpa using c,(o _ (by omega)).trans h.b0,(o _ (by omega)).trans h.b1,(o _ (by omega)).trans h.b2,
  aK _ _ _ _ _ _ h.b3,h.zL.kept a (yD h.zL (by omega)),h.zK.kept a (yD h.zK (by omega)),h.zJ.kept a (yD h.zJ (by omega)),h.OM,h.OL,h.OJ⟩
theorem Lh{B:Nat}{e:jo}{s n:Nat}{u v:jm}{xs:List jm}{g:Nat}(h:wr.ownsRow B e s u n xs)(i:wr.grownBy y v.ownBlock)(f:BI u v)(a:v.ownBlock=some g\/wr.heap.size<=g)(l c:Nat):
 y.ownsRow B e s u n xs/\BI u (.slice (some (Ad g 0)) l c):=by
 refine⟨h.kept i f.or,λk b d=>?_⟩;simp only[Value.ownBlock,bJ]at d;subst d;rcases a with e|e
 .exact f g b e
 .have:=(h.lt g b).2;omega
theorem oV.after(h:oV w wr x vr vf va out fs gs sn){v:jm}(n:v=vr\/v=vf\/v=va)(a:wr.grownBy y v.ownBlock)(j:Nat)(u:jm):
 Below w.heap.size w (y.setCell (Ad (w.heap.size+2) j) u)/\w.heap.size+4<=(y.setCell (Ad (w.heap.size+2) j) u).heap.size/\
 (∀k,k<w.heap.size+4->k≠w.heap.size+2->(y.setCell (Ad (w.heap.size+2) j) u).heap[k]? =wr.heap[k]?)/\
 (y.setCell (Ad (w.heap.size+2) j) u).heap[w.heap.size+2]? =some (.cells ((#[vr,vf,va]:Array jm).setIfInBounds j u) 25)/\y.heap[w.heap.size+2]? =some (.cells #[vr,vf,va] 25):=by
 have o:=h.size;have g:∀k,k<w.heap.size+4->some k≠v.ownBlock:=λk b e=>by
  have i:=h.zL.lt k;have c:=h.zK.lt k;have l:=h.zJ.lt k;rcases n with rfl|rfl|rfl
  .have:=i e.symm;omega
  .have:=c e.symm;omega
  .have:=l e.symm;omega
 have d:∀k,k<w.heap.size+4->y.heap[k]? =wr.heap[k]? :=λk b=>a.block k (by omega) (g k b);have c:=(d (w.heap.size+2) (by omega)).trans h.b2;have m:=a.size;refine⟨?_,by simp;omega,λk b f=>(bC _ _ _ _ f).trans (d k b),aK _ _ _ _ _ _ c,c⟩;exact(h.below.trans ⟨a.os,a.tape,a.output,a.size,λk b=>d k (by omega)⟩).setCell (p:=(Ad (w.heap.size+2) j)) (by show _<=w.heap.size+2;omega) _
theorem oV.ajB(h:oV w wr x vr vf va out fs gs sn)(d:wr.grownBy y vr.ownBlock){g cap:Nat}(r:Rd)(j:y.ownsRow (w.heap.size+4) 74 5 (.slice (some (Ad g 0)) (out.length+1) cap) (out.length+1) (yY out++[Im r.id,Im r.qR,Im r.tZ,Im r.out,.bool r.wo]))(b:vr.ownBlock=some g\/wr.heap.size<=g):
 oV w (y.setCell (Ad (w.heap.size+2) 0) (.slice (some (Ad g 0)) (out.length+1) cap)) x (.slice (some (Ad g 0)) (out.length+1) cap) vf va (out++[r]) fs gs sn:=by
 obtain⟨l,m,c,n,t⟩:=h.after (jf rfl) d 0 (.slice (some (Ad g 0)) (out.length+1) cap);have u:=h.size;have a:=mM y (w.heap.size+2) 0 (.slice (some (Ad g 0)) (out.length+1) cap);obtain⟨i,o⟩:=Lh h.zK d h.OM.symm b (out.length+1) cap;obtain⟨f,k⟩:=Lh h.zJ d h.OL.symm b (out.length+1) cap;have e:=j.kept a (yD j (by omega));refine⟨l,m,(c _ (by omega) (by omega)).trans h.b0,(c _ (by omega) (by omega)).trans h.b1,n,(c _ (by omega) (by omega)).trans h.b3,?_,i.kept a (yD i (by omega)),f.kept a (yD f (by omega)),o.symm,k.symm,h.OJ⟩;simpa [yY]using e
theorem oV.ajA(h:oV w wr x vr vf va out fs gs sn)(d:wr.grownBy y vf.ownBlock){g cap:Nat}(r:Pk)(j:y.ownsRow (w.heap.size+4) 72 3 (.slice (some (Ad g 0)) (fs.length+1) cap) (fs.length+1) (uo fs++[Im r.seq,Im r.size,Im r.on]))(b:vf.ownBlock=some g\/wr.heap.size<=g):
 oV w (y.setCell (Ad (w.heap.size+2) 1) (.slice (some (Ad g 0)) (fs.length+1) cap)) x vr (.slice (some (Ad g 0)) (fs.length+1) cap) va out (fs++[r]) gs sn:=by
 obtain⟨l,m,c,n,t⟩:=h.after (je (jf rfl)) d 1 (.slice (some (Ad g 0)) (fs.length+1) cap);have u:=h.size;have a:=mM y (w.heap.size+2) 1 (.slice (some (Ad g 0)) (fs.length+1) cap);obtain⟨i,o⟩:=Lh h.zL d h.OM b (fs.length+1) cap;obtain⟨f,k⟩:=Lh h.zJ d h.OJ.symm b (fs.length+1) cap;have e:=j.kept a (yD j (by omega));refine⟨l,m,(c _ (by omega) (by omega)).trans h.b0,(c _ (by omega) (by omega)).trans h.b1,n,(c _ (by omega) (by omega)).trans h.b3,i.kept a (yD i (by omega)),?_,f.kept a (yD f (by omega)),o,h.OL,k.symm⟩;simpa [uo]using e
theorem oV.ajz(h:oV w wr x vr vf va out fs gs sn)(d:wr.grownBy y va.ownBlock){g cap:Nat}(r:Pk)(j:y.ownsRow (w.heap.size+4) 72 3 (.slice (some (Ad g 0)) (gs.length+1) cap) (gs.length+1) (uo gs++[Im r.seq,Im r.size,Im r.on]))(b:va.ownBlock=some g\/wr.heap.size<=g):
 oV w (y.setCell (Ad (w.heap.size+2) 2) (.slice (some (Ad g 0)) (gs.length+1) cap)) x vr vf (.slice (some (Ad g 0)) (gs.length+1) cap) out fs (gs++[r]) sn:=by
 obtain⟨l,m,c,n,t⟩:=h.after (je (je rfl)) d 2 (.slice (some (Ad g 0)) (gs.length+1) cap);have u:=h.size;have a:=mM y (w.heap.size+2) 2 (.slice (some (Ad g 0)) (gs.length+1) cap);obtain⟨i,o⟩:=Lh h.zL d h.OL b (gs.length+1) cap;obtain⟨f,k⟩:=Lh h.zK d h.OJ b (gs.length+1) cap;have e:=j.kept a (yD j (by omega));refine⟨l,m,(c _ (by omega) (by omega)).trans h.b0,(c _ (by omega) (by omega)).trans h.b1,n,(c _ (by omega) (by omega)).trans h.b3,i.kept a (yD i (by omega)),f.kept a (yD f (by omega)),?_,h.OM,o,k⟩;simpa [uo]using e
theorem XZ(out:List Rd)(k:Nat)(a:k<8):(yH out)[k]? =some (.bool (out.any λq=>decide (q.id=(k:Int)))):=by
 simp[yH,a]
theorem as9(out:List Rd)(r:Rd)(k:Nat)(d:k<8)(f:r.id=(k:Int)):(yH out).setIfInBounds k (.bool true)=yH (out++[r]):=by
 apply Array.ext_getElem?;intro i;rw[Array.getElem?_setIfInBounds];by_cases a:i<8
 .rw[XZ _ _ a,XZ _ _ a];by_cases e:k=i
  .subst e;rw[jh rfl,jh (by simpa [yH]using d)];simp[f]
  .rw[jg e];have:¬r.id=(i:Int):=by omega
   simp[this]
 .have b:(yH out)[i]? =none:=by simp[yH];omega
  have c:(yH (out++[r]))[i]? =none:=by simp[yH];omega
  rw[b,c];by_cases e:k=i
  .omega
  .rw[jg e]
end
end
section
open Go.RowKit
open Hx (Rd Pk Vw St Mc jK)
attribute [local go_sem ↓] Go.wp_at_zero Go.wp_at_succ
attribute [local go_sem] kN
section
variable {w:jk}
theorem anB:(prog.info? 74).map (λi=>(i.zero,i.size,i.bytes))=some (some (.agg #[Im 0,Im 0,Im 0,Im 0,.bool false]),5,40):=by kernel_rfl
theorem adQ:(prog.info? 72).map (λi=>(i.zero,i.size,i.bytes))=some (some (.agg #[Im 0,Im 0,Im 0]),3,24):=by kernel_rfl
structure PZ(w wr:jk)(vr vf va:jm)(out:List Rd)(fs gs:List Pk):Prop where
 below:Below w.heap.size w wr
 zL:wr.ownsRow (w.heap.size+4) 74 5 vr out.length (yY out)
 zK:wr.ownsRow (w.heap.size+4) 72 3 vf fs.length (uo fs)
 zJ:wr.ownsRow (w.heap.size+4) 72 3 va gs.length (uo gs)
theorem oV.out{wr:jk}{x:Raw}{vr vf va:jm}{out:List Rd}{fs gs:List Pk}{sn:Array jm}(h:oV w wr x vr vf va out fs gs sn)(a b c:jm):PZ w (((wr.setCell (Ad (w.heap.size+1) 0) a).setCell (Ad (w.heap.size+1) 1) b).setCell (Ad (w.heap.size+1) 2) c) vr vf va out fs gs:=by
 have e:=mM wr (w.heap.size+1) 0 a;have f:=mM (wr.setCell (Ad (w.heap.size+1) 0) a) (w.heap.size+1) 1 b;have g:=mM ((wr.setCell (Ad (w.heap.size+1) 0) a).setCell (Ad (w.heap.size+1) 1) b) (w.heap.size+1) 2 c;have d:=(e.trans f).trans g;refine⟨((h.below.setCell (p:=(Ad (w.heap.size+1) 0)) (by show _<=w.heap.size+1;omega) _).setCell (p:=(Ad (w.heap.size+1) 1)) (by show _<=w.heap.size+1;omega) _).setCell (p:=(Ad (w.heap.size+1) 2)) (by show _<=w.heap.size+1;omega) _,?_,?_,?_⟩
 .exact h.zL.kept d (yD h.zL (by omega))
 .exact h.zK.kept d (yD h.zK (by omega))
 .exact h.zJ.kept d (yD h.zJ (by omega))
theorem avs(a:Array jm)(w:jk)(g:Nat)(b c d:jm)(e:a[2]? =some (Pt g 0))(f:w.cell? (Ad g 0)=some b)(q1:w.cell? (Ad g 1)=some c)(h:w.cell? (Ad g 2)=some d):
 (results Tryz.f29 a).run prog w=.ok (.agg #[b,c,d]) w:=by
 simp[results,Tryz.results29,go_sem,e,f,q1,h]
theorem avv(w:jk)(x:Raw):oV w ((((w.alloc (.cells #[.slice x.ar x.nr x.cr,.slice x.af x.nf x.cf,.slice x.aa x.na x.ca] 25)).alloc (.cells #[Nl,Nl,Nl] 25)).alloc (.cells #[Nl,Nl,Nl] 25)).alloc
 (.cells #[.bool false,.bool false,.bool false,.bool false,.bool false,.bool false,.bool false,.bool false] 146)) x (Nl) (Nl) (Nl) [] [] [] (yH []):=by
 generalize f:Obj.cells #[.slice x.ar x.nr x.cr,.slice x.af x.nf x.cf,.slice x.aa x.na x.ca] 25=c;generalize b:Obj.cells #[Nl,Nl,Nl] 25=a;generalize h:Obj.cells #[Value.bool false,.bool false,.bool false,.bool false,.bool false,.bool false,.bool false,.bool false] 146=d;have e:((((w.alloc c).alloc a).alloc a).alloc d).heap=(((w.heap.push c).push a).push a).push d:=rfl;have s:((((w.alloc c).alloc a).alloc a).alloc d).heap.size=w.heap.size+4:=by rw[e];simp
 have g:w.grownBy ((((w.alloc c).alloc a).alloc a).alloc d) none:=(((ah w _ none).trans (ah _ _ none)).trans (ah _ _ none)).trans (ah _ _ none);refine⟨⟨g.os,g.tape,g.output,g.size,λk i=>g.block k i (by simp)⟩,by omega,?_,?_,?_,?_,fK _ _ _ _,fK _ _ _ _,fK _ _ _ _,UF _,UF _,UF _⟩
 .rw[e,f];simp only[eH,eY];repeat (rw[jg (by omega)])
  exact jh trivial
 .rw[e,b];simp only[eH,eY];repeat (rw[jg (by omega)])
  exact jh trivial
 .rw[e,b];simp only[eH,eY];repeat (rw[jg (by omega)])
  exact jh trivial
 .rw[e,show yH []=#[Value.bool false,.bool false,.bool false,.bool false,.bool false,.bool false,.bool false,.bool false]from rfl,h];simp only[eH,eY];repeat (rw[jg (by omega)])
  exact jh trivial
theorem ahd(w:jk)(o:Obj)(n:Nat):((w.alloc o).drewN n).heap.size=w.heap.size+1:=eY ..
theorem avq(x:Raw)(v:Vw)(F:uV w.heap.size w x.ar x.af x.aa x.nr x.nf x.na v)(ay:x.nr<=maxLen):
 Calls prog 29 #[.agg #[.slice x.ar x.nr x.cr,.slice x.af x.nf x.cf,.slice x.aa x.na x.ca]] w λe w'=>∃vr vf va,e=.returned (.agg #[vr,vf,va])/\PZ w w' vr vf va (vO [] v.jU) (v.kK.take 16) (v.jW.take 16):=by
 go_enter func29,ntmps29;go_upto_block 0 with fail;go_cut [] (λwx=>∃vr,oV w wx x vr (Nl) (Nl) (vO [] v.jU) [] [] (yH (vO [] v.jU)))
 case first=>
  go_wp2_with fail;go_loopw [5] (λi wr=>∃(k:Nat)(vr:jm)(out:List Rd),k<=x.nr/\i=Im k/\Hid (vO [] v.jU=vO out (v.jU.drop k))/\oV w wr x vr (Nl) (Nl) out [] [] (yH out)) (λi _=>x.nr-(intOf i).toNat)
  case atStart=>exact⟨0,_,[],bD _,rfl,rfl,avv w x⟩
  case round=>
   obtain⟨k,vr,out,hk,rfl,HE,a⟩:=hrel;obtain⟨JU,JY,rfl⟩:=vI a.zL;have q0:=jJ 0 a.b0 rfl;have o0:=jJ 0 a.b2 rfl;have ab:=F.KE;have aD:x.nr<=9223372036854775807:=by unfold maxLen at ay;omega
   by_cases ae:k<x.nr
   .have d1:decide ((k:Int)<(x.nr:Int))=true:=by simp;omega
    by_cases hl:out.length<8
    .have d2:decide ((out.length:Int)<8)=true:=by simp;omega
     have d:v.jU[k]? =some v.jU[k]:=by simp
     obtain⟨b,o,E,h,b',o',e,S,T,W,c4,c5⟩:=F.jU k _ d;obtain⟨rfl,rfl⟩:b=b'/\o+k * 5=o':=by simpa using e
     have am:=F.yX.jU v.jU[k] (by simp);have V:Hid (v.jU.drop k=v.jU[k]::v.jU.drop (k+1)):=dA (by omega);generalize v.jU[k]=r at *;have w1:=(a.below.cell (p:=(Ad b (o+k * 5))) h).trans S;have w2:=(a.below.cell (p:=(Ad b (o+k * 5+1))) h).trans T;have w3:=(a.below.cell (p:=(Ad b (o+k * 5+2))) h).trans W;have w4:=(a.below.cell (p:=(Ad b (o+k * 5+3))) h).trans c4;have w5:=(a.below.cell (p:=(Ad b (o+k * 5+4))) h).trans c5;obtain⟨p0,p8⟩:=af0 (c:=r.id) (n:=8) (by omega);obtain⟨j,hj⟩:=bI p0;have j8:j<8:=by omega
     have HC:Hid (∀w,Calls prog 28 #[Im r.id,Im 8] w λe w'=>e=.returned (Im j)/\w'=w):=λw=>by
      have:=aq9 w r.id 8 am.1 (by omega) (by omega)
      rwa [hj]at this
     have s3:wr.cell? (Ad (w.heap.size+1+1+1) j)=some (.bool (out.any λq=>decide (q.id=(j:Int)))):=(jG a.b3).trans (XZ out j j8);have B:=jA a;have aq:=a.size;have n1:¬w.heap.size=wr.heap.size:=by omega
     have n2:¬w.heap.size+1+1=wr.heap.size:=by omega
     have n3:¬w.heap.size+1+1+1=wr.heap.size:=by omega
     have i1:(0:Int)<=(k:Int):=by omega
     have G6:(k:Int)<(x.nr:Int):=by omega
     have aE:(0:Int)<=(j:Int):=by omega
     have aG:(j:Int)<8:=by omega
     have HJ:Hid (Dc r.id 8=(j:Int)):=hj;have l2:w.heap.size+1+1<wr.heap.size:=by omega
     have l3:w.heap.size+1+1+1<wr.heap.size:=by omega
     rw[E]at q0;clear F d e S T W c4 c5 a p0 p8 hj am E ab;cases hs:out.any (λq=>decide (q.id=(j:Int)))with
     |true=>
      rw[hs]at s3;go_wp2_with (go_at_call 28;refine(HC.out _).mono ?_;rintro e w' ⟨rfl,rfl⟩);refine⟨⟨k+1,_,out,by omega,by go_num,?_,B.out.grow (ah _ _ none)⟩,by simp[intOf];omega⟩;show _=_;rw[HE.out,V.out,vO,jh hl,HJ.out,hs,jh rfl]
     |false=>
      rw[hs]at s3;obtain⟨i0,hi,N,O,P⟩:=info_parts anB;have J:Hid (∀o u H,oV w (((wr.setCell (Ad (w.heap.size+1+1+1) j) u).alloc o).alloc H) x (.slice JU out.length JY) (Nl) (Nl) out [] [] ((yH out).setIfInBounds j u)):=λo u H=>((B.out.seen j u).grow (ah _ _ none)).grow (ah _ _ none);have sf:wr.frozen? (Ad (w.heap.size+1+1+1) j)=false:=nA B.out.b3;generalize ao:yY out=rc at *;have PL:=jA ao;clear ao;have HO:Hid (∀o u H,(((wr.setCell (Ad (w.heap.size+1+1+1) j) u).alloc o).alloc H).ownsRow (w.heap.size+4) 74 5 (.slice JU out.length JY) out.length rc):=λo u H=>by
       rw[<-PL.out];exact(J.out o u H).zL
      have HP:Hid (∀o u H y,(((wr.setCell (Ad (w.heap.size+1+1+1) j) u).alloc o).alloc H).grownBy y (Value.slice JU out.length JY).ownBlock->y.cell? (Ad (w.heap.size+1+1) 0)=some (.slice JU out.length JY)/\y.frozen? (Ad (w.heap.size+1+1) 0)=false):=λo u H y U=>by
       have X:=((J.out o u H).after (jf rfl) U 0 (Nl)).2.2.2.2;exact⟨jG X,nA X⟩
      have HN:Hid (∀o u H,(((wr.setCell (Ad (w.heap.size+1+1+1) j) u).alloc o).alloc H).heap[wr.heap.size+1]? =some H):=λo u H=>by
       have:=aY ((wr.setCell (Ad (w.heap.size+1+1+1) j) u).alloc o) H;simpa using this
      go_wp2_with (first
       |(go_at_call 28;refine(HC.out _).mono ?_;rintro e w' ⟨rfl,rfl⟩)
       |(at_builtin;refine wpList_append_lies _ rfl _ _ 22 rfl (w.heap.size+4) 74 i0 _ 5 40 Tryz.underlying22 hi N O P rfl (by decide) (.slice JU out.length JY) out.length rc rfl (HO.out _ _ _) (Ad (wr.heap.size+1) 0) 1 1 [Im j,Im r.qR,Im r.tZ,Im r.out,.bool r.wo] rfl rfl (fM (cs:=#[Im j,Im r.qR,Im r.tZ,Im r.out,.bool r.wo]) (t:=74) (fr:=(0,0)) (HN.out _ _ _)) (by simp[Value.oneCell']) (by decide) (by unfold maxLen;omega) (by omega) (by simp;omega) (wr.heap.size+1+1) (by simp) ?_;intro g D w2 Y ak m ae;obtain⟨y1,y2⟩:=HP.out _ _ _ _ ak))
      rw[<-PL.out]at Y;have h6:=(J.out _ _ _).ajB ak {r with id:=(j:Int)} Y (m.elim jf λe=>je (by simp;omega));rw[as9 out {r with id:=(j:Int)} j j8 rfl]at h6;refine⟨⟨k+1,_,_,by omega,by go_num,?_,h6⟩,by simp[intOf];omega⟩;rw[HE.out,V.out,vO,jh hl,HJ.out,hs]
      rfl
    .have d2:decide ((out.length:Int)<8)=false:=by simp;omega
     have L:Hid (vO [] v.jU=out):=by
      show _=_;rw[HE.out,dA (by omega),vO,jg hl]
     have B:=jA a;clear F a HE ab;go_wp2_with fail;go_meet;rw[L.out];exact⟨_,B.out⟩
   .have d1:decide ((k:Int)<(x.nr:Int))=false:=by simp;omega
    have L:Hid (vO [] v.jU=out):=by
     show _=_;rw[HE.out,List.drop_eq_nil_of_le (by omega),vO]
    have B:Hid (oV w wr x (.slice JU out.length JY) (Nl) (Nl) out [] [] (yH out)):=a;clear F a HE ab;go_wp2_with fail;go_meet;rw[L.out];exact⟨_,B.out⟩
 case rest=>
  obtain⟨vr,ac⟩:=hcut;generalize ap:vO [] v.jU=C at *;have aw:Hid (vO [] v.jU=C):=ap;clear ap;generalize yH C=sn at *;go_upto_block 2 with fail;go_cut [] (λwx=>∃vf,oV w wx x vr vf (Nl) C (v.kK.take 16) [] sn)
  case first=>
   have JG:Hid (oV w wc x vr (Nl) (Nl) C [] [] sn):=ac;clear ac;go_wp2_with fail;go_loopw [7] (λi wr=>∃(vf:jm)(fs:List Pk),fs.length<=x.nf/\fs.length<=16/\i=Im fs.length/\Hid (fs=v.kK.take fs.length)/\oV w wr x vr vf (Nl) C fs [] sn) (λi _=>x.nf-(intOf i).toNat)
   case atStart=>exact⟨_,[],bD _,by simp,rfl,rfl,JG.out⟩
   case round=>
    obtain⟨vf,fs,hk,ax,rfl,I,a⟩:=hrel;have Z:=F.KD;obtain⟨z,A,rfl⟩:=vI a.zK;have q0:wr.cell? (Ad w.heap.size 1)=some (.slice x.af x.nf x.cf):=jG a.b0;have o0:wr.cell? (Ad (w.heap.size+1+1) 1)=some (.slice z fs.length A):=jG a.b2;have B:Hid (oV w wr x vr (.slice z fs.length A) (Nl) C fs [] sn):=a;clear JG;by_cases ae:fs.length<x.nf
    .have d1:decide ((fs.length:Int)<(x.nf:Int))=true:=by simp;omega
     by_cases hl:fs.length<16
     .have d2:decide ((fs.length:Int)<16)=true:=by simp;omega
      have d:v.kK[fs.length]? =some v.kK[fs.length]:=by simp
      obtain⟨b,o,E,h,b',o',e,S,T,W⟩:=F.kK fs.length _ d;obtain⟨rfl,rfl⟩:b=b'/\o+fs.length * 3=o':=by simpa using e
      have V:Hid (fs++[v.kK[fs.length]]=v.kK.take (fs.length+1)):=by
       show _=_;rw[fU,d,<-I.out];rfl
      generalize v.kK[fs.length]=r at *;have w1:wr.cell? (Ad b (o+fs.length * 3))=some (Im r.seq):=(a.below.cell (p:=(Ad b (o+fs.length * 3))) h).trans S;have w2:wr.cell? (Ad b (o+fs.length * 3+1))=some (Im r.size):=(a.below.cell (p:=(Ad b (o+fs.length * 3+1))) h).trans T;have w3:wr.cell? (Ad b (o+fs.length * 3+2))=some (Im r.on):=(a.below.cell (p:=(Ad b (o+fs.length * 3+2))) h).trans W;obtain⟨i0,hi,N,O,P⟩:=info_parts adQ;have J:Hid (∀o n,oV w ((wr.alloc o).drewN n) x vr (.slice z fs.length A) (Nl) C fs [] sn):=λo n=>(a.grow (ah _ _ none)).grow (lu _ n);have HO:Hid (∀o n,((wr.alloc o).drewN n).ownsRow (w.heap.size+4) 72 3 (.slice z fs.length A) fs.length (uo fs)):=λo n=>(J.out o n).zK;have HP:Hid (∀o n y,((wr.alloc o).drewN n).grownBy y (Value.slice z fs.length A).ownBlock->y.cell? (Ad (w.heap.size+1+1) 1)=some (.slice z fs.length A)/\y.frozen? (Ad (w.heap.size+1+1) 1)=false):=λo n y U=>by
       have X:=((J.out o n).after (je (jf rfl)) U 1 (Nl)).2.2.2.2;exact⟨jG X,nA X⟩
      have HR:Hid (∀o n y g D,((wr.alloc o).drewN n).grownBy y (Value.slice z fs.length A).ownBlock->y.ownsRow (w.heap.size+4) 72 3 (.slice (some (Ad g 0)) (fs.length+1) D) (fs.length+1) (uo fs++[Im r.seq,Im r.size,Im r.on])->((Value.slice z fs.length A).ownBlock=some g\/g=wr.heap.size+1)->
       (∃(vf:jm)(f:List Pk),f.length<=x.nf/\f.length<=16/\Im ((fs.length:Int)+1)=Im f.length/\Hid (f=v.kK.take f.length)/\oV w (y.setCell (Ad (w.heap.size+1+1) 1) (.slice (some (Ad g 0)) (fs.length+1) D)) x vr vf (Nl) C f [] sn)):=λo n y g D U ho m=>by
       have h6:=(J.out o n).ajA U r ho (m.elim jf λe=>je (by have:=ahd wr o n;omega));refine⟨_,fs++[r],by simp;omega,by simp;omega,by simp,?_,h6⟩;show _=_;simp only[aA,aF,bg,gW];exact V.out
      have aq:=a.size;have n1:¬w.heap.size=wr.heap.size:=by omega
      have n2:¬w.heap.size+1+1=wr.heap.size:=by omega
      have n3:¬b=wr.heap.size:=by omega
      have l1:w.heap.size<wr.heap.size:=by omega
      have l2:w.heap.size+1+1<wr.heap.size:=by omega
      have l3:b<wr.heap.size:=by omega
      have i1:(0:Int)<=(fs.length:Int):=by omega
      have G6:(fs.length:Int)<(x.nf:Int):=by omega
      rw[E]at q0;clear F d e S T W a E Z B V I J;generalize uo fs=pc at *;generalize fs.length=k at *;go_wp2_with fail;go_region_law ((refine step_append_lies _ (by rfl) _ _ _ (by rfl) (w.heap.size+4) 72 i0 _ 3 24 Tryz.underlying23 hi N O P (by rfl) (by omega) (.slice z k A) k pc (by rfl) (HO.out _ 1) (Ad wr.heap.size 0) 1 1 [Im r.seq,Im r.size,Im r.on] (by rfl) (by rfl) (fM (cs:=#[Im r.seq,Im r.size,Im r.on]) (t:=72) (fr:=(0,0)) (aY wr _)) (by simp[Value.oneCell']) (by omega) (by unfold maxLen;omega) (by omega) (by simp;omega) (wr.heap.size+1) (by simp) ?_;intro gg ai w4 G l m an;obtain⟨y1,y2⟩:=HP.out _ 1 _ l));all_goals (go_wp2_with fail;refine⟨HR.out _ 1 _ _ _ l G m,?_⟩;simp[intOf];omega)
     .have d2:decide ((fs.length:Int)<16)=false:=by simp;omega
      have L:Hid (fs=v.kK.take 16):=by
       show _=_;rw[show(16:Nat)=fs.length by omega];exact I.out
      clear F a Z I;go_wp2_with fail;go_meet;rw[<-L.out];exact⟨_,B.out⟩
    .have d1:decide ((fs.length:Int)<(x.nf:Int))=false:=by simp;omega
     have L:Hid (fs=v.kK.take 16):=by
      show _=_;rw[I.out,eU (by omega),eU (by omega)]
     clear F a Z I;go_wp2_with fail;go_meet;rw[<-L.out];exact⟨_,B.out⟩
  case rest=>
   obtain⟨R,ad⟩:=hcut;generalize aj:v.kK.take 16=Q at *;have au:Hid (v.kK.take 16=Q):=aj;clear aj;go_upto_block 4 with fail;go_cut [] (λwx=>∃va,oV w wx x vr R va C Q (v.jW.take 16) sn)
   case first=>
    have ag:Hid (oV w wc x vr R (Nl) C Q [] sn):=ad;clear ad;go_wp2_with fail;go_loopw [8] (λi wr=>∃(vf:jm)(fs:List Pk),fs.length<=x.na/\fs.length<=16/\i=Im fs.length/\Hid (fs=v.jW.take fs.length)/\oV w wr x vr R vf C Q fs sn) (λi _=>x.na-(intOf i).toNat)
    case atStart=>exact⟨_,[],bD _,by simp,rfl,rfl,ag.out⟩
    case round=>
     obtain⟨vf,fs,hk,ax,rfl,I,a⟩:=hrel;have Z:=F.KC;obtain⟨z,A,rfl⟩:=vI a.zJ;have q0:wr.cell? (Ad w.heap.size 2)=some (.slice x.aa x.na x.ca):=jG a.b0;have o0:wr.cell? (Ad (w.heap.size+1+1) 2)=some (.slice z fs.length A):=jG a.b2;have B:Hid (oV w wr x vr R (.slice z fs.length A) C Q fs sn):=a;clear ag;by_cases ae:fs.length<x.na
     .have d1:decide ((fs.length:Int)<(x.na:Int))=true:=by simp;omega
      by_cases hl:fs.length<16
      .have d2:decide ((fs.length:Int)<16)=true:=by simp;omega
       have d:v.jW[fs.length]? =some v.jW[fs.length]:=by simp
       obtain⟨b,o,E,h,b',o',e,S,T,W⟩:=F.jW fs.length _ d;obtain⟨rfl,rfl⟩:b=b'/\o+fs.length * 3=o':=by simpa using e
       have V:Hid (fs++[v.jW[fs.length]]=v.jW.take (fs.length+1)):=by
        show _=_;rw[fU,d,<-I.out];rfl
       generalize v.jW[fs.length]=r at *;have w1:wr.cell? (Ad b (o+fs.length * 3))=some (Im r.seq):=(a.below.cell (p:=(Ad b (o+fs.length * 3))) h).trans S;have w2:wr.cell? (Ad b (o+fs.length * 3+1))=some (Im r.size):=(a.below.cell (p:=(Ad b (o+fs.length * 3+1))) h).trans T;have w3:wr.cell? (Ad b (o+fs.length * 3+2))=some (Im r.on):=(a.below.cell (p:=(Ad b (o+fs.length * 3+2))) h).trans W;obtain⟨i0,hi,N,O,P⟩:=info_parts adQ;have J:Hid (∀o n,oV w ((wr.alloc o).drewN n) x vr R (.slice z fs.length A) C Q fs sn):=λo n=>(a.grow (ah _ _ none)).grow (lu _ n);have HO:Hid (∀o n,((wr.alloc o).drewN n).ownsRow (w.heap.size+4) 72 3 (.slice z fs.length A) fs.length (uo fs)):=λo n=>(J.out o n).zJ;have HP:Hid (∀o n y,((wr.alloc o).drewN n).grownBy y (Value.slice z fs.length A).ownBlock->y.cell? (Ad (w.heap.size+1+1) 2)=some (.slice z fs.length A)/\y.frozen? (Ad (w.heap.size+1+1) 2)=false):=λo n y U=>by
        have X:=((J.out o n).after (je (je rfl)) U 2 (Nl)).2.2.2.2;exact⟨jG X,nA X⟩
       have HR:Hid (∀o n y g D,((wr.alloc o).drewN n).grownBy y (Value.slice z fs.length A).ownBlock->y.ownsRow (w.heap.size+4) 72 3 (.slice (some (Ad g 0)) (fs.length+1) D) (fs.length+1) (uo fs++[Im r.seq,Im r.size,Im r.on])->((Value.slice z fs.length A).ownBlock=some g\/g=wr.heap.size+1)->
        (∃(vf:jm)(f:List Pk),f.length<=x.na/\f.length<=16/\Im ((fs.length:Int)+1)=Im f.length/\Hid (f=v.jW.take f.length)/\oV w (y.setCell (Ad (w.heap.size+1+1) 2) (.slice (some (Ad g 0)) (fs.length+1) D)) x vr R vf C Q f sn)):=λo n y g D U ho m=>by
        have h6:=(J.out o n).ajz U r ho (m.elim jf λe=>je (by have:=ahd wr o n;omega));refine⟨_,fs++[r],by simp;omega,by simp;omega,by simp,?_,h6⟩;show _=_;simp only[aA,aF,bg,gW];exact V.out
       have aq:=a.size;have n1:¬w.heap.size=wr.heap.size:=by omega
       have n2:¬w.heap.size+1+1=wr.heap.size:=by omega
       have n3:¬b=wr.heap.size:=by omega
       have l1:w.heap.size<wr.heap.size:=by omega
       have l2:w.heap.size+1+1<wr.heap.size:=by omega
       have l3:b<wr.heap.size:=by omega
       have i1:(0:Int)<=(fs.length:Int):=by omega
       have G6:(fs.length:Int)<(x.na:Int):=by omega
       rw[E]at q0;clear F d e S T W a E Z B V I J;generalize uo fs=pc at *;generalize fs.length=k at *;go_wp2_with fail;go_region_law ((refine step_append_lies _ (by rfl) _ _ _ (by rfl) (w.heap.size+4) 72 i0 _ 3 24 Tryz.underlying23 hi N O P (by rfl) (by omega) (.slice z k A) k pc (by rfl) (HO.out _ 1) (Ad wr.heap.size 0) 1 1 [Im r.seq,Im r.size,Im r.on] (by rfl) (by rfl) (fM (cs:=#[Im r.seq,Im r.size,Im r.on]) (t:=72) (fr:=(0,0)) (aY wr _)) (by simp[Value.oneCell']) (by omega) (by unfold maxLen;omega) (by omega) (by simp;omega) (wr.heap.size+1) (by simp) ?_;intro gg ai w4 G l m an;obtain⟨y1,y2⟩:=HP.out _ 1 _ l));all_goals (go_wp2_with fail;refine⟨HR.out _ 1 _ _ _ l G m,?_⟩;simp[intOf];omega)
      .have d2:decide ((fs.length:Int)<16)=false:=by simp;omega
       have L:Hid (fs=v.jW.take 16):=by
        show _=_;rw[show(16:Nat)=fs.length by omega];exact I.out
       clear F a Z I;go_wp2_with fail;go_meet;rw[<-L.out];exact⟨_,B.out⟩
     .have d1:decide ((fs.length:Int)<(x.na:Int))=false:=by simp;omega
      have L:Hid (fs=v.jW.take 16):=by
       show _=_;rw[I.out,eU (by omega),eU (by omega)]
      clear F a Z I;go_wp2_with fail;go_meet;rw[<-L.out];exact⟨_,B.out⟩
   case rest=>
    obtain⟨va,K⟩:=hcut;generalize al:v.jW.take 16=M at *;have av:Hid (v.jW.take 16=M):=al;clear al;obtain⟨s0,s1,rfl⟩:=vI K.zL;obtain⟨s2,s3,rfl⟩:=vI K.zK;obtain⟨s4,s5,rfl⟩:=vI K.zJ;generalize aC:Value.slice s0 C.length s1=vr at *;generalize aB:Value.slice s2 Q.length s3=R at *;generalize az:Value.slice s4 M.length s5=va at *;have c0:wc.cell? (Ad (w.heap.size+1+1) 0)=some vr:=jG K.b2;have S:wc.cell? (Ad (w.heap.size+1+1) 1)=some R:=jG K.b2;have T:wc.cell? (Ad (w.heap.size+1+1) 2)=some va:=jG K.b2;have e0:wc.cell? (Ad (w.heap.size+1) 0)=some (Nl):=jG K.b1;have e1:wc.cell? (Ad (w.heap.size+1) 1)=some (Nl):=jG K.b1;have e2:wc.cell? (Ad (w.heap.size+1) 2)=some (Nl):=jG K.b1;have ef:∀j,wc.frozen? (Ad (w.heap.size+1) j)=false:=λj=>nA K.b1;have B:Hid (oV w wc x vr R va C Q M sn):=K;clear ac ad K F;subst aC aB az;go_wp2_with fail;have hE:=Hy wc (w.heap.size+1) 25 _ _ _ (Value.slice s0 C.length s1) (Value.slice s2 Q.length s3) (Value.slice s4 M.length s5) B.out.b1;refine cu (v:=.agg #[Value.slice s0 C.length s1,Value.slice s2 Q.length s3,Value.slice s4 M.length s5]) ?_ rfl ?_
    .exact avs _ _ (w.heap.size+1) _ _ _ rfl (jG hE) (jG hE) (jG hE)
    .refine⟨_,_,_,rfl,?_⟩;rw[aw.out,au.out,av.out];exact B.out.out _ _ _
end
end
section
open Go.RowKit
open Hx (Rd Pk Vw St Mc jK)
section
variable {w:jk}
theorem as7:∀(s:Fin 256)(i k:Fin 8),(let t:=bits .or .i64 (s.val:Int) (wrap64 (2^i.val));decide (0<=t)&&decide (t<256)&&(Hx.xO t (k.val:Int)==(Hx.xO (s.val:Int) (k.val:Int)||decide (k=i))))=true:=by
 decide+kernel
theorem as8(s i:Int)(j:0<=s)(l:s<256)(d:0<=i)(e:i<8):
 0<=bits .or .i64 s (wrap64 (2^i.toNat))/\bits .or .i64 s (wrap64 (2^i.toNat))<256/\∀k:Int,0<=k->k<8->Hx.xO (bits .or .i64 s (wrap64 (2^i.toNat))) k=(Hx.xO s k||decide (k=i)):=by
 have a:=as7 ⟨s.toNat,by omega⟩ ⟨i.toNat,by omega⟩;have c:((s.toNat:Nat):Int)=s:=by omega
 simp only[c,dD,decide_eq_true_eq,beq_iff_eq]at a;refine⟨(a ⟨0,by omega⟩).1.1,(a ⟨0,by omega⟩).1.2,λk f g=>?_⟩;have h:=(a ⟨k.toNat,by omega⟩).2;have b:((k.toNat:Nat):Int)=k:=by omega
 simp only[b]at h;rw[h]
 congr 1
 simp only[Fin.mk.injEq,decide_eq_decide];omega
theorem adG:∀(d:List Rd)(c:Int),0<=c->c<256->(∀r∈d,0<=r.id/\r.id<8/\Hx.xO c r.id=false)->d.Pairwise (λa b=>a.id≠b.id)->tu c d=true
 |[],_,_,_,_,_=>rfl
 |q::d,c,h0,h1,h2,h3=>by
  obtain⟨h,i,j⟩:=h2 q (by simp);unfold tu;rw[jg (by rw[j];simp;omega)];obtain⟨l,m,n⟩:=as8 c q.id h0 h1 h i;rw[List.pairwise_cons]at h3;refine adG d _ l m (λr e=>?_) h3.2;obtain⟨f,g,k⟩:=h2 r (by simp[e]);refine⟨f,g,?_⟩;rw[n r.id f g,k];have:=h3.1 r e;simp;omega
theorem ami(k:Int)(b:0<=k)(c:k<8):Hx.xO 0 k=false:=by
 have:∀i:Fin 8,Hx.xO 0 (i.val:Int)=false:=by decide+kernel
 have h:=this ⟨k.toNat,by omega⟩;have a:((k.toNat:Nat):Int)=k:=by omega
 simpa [a]using h
structure Uw(out:List Rd):Prop where
 len:out.length<=8
 ids:∀r∈out,0<=r.id/\r.id<8
 diff:out.Pairwise (λa b=>a.id≠b.id)
 yX:∀r∈out,jK r.id/\jK r.qR/\jK r.tZ/\jK r.out
theorem aa4:∀(e out:List Rd),Uw out->(∀r∈e,jK r.id/\jK r.qR/\jK r.tZ/\jK r.out)->Uw (vO out e)
 |[],out,h,_=>h
 |r::e,out,h,hr=>by
  unfold vO;split
  .rename_i o;refine aa4 e _ ?_ (λq d=>hr q (by simp[d]));split
   .exact h
   .rename_i k;obtain⟨l,m⟩:=af0 (c:=r.id) (n:=8) (by omega);have f:∀q∈out,¬q.id=Dc r.id 8:=by simpa using k
    have g:=hr r (by simp);refine⟨by simp;omega,λq d=>?_,?_,λq d=>?_⟩
    .rcases List.mem_append.1 d with d|d
     .exact h.ids q d
     .simp at d;subst d;exact⟨l,m⟩
    .rw[List.pairwise_append];refine⟨h.diff,by simp,λa j b i=>?_⟩;simp at i;subst i;exact f a j
    .rcases List.mem_append.1 d with d|d
     .exact h.yX q d
     .simp at d;subst d;exact⟨⟨by show _<=Dc r.id 8;omega,by show Dc r.id 8<=_;omega⟩,g.2⟩
  .exact h
theorem aip(v:Vw)(h:v.yO):Uw (vO [] v.jU):=aa4 _ _ ⟨by simp,by simp,by simp,by simp⟩ h.jU
theorem aio(v:Vw)(h:v.yO):vJ (rQ v)=true:=by
 have a:=aip v h;simp only[vJ,rQ,dD];refine⟨⟨⟨dR a.len,dR (by simp;omega)⟩,dR (by simp;omega)⟩,adG _ 0 (by omega) (by omega) (λr b=>?_) a.diff⟩;have:=a.ids r b;exact⟨this.1,this.2,ami _ this.1 this.2⟩
theorem avt(v:Vw)(h:v.yO):(rQ v).yO:=
 ⟨(aip v h).yX,λp a=>h.kK p (dS a),λp a=>h.jW p (dS a)⟩
theorem agD:∀(l:List Rd)(i:Nat)(r:Rd),l[i]? =some r->(yY l)[i * 5]? =some (Im r.id)/\(yY l)[i * 5+1]? =some (Im r.qR)/\(yY l)[i * 5+2]? =some (Im r.tZ)/\(yY l)[i * 5+3]? =some (Im r.out)/\(yY l)[i * 5+4]? =some (.bool r.wo)
 |[],i,r,h=>by simp at h
 |q::l,0,r,h=>by
  simp at h;subst h;simp[yY]
 |q::l,i+1,r,h=>by
  have a:=agD l i r (by simpa using h);have e:yY (q::l)=Im q.id::Im q.qR::Im q.tZ::Im q.out::.bool q.wo::yY l:=by simp[yY]
  rw[e,show(i+1) * 5=i * 5+1+1+1+1+1 by omega];refine⟨a.1,?_,?_,?_,?_⟩
  .rw[show i * 5+1+1+1+1+1+1=(i * 5+1)+1+1+1+1+1 by omega];exact a.2.1
  .rw[show i * 5+1+1+1+1+1+2=(i * 5+2)+1+1+1+1+1 by omega];exact a.2.2.1
  .rw[show i * 5+1+1+1+1+1+3=(i * 5+3)+1+1+1+1+1 by omega];exact a.2.2.2.1
  .rw[show i * 5+1+1+1+1+1+4=(i * 5+4)+1+1+1+1+1 by omega];exact a.2.2.2.2
theorem afW:∀(l:List Pk)(i:Nat)(r:Pk),l[i]? =some r->(uo l)[i * 3]? =some (Im r.seq)/\(uo l)[i * 3+1]? =some (Im r.size)/\(uo l)[i * 3+2]? =some (Im r.on)
 |[],i,r,h=>by simp at h
 |q::l,0,r,h=>by
  simp at h;subst h;simp[uo]
 |q::l,i+1,r,h=>by
  have a:=afW l i r (by simpa using h);have e:uo (q::l)=Im q.seq::Im q.size::Im q.on::uo l:=by simp[uo]
  rw[e,show(i+1) * 3=i * 3+1+1+1 by omega];refine⟨a.1,?_,?_⟩
  .rw[show i * 3+1+1+1+1=(i * 3+1)+1+1+1 by omega];exact a.2.1
  .rw[show i * 3+1+1+1+2=(i * 3+2)+1+1+1 by omega];exact a.2.2
theorem O8{B:Nat}{e:jo}{s n:Nat}{xs:List jm}{a:Option Addr}{l c:Nat}(h:w.ownsRow B e s (.slice a l c) n xs){j:Nat}{u:jm}(b:xs[j]? =some u):
 ∃g,a=some (Ad g 0)/\B<=g/\g<w.heap.size/\∀j u,xs[j]? =some u->w.cell? (Ad g j)=some u:=by
 have o:=h.2;rcases o with⟨d,f⟩|⟨g,k,m,d,f,r,t⟩
 .subst f;have i:=h.1;simp at i;rw[i]at b;simp at b
 .simp only[Value.slice.injEq]at d;obtain⟨rfl,rfl,rfl⟩:=d;refine⟨g,rfl,f,(h.lt g rfl).2,λj u b=>?_⟩;have:=h.cells (g:=g) rfl j u b;have e:((Ad g 0):Addr).add j=(Ad g j):=by unfold Addr.add;split<;>simp_all
  rwa [e]at this
theorem asz{B:Nat}{a:Option Addr}{l c:Nat}{rs:List Rd}(h:w.ownsRow B 74 5 (.slice a l c) rs.length (yY rs)):Gs w.heap.size w a rs:=by
 intro i r j;obtain⟨b,k,m,n,o⟩:=agD rs i r j;obtain⟨g,e,_,f,d⟩:=O8 h b;refine⟨g,0,e,f,g,0+i * 5,rfl,?_,?_,?_,?_,?_⟩;all_goals (simp only[gW];apply d;assumption)
theorem afX{B:Nat}{a:Option Addr}{l c:Nat}{rs:List Pk}(h:w.ownsRow B 72 3 (.slice a l c) rs.length (uo rs)):JJ w.heap.size w a rs:=by
 intro i r j;obtain⟨b,k,m⟩:=afW rs i r j;obtain⟨g,e,_,f,d⟩:=O8 h b;refine⟨g,0,e,f,g,0+i * 3,rfl,?_,?_,?_⟩;all_goals (simp only[gW];apply d;assumption)
theorem PZ.view{w':jk}{vr vf va:jm}{v:Vw}(h:PZ w w' vr vf va (vO [] v.jU) (v.kK.take 16) (v.jW.take 16))(g:v.yO):
 ∃c b a f e d,vr=.slice c (rQ v).jU.length f/\vf=.slice b (rQ v).kK.length e/\va=.slice a (rQ v).jW.length d/\uV w'.heap.size w' c b a (rQ v).jU.length (rQ v).kK.length (rQ v).jW.length (rQ v):=by
 obtain⟨c,f,rfl⟩:=vI h.zL;obtain⟨b,e,rfl⟩:=vI h.zK;obtain⟨a,d,rfl⟩:=vI h.zJ;exact⟨c,b,a,f,e,d,rfl,rfl,rfl,asz h.zL,afX h.zK,afX h.zJ,rfl,rfl,rfl,avt v g⟩
end
end
end Go.Proofs.YthllhabjfchgiaaGreatDoor
