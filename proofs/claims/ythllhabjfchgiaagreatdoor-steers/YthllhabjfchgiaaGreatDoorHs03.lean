import Derived.Test.YthllhabjfchgiaaGreatDoorHs02
import Derived.Deep.RegionLaw
import Derived.Deep.DrawnRows
set_option maxRecDepth 100000
set_option maxHeartbeats 8000000
set_option linter.unusedSimpArgs false
namespace Go.Proofs.YthllhabjfchgiaaGreatDoor
open _root_.Go.Proofs.Tryz
section
open Go.RowKit
open Hx (St Bk Ls jK)
section
variable {B:Nat}{w:jk}{L:Nat}{s:ji}{l:Ls}{vs vb vl:jm}{aS:Option Addr}{nS cS g n cap:Nat}
theorem IB(bs:List Bk):(bs.flatMap rY).length=4 * bs.length:=by
 induction bs with
 |nil=>rfl
 |cons b bs ih=>simp only[c8,aA,ih,aF,rY,bg];omega
theorem jT.inner(h:jT B w L s l vs vb vl)(t:l.jH≠[]):
 ∃g cap a b,vb=.slice (some (Ad g 0)) l.jH.length cap/\l.jH=a++[b]/\l.top=b/\¬g=L/\B<=g/\g<w.heap.size/\some g≠vs.ownBlock/\some g≠vl.ownBlock/\
  w.cell? (Ad g (a.length * 4))=some (Im b.opener)/\w.cell? (Ad g (a.length * 4+1))=some (Im b.other)/\
  w.cell? (Ad g (a.length * 4+2))=some (Im b.jC)/\w.cell? (Ad g (a.length * 4+3))=some (Im b.before)/\(∀j,w.frozen? (Ad g j)=false):=by
 obtain⟨a,b,f⟩:∃a b,l.jH=a++[b]:=⟨_,_,(List.dropLast_concat_getLast t).symm⟩;have d:=h.jH;rcases d.2 with⟨p,q⟩|⟨g,cap,u,p,q,y⟩
 .rw[f]at q;simp at q
 .have r:=d.lt g (by rw[p];rfl);have k:=h.nb;have o:=h.sb;have i:=h.bl;rw[p]at d k o i;have c:∀j,j<4->w.cell? (Ad g (a.length * 4+j))=(rY b)[j]? :=λj z=>by
   rw[d.cellAt _ (by rw[f];simp;omega),f];simp only[gu,c8,dJ,aX];rw[bW (by rw[IB];omega),IB]
   congr 1
   omega
  refine⟨g,cap,a,b,p,f,by simp[Hx.Ls.top,f],λe=>k (by rw[<-e];rfl),q,r.2,?_,?_,c 0 (by omega),c 1 (by omega),c 2 (by omega),c 3 (by omega),λj=>d.frozenAt j⟩
  .rcases o with e|e
   .rw[e];simp
   .exactλx=>e x.symm
  .rcases i with e|e
   .cases e
   .exact e
theorem CX(L g n cap:Nat)(w:jk)(b:w.cell? (Ad L 3)=some (.slice (some (Ad g 0)) (n+1) cap))(c:n<=1000000):
 Calls prog 168 #[Pt L 0] w λe a=>e=.returned (Pt g (n * 4))/\∃k,a=w.drewN k:=by
 go_enter func168,ntmps168;go_wp2_with fail;go_quiet (fail);go_wp2;go_ret;exact⟨rfl,_,rfl⟩
theorem akq(init:List Bk)(b:Bk)(x:Int):((init++[b]).flatMap rY).set (init.length * 4+2) (Im x)=(init++[{b with jC:=x}]).flatMap rY:=by
 simp only[gu,c8,dJ,aX];rw[iw _ _ (by rw[IB];omega),IB,show init.length * 4+2-4 * init.length=2 by omega]
 rfl
theorem jT.arG(h:jT B w L s l vs (.slice (some (Ad g 0)) n cap) vl){init:List Bk}{b:Bk}(i:l.jH=init++[b])(q:n=l.jH.length)(x:Int):
 jT B (w.setCell (Ad g (init.length * 4+2)) (Im x)) L s {l with jH:=init++[{b with jC:=x}]} vs (.slice (some (Ad g 0)) n cap) vl/\
 jV L w vs (.slice (some (Ad g 0)) n cap) vl (w.setCell (Ad g (init.length * 4+2)) (Im x)) vs (.slice (some (Ad g 0)) n cap) vl:=by
 have r:¬g=L:=λe=>h.nb (by rw[<-e];rfl);have c:∀k,(w.setCell (Ad g (init.length * 4+2)) (Im x)).cell? (Ad L k)=w.cell? (Ad L k):=λk=>bG _ _ _ _ (by intro e;cases e;exact r rfl);have f:=h.jH;subst q;have a:=f.stored (init.length * 4+2) (Im x);rw[show(l.jH.flatMap rY).set (init.length * 4+2) (Im x)=(init++[{b with jC:=x}]).flatMap rY by rw[i];exact akq init b x]at a;have d:l.jH.length=(init++[{b with jC:=x}]).length:=by rw[i];simp
 refine⟨⟨h.bL,by rw[c];exact h.c0,by rw[c];exact h.c1,by rw[c];exact h.c2,by rw[c];exact h.c3,by rw[c];exact h.c4,by rw[c];exact h.c5,by rw[c];exact h.c6,by rw[c];exact h.c7,λj=>by rw[dX];exact h.fr j,
  h.jB.kept a.2 (by rcases h.sb with e|e
                    .exact jf e
                    .exact je e),?_,h.jY.kept a.2 ?_,h.ns,h.nb,h.nl,h.sb,h.sl,h.bl⟩,?_⟩
 .have:=a.1;rw[d]at this⊢;exact this
 .rcases h.bl with e|e
  .cases e
  .exact je (λo=>e o.symm)
 .exact⟨rfl,rfl,rfl,by simp,λk _ _ _ p _=>bC _ _ _ _ (λe=>p (by rw[e];rfl)),λ_ h=>jf h,λ_ h=>jf h,λ_ h=>jf h⟩
theorem Qm(h:jT B w L s l vs vb vl)(o:l.jH≠[])(j:l.jH.length<=1000000)(more:Int):
 Calls prog 172 #[Pt L 0,Im more] w λe w'=>e=.returned (.tuple #[])/\jT B w' L s (l.count more) vs vb vl/\jV L w vs vb vl w' vs vb vl:=by
 obtain⟨g,cap,a,b,rfl,q,d,N,H,K,J,I,E,F,P,G,z⟩:=h.inner o;have A:l.jH.length=a.length+1:=by rw[q];simp
 have x:Hid (Calls prog 168 #[Pt L 0] w λe w'=>e=.returned (Pt g (a.length * 4))/\∃k,w'=w.drewN k):=
  CX L g a.length cap w (by rw[h.c3,A]) (by omega)
 have y:Hid (∀k,jT B ((w.drewN k).setCell (Ad g (a.length * 4+2)) (Im (wrap64 (b.jC+more)))) L s {l with jH:=a++[{b with jC:=wrap64 (b.jC+more)}]} vs (.slice (some (Ad g 0)) l.jH.length cap) vl/\
  jV L w vs (.slice (some (Ad g 0)) l.jH.length cap) vl ((w.drewN k).setCell (Ad g (a.length * 4+2)) (Im (wrap64 (b.jC+more)))) vs (.slice (some (Ad g 0)) l.jH.length cap) vl):=λk=>by
  obtain⟨f,i⟩:=(h.drewN k).arG q rfl (wrap64 (b.jC+more));exact⟨f,(jV.grow L w _ _ _ (w':=w.drewN k) ⟨rfl,rfl,rfl,aj _,λ_ _ _=>rfl⟩).trans i⟩
 have u:Hid (l.count more={l with jH:=a++[{b with jC:=wrap64 (b.jC+more)}],bad:=l.bad||decide (40000040<wrap64 (b.jC+more))}):=by
  show l.count more=_;simp[Hx.Ls.count,d,q]
 have Q:=h.c7;have S:=h.fr 7;have R:=z (a.length * 4+2);have D:¬L=g:=λe=>N e.symm;clear h o q d E F G z A j;generalize a.length * 4=p at *;by_cases c:40000040<wrap64 (b.jC+more)
 .have t:decide (40000040<wrap64 (b.jC+more))=true:=by simpa using c
  have r:=jA t;clear c;go_enter func172,ntmps172;go_wp2_with fail;refine(x.out).mono ?_;rintro e O ⟨rfl,k,rfl⟩;go_wp2;go_end0;obtain⟨f,i⟩:=y.out k;refine⟨rfl,?_,i.trans (jV.own _ _ _ _ _ _ _)⟩;rw[u.out,r.out];have:=f.Jm;simpa using this
 .have t:decide (40000040<wrap64 (b.jC+more))=false:=by simpa using c
  have r:=jA t;clear c;go_enter func172,ntmps172;go_wp2_with fail;refine(x.out).mono ?_;rintro e O ⟨rfl,k,rfl⟩;go_wp2;go_end0;obtain⟨f,i⟩:=y.out k;refine⟨rfl,?_,i⟩;rw[u.out,r.out];simpa using f
end
end
section
abbrev aY:=@Go.heap_alloc_new
abbrev fM:=@Go.World.news_of_block
end
section
open Go.RowKit
open Hx (Rd Pk Vw St Mc jK)
attribute [local go_sem ↓] Go.wp_at_zero Go.wp_at_succ
section
variable {B C:Nat}{w:jk}{M SB:Nat}{v:Vw}{m:Mc}
theorem adM:(prog.info? 76).map (λi=>(i.zero,i.size,i.bytes))=some (some (.agg #[Im 0,Im 0]),2,16):=by kernel_rfl
theorem kP.ajv(h:kP B C w M SB v m){va:jm}(t:w.ownsRow C 76 2 va m.jP.length (nT m.jP)){w1:jk}(F:w.grownBy w1 va.ownBlock)
 {d:jm}{A:List (Int×Int)}(c:w1.ownsRow C 76 2 d A.length (nT A)):
 kP B C (w1.setCell (Ad M 12) d) M SB v {m with jP:=A}/\Below B w (w1.setCell (Ad M 12) d)/\
 (∃u,w1.cell? (Ad M 12)=some u)/\w1.frozen? (Ad M 12)=false:=by
 have P:=h.size;have N:=h.bM;have O:=h.bS;have q:=h.cM;have H:=h.cS;have G:=h.ne;have I:∀k,k<C->some k≠va.ownBlock:=λk a e=>by
  have:=(t.lt k e.symm).1;omega
 have z:=λk (a:k<C)=>F.block k (by omega) (I k a);have f:∀x:Addr,x.block<C->w1.cell? x=w.cell? x:=λx o=>bQ (z _ o);have b:∀x:Addr,x.block<C->w1.frozen? x=w.frozen? x:=λx o=>dZ (z _ o);have E:∀x:Addr,x.block<C->¬x.block=M->(w1.setCell (Ad M 12) d).cell? x=w.cell? x:=λx o J=>by
  rw[bG _ _ _ _ (λe=>J (by rw[<-e]))];exact f x o
 have i:∀k,¬k=12->(w1.setCell (Ad M 12) d).cell? (Ad M k)=w.cell? (Ad M k):=λk a=>by
  rw[bG _ _ _ _ (by intro e;cases e;exact a rfl)];exact f _ q
 obtain⟨y,D,_⟩:=h.jP;have r:w1.cell? (Ad M 12)=some y:=by rw[f _ q];exact D
 have K:=F.size;refine⟨⟨?_,h.bM,h.bS,h.cM,h.cS,h.ne,by simp;omega,?_,?_,?_,?_,?_,h.Ru,?_,?_,h.D6,h.IY,?_,h.one⟩,?_,⟨y,r⟩,by rw[b _ q];exact h.JO⟩
 .exact h.view.keep (λx o=>E x (by omega) (by omega)) (λk a=>i k (by omega))
 .rw[i 3 (by omega)];exact h.jD
 .intro k a;rw[E _ H (λe=>G e.symm)];exact h.slot k a
 .intro k a;rw[dX,b _ H];exact h.Dj k a
 .intro k a;rw[i _ (by omega)];exact h.left k a
 .intro k a;rw[dX,b _ q];exact h.KA k a
 .refine⟨d,dB _ _ _ r,c.kept (vX w1 (Ad M 12) d) ?_⟩;cases z:d.ownBlock with
  |none=>exact jf rfl
  |some g=>
   right;have:=(c.lt g z).1;simp;omega
 .rw[dX,b _ q];exact h.JO
 .intro j hj;have:=h.one;rw[E _ (by show 1<_;omega) (by show¬1=M;omega)];exact h.LP j hj
 .exact((dK _ _).grown F (by omega) (λk a=>by have:=(t.lt k a).1;omega)).setCell (p:=(Ad M 12)) h.bM _
theorem aru(d:kP B C w M SB v m)(i j:Int)(r:Rd)(p:Pk)(hj:j<=9223372036854775807)(W:v.mG i=some r)(V:v.nJ j=some p)(hl:m.jP.length<256):
 Calls prog 54 #[Pt M 0,Im i,Im j] w λe w'=>e=.returned (.bool true)/\kP B C w' M SB v {m with jP:=m.jP++[(r.id,p.seq)]}/\Below B w w':=by
 have Z:Hid (Calls prog 97 #[Pt M 0,Im i] w λe w'=>(∃p,e=.returned p/\BZ w p (some r))/\w'=w):=by
  have:=SI B M i v w d.view
  rwa [W]at this
 have Y:Hid (Calls prog 98 #[Pt M 0,Im j] w λe w'=>(∃q,e=.returned q/\BX w q (some p))/\w'=w):=by
  have:=Sn B M j v w d.view hj
  rwa [V]at this
 obtain⟨va,ah,c⟩:=d.jP;have U:(m.jP.length:Int)<256:=by omega
 have af:((m.jP.length:Int)==256)=false:=by simp;omega
 have fa:=d.JO;obtain⟨F,cap,y⟩:∃F cap,va=.slice F m.jP.length cap:=by
  obtain⟨S,G⟩:=c;rcases G with⟨x,E⟩|⟨g,cap,ab,x,E⟩
  .exact⟨none,0,by rw[x,E]⟩
  .exact⟨_,_,x⟩
 obtain⟨i0,I,N,O,P⟩:=info_parts adM;have D:Hid (∀(o:Obj)(n:Nat)(f:jk)(A:jm),((w.alloc o).drewN n).grownBy f va.ownBlock->f.ownsRow C 76 2 A (m.jP.length+1) (nT m.jP++[Im r.id,Im p.seq])->
  kP B C (f.setCell (Ad M 12) A) M SB v {m with jP:=m.jP++[(r.id,p.seq)]}/\Below B w (f.setCell (Ad M 12) A)/\(∃u,f.cell? (Ad M 12)=some u)/\f.frozen? (Ad M 12)=false):=by
  intro o n f A hg ho;have J:=(d.alloc o).drewN n;have e1:nT (m.jP++[(r.id,p.seq)])=nT m.jP++[Im r.id,Im p.seq]:=by simp[nT]
  have e2:(m.jP++[(r.id,p.seq)]).length=m.jP.length+1:=by simp
  have k:f.ownsRow C 76 2 A (m.jP++[(r.id,p.seq)]).length (nT (m.jP++[(r.id,p.seq)])):=by rw[e1,e2];exact ho
  obtain⟨S,G,x,E⟩:=J.ajv (va:=va) ((c.alloc o).kept (w':=(w.alloc o).drewN n) (row:=none) ⟨rfl,rfl,rfl,aj _,λ_ _ _=>rfl⟩ (by cases va.ownBlock<;>simp)) hg k;exact⟨S,(below_drewN ((dK _ _).alloc (by have:=d.size;have:=d.cM;have:=d.bM;omega) o) n).trans G,x,E⟩
 have T:∀(o:Obj)(n:Nat),((w.alloc o).drewN n).ownsRow C 76 2 va m.jP.length (nT m.jP):=λo n=>
  (c.alloc o).kept (w':=(w.alloc o).drewN n) (row:=none) ⟨rfl,rfl,rfl,aj _,λ_ _ _=>rfl⟩ (by cases va.ownBlock<;>simp)
 have X:=jA T;have ag:=d.size;have ac:M<w.heap.size:=by have:=d.cM;omega
 have K:m.jP.length+1<=maxLen:=by unfold maxLen;omega
 have H:(m.jP.length+1) * 16<=140737488355328:=by omega
 subst y;clear T c d W V;generalize nT m.jP=h at *;generalize m.jP++[(r.id,p.seq)]=P5 at *;generalize m.jP.length=z at *;go_enter func54,ntmps54;go_wp2_with fail;refine(Z.out).mono ?_;rintro e f ⟨⟨pr,rfl,b1,o1,rfl,r1,r2,r3,r4,r5⟩,rfl⟩;go_wp2_with fail;refine(Y.out).mono ?_;rintro e Q ⟨⟨pp,rfl,b2,o2,rfl,q1,q2,q3⟩,rfl⟩;go_wp2_with fail;go_region_law ((refine step_append_lies _ (by rfl) _ _ _ (by rfl) C 76 i0 _ 2 16 Tryz.underlying33 I N O P (by rfl) (by omega) (.slice F z cap) z h (by rfl) (X.out _ 1) (Ad Q.heap.size 0) 1 1 [Im r.id,Im p.seq] (by rfl) (by rfl) (fM (cs:=#[Im r.id,Im p.seq]) (t:=76) (fr:=(0,0)) (aY Q _)) (by simp[Value.oneCell']) (by omega) K H (by simp;omega) (Q.heap.size+1) (by simp) ?_;intro gg R w3 b a ad ae;obtain⟨ai,V8⟩:=(D.out _ 1 _ _ a b).2.2.1;have VP:=(D.out _ 1 _ _ a b).2.2.2));all_goals (go_wp2;go_ret;exact⟨rfl,(D.out _ 1 _ _ a b).1,(D.out _ 1 _ _ a b).2.1⟩)
theorem agi(a:kP B C w M SB v m)(i j:Int)(d:j<=9223372036854775807)(f:v.mG i=none\/v.nJ j=none):
 Calls prog 54 #[Pt M 0,Im i,Im j] w λe q=>e=.returned (.bool true)/\q=w:=by
 have c:=jA (SI B M i v w a.view);have b:=jA (Sn B M j v w a.view d);clear a;generalize v.mG i=p at *;generalize v.nJ j=h at *;cases p with
 |none=>
  go_enter func54,ntmps54;go_wp2_with fail;refine(c.out).mono ?_;rintro e t ⟨⟨o,rfl,rfl⟩,rfl⟩;go_wp2_with fail;refine(b.out).mono ?_;rintro e u ⟨⟨k,rfl,y⟩,rfl⟩;go_wp2;go_ret;exact⟨rfl,rfl⟩
 |some r=>
  obtain rfl:h=none:=f.resolve_left (by simp);go_enter func54,ntmps54;go_wp2_with fail;refine(c.out).mono ?_;rintro e t ⟨⟨o,rfl,x,z,rfl,A,D,E,F,G⟩,rfl⟩;go_wp2_with fail;refine(b.out).mono ?_;rintro e u ⟨⟨k,rfl,rfl⟩,rfl⟩;go_wp2;go_ret;exact⟨rfl,rfl⟩
theorem ars(d:kP B C w M SB v m)(i j:Int)(r:Rd)(p:Pk)(D:j<=9223372036854775807)(t:v.mG i=some r)(o:v.nJ j=some p)(k:m.jP.length=256):
 Calls prog 54 #[Pt M 0,Im i,Im j] w λe c=>e=.returned (.bool false)/\c=w:=by
 have x:Hid (Calls prog 97 #[Pt M 0,Im i] w λe c=>(∃p,e=.returned p/\BZ w p (some r))/\c=w):=by
  have:=SI B M i v w d.view
  rwa [t]at this
 have u:Hid (Calls prog 98 #[Pt M 0,Im j] w λe c=>(∃q,e=.returned q/\BX w q (some p))/\c=w):=by
  have:=Sn B M j v w d.view D
  rwa [o]at this
 obtain⟨F,E,a⟩:=d.jP;obtain⟨f,cap,b⟩:∃f cap,F=.slice f 256 cap:=by
  obtain⟨I,z⟩:=a;rcases z with⟨h,A⟩|⟨g,cap,y,h,A⟩
  .omega
  .exact⟨_,_,by rw[h,k]⟩
 subst b;clear a d t o k;go_enter func54,ntmps54;go_wp2_with fail;refine(x.out).mono ?_;rintro e X ⟨⟨O,rfl,G,J,rfl,S,T,U,V,W⟩,rfl⟩;go_wp2_with fail;refine(u.out).mono ?_;rintro e Y ⟨⟨N,rfl,H,K,rfl,P,Q,R⟩,rfl⟩;go_wp2;go_ret;exact⟨rfl,rfl⟩
end
end
section
open Go.RowKit
open Hx (St Bk Ls jK)
attribute [local go_sem ↓] Go.wp_at_zero Go.wp_at_succ
section
variable {B:Nat}{w:jk}{L:Nat}{s:ji}{l:Ls}{vs vb vl:jm}
theorem jT.auw(h:jT B w L s l vs vb vl){w1:jk}(c:w.grownBy w1 vs.ownBlock){vs':jm}{steps':List St}(t:w1.ownsRow B 125 7 vs' steps'.length (steps'.flatMap xw))
 (d:∀g,vs'.ownBlock=some g->vs.ownBlock=some g\/w.heap.size<=g):
 jT B (w1.setCell (Ad L 2) vs') L s {l with jB:=steps'} vs' vb vl/\jV L w vs vb vl (w1.setCell (Ad L 2) vs') vs' vb vl/\w1.cell? (Ad L 2)=some vs/\w1.frozen? (Ad L 2)=false:=by
 have F:=h.lt;have o:=c.block L F (λe=>h.ns e.symm);have q:∀j,w1.cell? (Ad L j)=w.cell? (Ad L j):=λj=>bQ o;have r:∀j,w1.frozen? (Ad L j)=w.frozen? (Ad L j):=λj=>dZ o;have f:∀j,¬j=2->(w1.setCell (Ad L 2) vs').cell? (Ad L j)=w.cell? (Ad L j):=λj H=>by
  rw[bG _ _ _ _ (by intro e;cases e;exact H rfl)];exact q j
 have A:w1.cell? (Ad L 2)=some vs:=by rw[q];exact h.c2
 have x:vs'.ownBlock≠some L:=λe=>by
  rcases d L e with b|b
  .exact h.ns b
  .omega
 have D:∀{v:jm},(vs.ownBlock=none\/vs.ownBlock≠v.ownBlock)->(∀g,v.ownBlock=some g->g<w.heap.size)->vs'.ownBlock=none\/vs'.ownBlock≠v.ownBlock:=λ{v} J y=>by
  cases u:vs'.ownBlock with
  |none=>exact jf rfl
  |some g=>
   refine je (λe=>?_);have G:=y g e.symm;rcases d g u with b|b
   .rcases J with a|a
    .rw[a]at b;cases b
    .exact a (b.trans e)
   .omega
 have p:=h.jH;have z:=h.jY;have i:=vX w1 (Ad L 2) vs';refine⟨⟨h.bL,by rw[f 0 (by omega)];exact h.c0,by rw[f 1 (by omega)];exact h.c1,dB _ _ _ A,by rw[f 3 (by omega)];exact h.c3,by rw[f 4 (by omega)];exact h.c4,by rw[f 5 (by omega)];exact h.c5,by rw[f 6 (by omega)];exact h.c6,by rw[f 7 (by omega)];exact h.c7,
  λj=>by rw[dX,r];exact h.fr j,t.kept i (je x),(p.kept c ?_).kept i (je h.nb),(z.kept c ?_).kept i (je h.nl),x,h.nb,h.nl,D h.sb (λg e=>(p.lt g e).2),D h.sl (λg e=>(z.lt g e).2),h.bl⟩,?_,A,by rw[r];exact h.fr 2⟩
 .cases u:vb.ownBlock with
  |none=>exact jf rfl
  |some g=>
   refine je (λe=>?_);rcases h.sb with a|a
   .rw[a]at e;cases e
   .exact a (by rw[u];exact e.symm)
 .cases u:vl.ownBlock with
  |none=>exact jf rfl
  |some g=>
   refine je (λe=>?_);rcases h.sl with a|a
   .rw[a]at e;cases e
   .exact a (by rw[u];exact e.symm)
 .refine⟨c.os,c.tape,c.output,by simpa using c.size,λk I E b _ _=>?_,d,λ_ h=>jf h,λ_ h=>jf h⟩;rw[bC _ _ _ _ E];exact c.block k I b
theorem amn(w:jk)(b a:Obj):((w.alloc b).alloc a).drew.heap[w.heap.size+1]? =some a:=by
 have:=aY (w.alloc b) a
 rwa [World.size_alloc]at this
theorem anD:(prog.info? 125).map (λi=>(i.zero,i.size,i.bytes))=some (some (.agg #[.int .u8 0,Im 0,Im 0,Im 0,Im 0,Im 0,Im 0]),7,56):=by kernel_rfl
theorem vI{b:Nat}{e:jo}{d n:Nat}{v:jm}{xs:List jm}(h:w.ownsRow b e d v n xs):∃a c,v=.slice a n c:=by
 rcases h.2 with⟨f,i⟩|⟨g,cap,j,f,i⟩
 .exact⟨none,0,by rw[f,i]⟩
 .exact⟨_,_,f⟩
theorem JQ(h:jT B w L s l vs vb vl)(A:l.jH≠[])(z:l.jH.length<=1000000)(O:l.jB.length<=1000000)(q a b c d o t:Int):
 Calls prog 118 #[Pt L 0,.agg #[.int .u8 q,Im a,Im b,Im c,Im d,Im o,Im t]] w λe w'=>e=.returned (.tuple #[])/\
  ∃vs',jT B w' L s (Hx.Ls.count {l with jB:=l.jB++[⟨q,a,b,c,d,o,t⟩]} 1) vs' vb vl/\jV L w vs vb vl w' vs' vb vl:=by
 obtain⟨aS,cS,rfl⟩:=vI h.jB;obtain⟨i0,N,T,U,V⟩:=info_parts anD;have E:Hid (∀(r u:Obj)(k:Nat)(y:jk)(g cap:Nat),(((w.alloc r).alloc u).drewN k).grownBy y (Value.slice aS l.jB.length cS).ownBlock->
  y.ownsRow B 125 7 (.slice (some (Ad g 0)) (l.jB.length+1) cap) (l.jB.length+1) (l.jB.flatMap xw++[.int .u8 q,Im a,Im b,Im c,Im d,Im o,Im t])->
  ((Value.slice aS l.jB.length cS).ownBlock=some g\/g=w.heap.size+1+1)->
  jT B (y.setCell (Ad L 2) (.slice (some (Ad g 0)) (l.jB.length+1) cap)) L s {l with jB:=l.jB++[⟨q,a,b,c,d,o,t⟩]} (.slice (some (Ad g 0)) (l.jB.length+1) cap) vb vl/\
  jV L w (.slice aS l.jB.length cS) vb vl (y.setCell (Ad L 2) (.slice (some (Ad g 0)) (l.jB.length+1) cap)) (.slice (some (Ad g 0)) (l.jB.length+1) cap) vb vl/\
  y.cell? (Ad L 2)=some (.slice aS l.jB.length cS)/\y.frozen? (Ad L 2)=false):=by
  intro r u k y g cap hg ho j;have hW:=((h.alloc r).alloc u).drewN k;have e1:(l.jB++[(⟨q,a,b,c,d,o,t⟩:St)]).length=l.jB.length+1:=by simp
  have e2:(l.jB++[(⟨q,a,b,c,d,o,t⟩:St)]).flatMap xw=l.jB.flatMap xw++[.int .u8 q,Im a,Im b,Im c,Im d,Im o,Im t]:=by simp[xw]
  have R:(((w.alloc r).alloc u).drewN k).heap.size=w.heap.size+1+1:=by simp
  obtain⟨h1,H,h3,h4⟩:=hW.auw hg (vs':=.slice (some (Ad g 0)) (l.jB.length+1) cap) (steps':=l.jB++[⟨q,a,b,c,d,o,t⟩]) (by rw[e1,e2];exact ho) (λg' K=>by
   have:g=g':=by simpa [Value.ownBlock]using K
   subst this;rcases j with F|F
   .exact jf F
   .exact je (by rw[R];omega))
  exact⟨h1,(jV.grow L w _ _ _ (w':=((w.alloc r).alloc u).drewN k) ((ah w r none).trans ((ah _ u none).trans ⟨rfl,rfl,rfl,aj _,λ_ _ _=>rfl⟩))).trans H,h3,h4⟩
 have HO:=jA (λ(r:Obj)(u:Obj)(k:Nat)=>(((h.alloc r).alloc u).drewN k).jB);have HC:Hid (∀(G:jk)(p:jm),jT B G L s {l with jB:=l.jB++[⟨q,a,b,c,d,o,t⟩]} p vb vl->
  Calls prog 172 #[Pt L 0,Im 1] G λe w'=>e=.returned (.tuple #[])/\jT B w' L s (Hx.Ls.count {l with jB:=l.jB++[⟨q,a,b,c,d,o,t⟩]} 1) p vb vl/\jV L G p vb vl w' p vb vl):=λG p H=>
  Qm H A z 1
 have c2:=h.c2;have hL:=h.lt;have aa:B<=w.heap.size:=by have:=h.bL;omega
 have n1:¬L=w.heap.size:=by omega
 have n2:¬L=w.heap.size+1:=by omega
 have Q:l.jB.length+1<=maxLen:=by unfold maxLen;omega
 have I:(l.jB.length+1) * 56<=140737488355328:=by omega
 clear h A z O;generalize Hx.Ls.count {l with jB:=l.jB++[⟨q,a,b,c,d,o,t⟩]} 1=l2 at *;generalize ({l with jB:=l.jB++[⟨q,a,b,c,d,o,t⟩]}:Ls)=l1 at *;generalize l.jB.flatMap xw=x at *;generalize l.jB.length=D at *;go_enter func118,ntmps118;go_wp2_with fail;go_region_law ((refine step_append_lies _ (by rfl) _ _ _ (by rfl) B 125 i0 _ 7 56 Tryz.underlying118 N T U V (by rfl) (by omega) (.slice aS D cS) D x (by rfl) (HO.out _ _ 1) (Ad (w.heap.size+1) 0) 1 1 [.int .u8 q,Im a,Im b,Im c,Im d,Im o,Im t] (by rfl) (by rfl) (fM (cs:=#[.int .u8 q,Im a,Im b,Im c,Im d,Im o,Im t]) (t:=125) (fr:=(0,0)) (amn w _ _)) (by simp[Value.oneCell']) (by omega) Q I (by simp;omega) (w.heap.size+1+1) (by simp) ?_;intro gg X w3 i f j P;have S:=(E.out _ _ 1 _ _ _ f i j).2.2.1;have J:=(E.out _ _ 1 _ _ _ f i j).2.2.2));all_goals
  have Y:=(E.out _ _ 1 _ _ _ f i j).1;have Z:=(E.out _ _ 1 _ _ _ f i j).2.1;have W:=jA (jd Y Z);clear Y Z S J i f j P;go_wp2_with fail;refine(HC.out _ _ W.out.1).mono ?_;rintro e w4 ⟨rfl,F,h6⟩;go_wp2;go_end0;exact⟨rfl,_,F,W.out.2.trans h6⟩
theorem EP{u v:jm}(h:u.ownBlock=none\/u.ownBlock≠v.ownBlock):v.ownBlock=none\/v.ownBlock≠u.ownBlock:=by
 cases a:v.ownBlock with
 |none=>exact jf rfl
 |some g=>
  refine je (λe=>?_);rcases h with h|h
  .rw[h]at e;cases e
  .exact h (by rw[a];exact e.symm)
theorem P7{w:jk}{v b u:jm}(j:v.ownBlock=none\/v.ownBlock≠u.ownBlock)(d:∀g,b.ownBlock=some g->v.ownBlock=some g\/w.heap.size<=g)(f:∀g,u.ownBlock=some g->g<w.heap.size):b.ownBlock=none\/b.ownBlock≠u.ownBlock:=by
 cases i:b.ownBlock with
 |none=>exact jf rfl
 |some g=>
  refine je (λe=>?_);have h:=f g e.symm;rcases d g i with a|a
  .rcases j with c|c
   .rw[c]at a;cases a
   .exact c (a.trans e)
  .omega
theorem jT.UY(h:jT B w L s l vs vb vl){w1:jk}(b:w.grownBy w1 vb.ownBlock){kL:jm}{blocks':List Bk}(p:w1.ownsRow B 226 4 kL blocks'.length (blocks'.flatMap rY))
 (a:∀g,kL.ownBlock=some g->vb.ownBlock=some g\/w.heap.size<=g):
 jT B (w1.setCell (Ad L 3) kL) L s {l with jH:=blocks'} vs kL vl/\jV L w vs vb vl (w1.setCell (Ad L 3) kL) vs kL vl/\w1.cell? (Ad L 3)=some vb/\w1.frozen? (Ad L 3)=false:=by
 have A:=h.lt;have f:=b.block L A (λe=>h.nb e.symm);have i:∀j,w1.cell? (Ad L j)=w.cell? (Ad L j):=λj=>bQ f;have o:∀j,w1.frozen? (Ad L j)=w.frozen? (Ad L j):=λj=>dZ f;have c:∀j,¬j=3->(w1.setCell (Ad L 3) kL).cell? (Ad L j)=w.cell? (Ad L j):=λj D=>by
  rw[bG _ _ _ _ (by intro e;cases e;exact D rfl)];exact i j
 have x:w1.cell? (Ad L 3)=some vb:=by rw[i];exact h.c3
 have r:kL.ownBlock≠some L:=λe=>by
  rcases a L e with u|u
  .exact h.nb u
  .omega
 have q:=h.jB;have t:=h.jY;have d:=vX w1 (Ad L 3) kL;exact⟨⟨h.bL,by rw[c 0 (by omega)];exact h.c0,by rw[c 1 (by omega)];exact h.c1,by rw[c 2 (by omega)];exact h.c2,dB _ _ _ x,by rw[c 4 (by omega)];exact h.c4,by rw[c 5 (by omega)];exact h.c5,by rw[c 6 (by omega)];exact h.c6,by rw[c 7 (by omega)];exact h.c7,
  λj=>by rw[dX,o];exact h.fr j,(q.kept b h.sb).kept d (je h.ns),p.kept d (je r),(t.kept b (EP h.bl)).kept d (je h.nl),h.ns,r,h.nl,
  EP (P7 (EP h.sb) a (λg e=>(q.lt g e).2)),h.sl,P7 h.bl a (λg e=>(t.lt g e).2)⟩,
  ⟨b.os,b.tape,b.output,by simpa using b.size,λk E y _ z _=>by rw[bC _ _ _ _ y];exact b.block k E z,λ_ h=>jf h,a,λ_ h=>jf h⟩,x,by rw[o];exact h.fr 3⟩
theorem jT.aeD(h:jT B w L s l vs vb vl){w1:jk}(b:w.grownBy w1 vl.ownBlock){lq:jm}{loops':List Int}(q:w1.ownsRow B 3 1 lq loops'.length (loops'.map (Value.int .i64)))
 (a:∀g,lq.ownBlock=some g->vl.ownBlock=some g\/w.heap.size<=g):
 jT B (w1.setCell (Ad L 4) lq) L s {l with jY:=loops'} vs vb lq/\jV L w vs vb vl (w1.setCell (Ad L 4) lq) vs vb lq/\w1.cell? (Ad L 4)=some vl/\w1.frozen? (Ad L 4)=false:=by
 have A:=h.lt;have f:=b.block L A (λe=>h.nl e.symm);have o:∀j,w1.cell? (Ad L j)=w.cell? (Ad L j):=λj=>bQ f;have p:∀j,w1.frozen? (Ad L j)=w.frozen? (Ad L j):=λj=>dZ f;have c:∀j,¬j=4->(w1.setCell (Ad L 4) lq).cell? (Ad L j)=w.cell? (Ad L j):=λj D=>by
  rw[bG _ _ _ _ (by intro e;cases e;exact D rfl)];exact o j
 have x:w1.cell? (Ad L 4)=some vl:=by rw[o];exact h.c4
 have t:lq.ownBlock≠some L:=λe=>by
  rcases a L e with u|u
  .exact h.nl u
  .omega
 have r:=h.jB;have i:=h.jH;have d:=vX w1 (Ad L 4) lq;exact⟨⟨h.bL,by rw[c 0 (by omega)];exact h.c0,by rw[c 1 (by omega)];exact h.c1,by rw[c 2 (by omega)];exact h.c2,by rw[c 3 (by omega)];exact h.c3,dB _ _ _ x,by rw[c 5 (by omega)];exact h.c5,by rw[c 6 (by omega)];exact h.c6,by rw[c 7 (by omega)];exact h.c7,
  λj=>by rw[dX,p];exact h.fr j,(r.kept b h.sl).kept d (je h.ns),(i.kept b h.bl).kept d (je h.nb),q.kept d (je t),h.ns,h.nb,t,
  h.sb,EP (P7 (EP h.sl) a (λg e=>(r.lt g e).2)),EP (P7 (EP h.bl) a (λg e=>(i.lt g e).2))⟩,
  ⟨b.os,b.tape,b.output,by simpa using b.size,λk E y _ _ z=>by rw[bC _ _ _ _ y];exact b.block k E z,λ_ h=>jf h,λ_ h=>jf h,a⟩,x,by rw[p];exact h.fr 4⟩
theorem anx:(prog.info? 226).map (λi=>(i.zero,i.size,i.bytes))=some (some (.agg #[Im 0,Im 0,Im 0,Im 0]),4,32):=by kernel_rfl
theorem afF(h:jT B w L s l vs vb vl)(D:l.jH≠[])(ae:l.jH.length<=900000)(af:l.jB.length<=900000)(q a b c d x t:Int):
 Calls prog 113 #[Pt L 0,.agg #[.int .u8 q,Im a,Im b,Im c,Im d,Im x,Im t]] w λe w'=>e=.returned (.tuple #[])/\
  ∃u kL,jT B w' L s (xR l ⟨q,a,b,c,d,x,t⟩) u kL vl/\jV L w vs vb vl w' u kL vl:=by
 obtain⟨i0,Q,V,W,X⟩:=info_parts anx;have Y:Hid (∀o,Calls prog 118 #[Pt L 0,.agg #[.int .u8 q,Im a,Im b,Im c,Im d,Im x,Im t]] (w.alloc o) λe w'=>e=.returned (.tuple #[])/\
  ∃u,jT B w' L s (mP l ⟨q,a,b,c,d,x,t⟩) u vb vl/\jV L w vs vb vl w' u vb vl):=λo=>by
  refine(JQ (h.alloc o) D (by omega) (by omega) q a b c d x t).mono ?_;rintro e w' ⟨z,u,h2,h3⟩;exact⟨z,u,h2,(jV.grow L w _ _ _ (ah w o none)).trans h3⟩
 have H:(mP l ⟨q,a,b,c,d,x,t⟩).jH.length=l.jH.length:=P6 l _ D;have I:(mP l ⟨q,a,b,c,d,x,t⟩).jB.length=l.jB.length+1:=by rw[Nk];simp
 have HO:Hid (xR l ⟨q,a,b,c,d,x,t⟩={mP l ⟨q,a,b,c,d,x,t⟩with jH:=(mP l ⟨q,a,b,c,d,x,t⟩).jH++[⟨l.jB.length,0,0,0⟩]}):=rfl;have hL:=h.lt;have aa:=h.bL;clear h D;generalize xR l ⟨q,a,b,c,d,x,t⟩=l2 at *;generalize mP l ⟨q,a,b,c,d,x,t⟩=p at *;generalize l.jB.length=j at *;have yh:=jA H;have N:=jA I;clear H I;have n1:¬L=w.heap.size:=by omega
 go_enter func113,ntmps113;go_wp2_with fail;refine(Y.out _).mono ?_;rintro e y ⟨rfl,ak,z,m1⟩;obtain⟨aS,cS,J⟩:=vI z.jB;obtain⟨F,G,U⟩:=vI z.jH;rw[N.out]at J;subst J;subst U;have K:Hid (∀(o:Obj)(k:Nat)(E:jk)(g cap:Nat),((y.alloc o).drewN k).grownBy E (Value.slice F p.jH.length G).ownBlock->
  E.ownsRow B 226 4 (.slice (some (Ad g 0)) (p.jH.length+1) cap) (p.jH.length+1) (p.jH.flatMap rY++[Im j,Im 0,Im 0,Im 0])->
  ((Value.slice F p.jH.length G).ownBlock=some g\/g=y.heap.size+1)->
  jT B (E.setCell (Ad L 3) (.slice (some (Ad g 0)) (p.jH.length+1) cap)) L s l2 (.slice aS (j+1) cS) (.slice (some (Ad g 0)) (p.jH.length+1) cap) vl/\
  jV L w vs (.slice F p.jH.length G) vl (E.setCell (Ad L 3) (.slice (some (Ad g 0)) (p.jH.length+1) cap)) (.slice aS (j+1) cS) (.slice (some (Ad g 0)) (p.jH.length+1) cap) vl/\
  E.cell? (Ad L 3)=some (.slice F p.jH.length G)/\E.frozen? (Ad L 3)=false):=by
  intro o k E g cap hg ho r;have hW:=(z.alloc o).drewN k;have T:((y.alloc o).drewN k).heap.size=y.heap.size+1:=by simp
  obtain⟨g1,g2,g3,g4⟩:=hW.UY hg (kL:=.slice (some (Ad g 0)) (p.jH.length+1) cap) (blocks':=p.jH++[⟨j,0,0,0⟩]) (by
   have e1:(p.jH++[(⟨j,0,0,0⟩:Bk)]).length=p.jH.length+1:=by simp
   have e2:(p.jH++[(⟨j,0,0,0⟩:Bk)]).flatMap rY=p.jH.flatMap rY++[Im j,Im 0,Im 0,Im 0]:=by simp[rY]
   rw[e1,e2];exact ho) (λg' P=>by
   have:g=g':=by simpa [Value.ownBlock]using P
   subst this;rcases r with h5|h5
   .exact jf h5
   .exact je (by rw[T];omega))
  rw[HO.out];exact⟨g1,m1.trans ((jV.grow L y _ _ _ (w':=(y.alloc o).drewN k) ((ah y o none).trans ⟨rfl,rfl,rfl,aj _,λ_ _ _=>rfl⟩)).trans g2),g3,g4⟩
 have HW:=jA (λ(o:Obj)(k:Nat)=>((z.alloc o).drewN k).jH);have c2:=z.c2;have c3:=z.c3;have ac:=z.lt;have S:p.jH.length+1<=maxLen:=by have:=yh.out;unfold maxLen;omega
 have O:(p.jH.length+1) * 32<=140737488355328:=by have:=yh.out;omega
 have n2:¬L=y.heap.size:=by omega
 have ab:B<=y.heap.size:=by omega
 clear z m1 Y;generalize p.jH.flatMap rY=A at *;have ai:IntKind.i64.wrap (j:Int)=(j:Int):=by rw[IntKind.wrap_i64];omega
 go_wp2_with fail;go_region_law ((refine step_append_lies _ (by rfl) _ _ _ (by rfl) B 226 i0 _ 4 32 Tryz.underlying149 Q V W X (by rfl) (by omega) (.slice F p.jH.length G) p.jH.length A (by rfl) (HW.out _ 1) (Ad y.heap.size 0) 1 1 [Im j,Im 0,Im 0,Im 0] (by rfl) (by rfl) (fM (cs:=#[Im j,Im 0,Im 0,Im 0]) (t:=226) (fr:=(0,0)) (aY y _)) (by simp[Value.oneCell']) (by omega) S O (by simp;omega) (y.heap.size+1) (by simp) ?_;intro gg Z w3 i f r R;have ag:=(K.out _ 1 _ _ _ f i r).2.2.1;have ad:=(K.out _ 1 _ _ _ f i r).2.2.2));all_goals
  have hm:=(K.out _ 1 _ _ _ f i r).1;have hv:=(K.out _ 1 _ _ _ f i r).2.1;clear i f r R;go_wp2;go_end0;exact⟨rfl,_,_,hm,hv⟩
end
end
section
abbrev cu:=@Go.bodyPost_ret
end
section
open Go.RowKit
open Hx (St Bk Ls jK)
attribute [local go_sem ↓] Go.wp_at_zero Go.wp_at_succ
section
variable {B:Nat}{w:jk}{L:Nat}{s:ji}{l:Ls}{vs vb vl:jm}
theorem kN(w:jk)(n:Nat)(x:Addr)(u:jm):(w.drewN n).setCell x u=(w.setCell x u).drewN n:=rfl
attribute [local go_sem] kN
theorem jT.aef(h:jT B w L s l vs vb vl){init:List Int}{x:Int}(d:l.jY=init++[x]):
 ∃g cap,vl=.slice (some (Ad g 0)) (init.length+1) cap/\g<w.heap.size/\w.cell? (Ad g init.length)=some (Im x):=by
 have a:=h.jY;have b:l.jY.length=init.length+1:=by rw[d];simp
 rcases a.2 with⟨c,f⟩|⟨g,cap,e,c,f,i⟩
 .omega
 .refine⟨g,cap,by rw[c,b],(a.lt g (by rw[c];rfl)).2,?_⟩;rw[c]at a;rw[a.cellAt _ (by omega),d];simp
theorem atC(h:jT B w L s l vs vb vl)(i:l.jY=[])(q a b c d p t:Int):
 Calls prog 117 #[Pt L 0,.agg #[.int .u8 q,Im a,Im b,Im c,Im d,Im p,Im t]] w λe j=>e=.returned (.tuple #[])/\
  jT B j L s {l with bad:=true} vs vb vl/\jV L w vs vb vl j vs vb vl:=by
 have k:Hid (∀o,jT B ((w.setCell (Ad L 7) (.bool true)).alloc o) L s {l with bad:=true} vs vb vl/\jV L w vs vb vl ((w.setCell (Ad L 7) (.bool true)).alloc o) vs vb vl):=λo=>
  ⟨h.Jm.alloc o,(jV.own L w vs vb vl 7 (.bool true)).trans (jV.grow L _ vs vb vl (ah _ o none))⟩
 obtain⟨r,u,rfl⟩:=vI h.jY;have x:=h.c4;have y:=h.c7;have z:=h.fr 7;have A:=h.lt;have D:¬L=w.heap.size:=by omega
 have f:l.jY.length=0:=by rw[i];rfl
 clear h i;generalize l.jY.length=n at *;subst f;go_enter func117,ntmps117;go_wp2;exact cu (v:=.tuple #[]) (by simp[results,Tryz.results117,go_sem]) rfl ⟨rfl,k.out _⟩
theorem atE(h:jT B w L s l vs vb vl)(p:l.jH≠[])(G:l.jH.length<=900000)(I:l.jB.length<=900000)(H:l.jY.length<=900000)(init:List Int)(x:Int)(A:l.jY=init++[x])(q a b c d i t:Int):
 Calls prog 117 #[Pt L 0,.agg #[.int .u8 q,Im a,Im b,Im c,Im d,Im i,Im t]] w λe w'=>e=.returned (.tuple #[])/\
  ∃f,jT B w' L s (mP l ⟨q,a,b,c,d,i,x⟩) f vb vl/\jV L w vs vb vl w' f vb vl:=by
 obtain⟨g,cap,rfl,P,N⟩:=h.aef A;have j:l.jY.length=init.length+1:=by rw[A];simp
 have E:Hid (∀o k,Calls prog 118 #[Pt L 0,.agg #[.int .u8 q,Im a,Im b,Im c,Im d,Im i,Im x]] ((w.alloc o).drewN k) λe w'=>e=.returned (.tuple #[])/\
  ∃f,jT B w' L s (mP l ⟨q,a,b,c,d,i,x⟩) f vb (.slice (some (Ad g 0)) (init.length+1) cap)/\jV L w vs vb (.slice (some (Ad g 0)) (init.length+1) cap) w' f vb (.slice (some (Ad g 0)) (init.length+1) cap)):=λo k=>by
  refine(JQ ((h.alloc o).drewN k) p (by omega) (by omega) q a b c d i x).mono ?_;rintro e w' ⟨u,f,y,F⟩;exact⟨u,f,y,(jV.grow L w _ _ _ (w':=(w.alloc o).drewN k) ((ah w o none).trans ⟨rfl,rfl,rfl,aj _,λ_ _ _=>rfl⟩)).trans F⟩
 have K:=h.c4;have O:=h.lt;have S:¬L=w.heap.size:=by omega
 have T:¬g=w.heap.size:=by omega
 have Q:init.length<=900000:=by omega
 clear h A j p;generalize init.length=n at *;have D:(((n:Int)+1)==0)=false:=by simp;omega
 have R:(0:Int)<=(n:Int):=by omega
 go_enter func117,ntmps117;go_wp2_with fail;refine nO 13 (by kernel_rfl) (by kernel_rfl) ?_;simp only[aC,aO,aG,aQ];repeat (go_big_quiet_step (fail))
 refine bF ?_;intro _ z;obtain⟨J,r⟩:=z;subst r;go_wp2_with fail;refine(E.out _ J).mono ?_;rintro e U ⟨rfl,f,u,y⟩;go_wp2;go_end0;exact⟨rfl,f,u,y⟩
end
section
variable {B:Nat}{w:jk}{L:Nat}{s:ji}{l:Ls}{vs vb vl:jm}
theorem aqH(h:jT B w L s l vs vb vl)(k:l.jY.length=8)(q a b c d j t:Int):
 Calls prog 114 #[Pt L 0,.agg #[.int .u8 q,Im a,Im b,Im c,Im d,Im j,Im t]] w λe f=>e=.returned (.tuple #[])/\
  jT B f L s {l with bad:=true} vs vb vl/\jV L w vs vb vl f vs vb vl:=by
 have i:Hid (∀o,jT B ((w.setCell (Ad L 7) (.bool true)).alloc o) L s {l with bad:=true} vs vb vl/\jV L w vs vb vl ((w.setCell (Ad L 7) (.bool true)).alloc o) vs vb vl):=λo=>
  ⟨h.Jm.alloc o,(jV.own L w vs vb vl 7 (.bool true)).trans (jV.grow L _ vs vb vl (ah _ o none))⟩
 obtain⟨p,r,rfl⟩:=vI h.jY;have u:=h.c4;have x:=h.c7;have y:=h.fr 7;have z:=h.lt;have A:¬L=w.heap.size:=by omega
 clear h;generalize l.jY.length=n at *;subst k;go_enter func114,ntmps114;go_wp2;exact cu (v:=.tuple #[]) (by simp[results,Tryz.results114,go_sem]) rfl ⟨rfl,i.out _⟩
theorem aqI(h:jT B w L s l vs vb vl)(H:l.jH≠[])(G:l.jH.length<=900000)(S:l.jB.length<=900000)(af:l.jY.length<8)(q a b c d N t:Int):
 Calls prog 114 #[Pt L 0,.agg #[.int .u8 q,Im a,Im b,Im c,Im d,Im N,Im t]] w λe w'=>e=.returned (.tuple #[])/\
  ∃p A lq,jT B w' L s (Ja l ⟨q,a,b,c,d,N,t⟩) p A lq/\jV L w vs vb vl w' p A lq:=by
 obtain⟨i0,R,W,X,Y⟩:=info_parts adP;obtain⟨u,x,rfl⟩:=vI h.jY;have Z:Hid (∀o,Calls prog 113 #[Pt L 0,.agg #[.int .u8 q,Im a,Im b,Im c,Im d,Im l.jY.length,Im t]] (w.alloc o) λe w'=>e=.returned (.tuple #[])/\
  ∃p A,jT B w' L s (xR l ⟨q,a,b,c,d,l.jY.length,t⟩) p A (.slice u l.jY.length x)/\jV L w vs vb (.slice u l.jY.length x) w' p A (.slice u l.jY.length x)):=λo=>by
  refine(afF (h.alloc o) H G S q a b c d l.jY.length t).mono ?_;rintro e w' ⟨y,p,A,h2,h3⟩;exact⟨y,p,A,h2,(jV.grow L w _ _ _ (ah w o none)).trans h3⟩
 have E:(xR l ⟨q,a,b,c,d,l.jY.length,t⟩).jB.length=l.jB.length+1:=by
  show(l.jB++[_]).length=_;simp
 have F:(xR l ⟨q,a,b,c,d,l.jY.length,t⟩).jY=l.jY:=rfl;have HO:Hid (Ja l ⟨q,a,b,c,d,N,t⟩={xR l ⟨q,a,b,c,d,l.jY.length,t⟩with jY:=l.jY++[(l.jB.length:Int)]}):=rfl;have c4:=h.c4;have hL:=h.lt;have ab:=h.bL;clear h H G;generalize Ja l ⟨q,a,b,c,d,N,t⟩=l2 at *;generalize xR l ⟨q,a,b,c,d,l.jY.length,t⟩=l1 at *;have O:=jA E;have xB:=jA F;clear E F;have n1:¬L=w.heap.size:=by omega
 have h8:((l.jY.length:Int)==8)=false:=by simp;omega
 go_enter func114,ntmps114;go_wp2_with fail;refine(Z.out _).mono ?_;rintro e r ⟨rfl,ak,J,y,m1⟩;obtain⟨aS,cS,I⟩:=vI y.jB;rw[O.out]at I;subst I;have K:Hid (∀(o:Obj)(k:Nat)(D:jk)(g cap:Nat),((r.alloc o).drewN k).grownBy D (Value.slice u l.jY.length x).ownBlock->
  D.ownsRow B 3 1 (.slice (some (Ad g 0)) (l.jY.length+1) cap) (l.jY.length+1) (l.jY.map (Value.int .i64)++[Im l.jB.length])->
  ((Value.slice u l.jY.length x).ownBlock=some g\/g=r.heap.size+1)->
  jT B (D.setCell (Ad L 4) (.slice (some (Ad g 0)) (l.jY.length+1) cap)) L s l2 (.slice aS (l.jB.length+1) cS) J (.slice (some (Ad g 0)) (l.jY.length+1) cap)/\
  jV L w vs vb (.slice u l.jY.length x) (D.setCell (Ad L 4) (.slice (some (Ad g 0)) (l.jY.length+1) cap)) (.slice aS (l.jB.length+1) cS) J (.slice (some (Ad g 0)) (l.jY.length+1) cap)/\
  D.cell? (Ad L 4)=some (.slice u l.jY.length x)/\D.frozen? (Ad L 4)=false):=by
  intro o k D g cap hg ho j;have hW:=(y.alloc o).drewN k;have V:((r.alloc o).drewN k).heap.size=r.heap.size+1:=by simp
  obtain⟨g1,g2,g3,g4⟩:=hW.aeD hg (lq:=.slice (some (Ad g 0)) (l.jY.length+1) cap) (loops':=l.jY++[(l.jB.length:Int)]) (by
   have e1:(l.jY++[(l.jB.length:Int)]).length=l.jY.length+1:=by simp
   have e2:(l.jY++[(l.jB.length:Int)]).map (Value.int .i64)=l.jY.map (Value.int .i64)++[Im l.jB.length]:=by simp
   rw[e1,e2];exact ho) (λg' Q=>by
   have:g=g':=by simpa [Value.ownBlock]using Q
   subst this;rcases j with h5|h5
   .exact jf h5
   .exact je (by rw[V];omega))
  rw[HO.out];exact⟨g1,m1.trans ((jV.grow L r _ _ _ (w':=(r.alloc o).drewN k) ((ah r o none).trans ⟨rfl,rfl,rfl,aj _,λ_ _ _=>rfl⟩)).trans g2),g3,g4⟩
 have HW:Hid (∀(o:Obj)(k:Nat),((r.alloc o).drewN k).ownsRow B 3 1 (.slice u l.jY.length x) l.jY.length (l.jY.map (Value.int .i64))):=λo k=>by
  have:=((y.alloc o).drewN k).jY;rw[xB.out]at this;exact this
 have d2:=y.c2;have d4:=y.c4;have ad:=y.lt;have U:l.jY.length+1<=maxLen:=by unfold maxLen;omega
 have P:(l.jY.length+1) * 8<=140737488355328:=by omega
 have n2:¬L=r.heap.size:=by omega
 have ac:B<=r.heap.size:=by omega
 have ai:IntKind.i64.wrap (l.jB.length:Int)=(l.jB.length:Int):=by rw[IntKind.wrap_i64];omega
 clear y m1 Z c4;generalize l.jY.map (Value.int .i64)=z at *;go_wp2_with fail;go_region_law ((refine step_append_lies _ (by rfl) _ _ _ (by rfl) B 3 i0 _ 1 8 Tryz.underlying91 R W X Y (by rfl) (by omega) (.slice u l.jY.length x) l.jY.length z (by rfl) (HW.out _ 1) (Ad r.heap.size 0) 1 1 [Im l.jB.length] (by rfl) (by rfl) (fM (cs:=#[Im l.jB.length]) (t:=3) (fr:=(0,0)) (aY r _)) (by simp[Value.oneCell']) (by omega) U P (by simp;omega) (r.heap.size+1) (by simp) ?_;intro gg aa w3 i f j T;have ag:=(K.out _ 1 _ _ _ f i j).2.2.1;have ae:=(K.out _ 1 _ _ _ f i j).2.2.2));all_goals
  have hm:=(K.out _ 1 _ _ _ f i j).1;have hv:=(K.out _ 1 _ _ _ f i j).2.1;clear i f j T;go_wp2;go_end0;exact⟨rfl,_,_,_,hm,hv⟩
end
end
section
open Go.RowKit
open Hx (St Bk Ls jK)
section
variable {B:Nat}{w:jk}{L:Nat}{s:ji}{l:Ls}{vs vb vl:jm}
theorem Tt(l:List St):(l.flatMap xw).length=7 * l.length:=by
 induction l with
 |nil=>rfl
 |cons b bs ih=>simp only[c8,aA,ih,aF,xw,bg];omega
theorem aht(l:List St)(i:Nat)(st:St)(h:l[i]? =some st):∃a b,l=a++st::b/\a.length=i:=by
 have d:i<l.length:=by
  rcases dG i l.length with c|c
  .exact c
  .rw[bV c]at h;cases h
 refine⟨l.take i,l.drop (i+1),?_,by simp;omega⟩;have e:l[i]=st:=by rw[bU d]at h;exact fZ h
 rw[<-e,List.getElem_cons_drop,List.take_append_drop]
theorem aut(l:List St)(i:Nat)(st:St)(h:l[i]? =some st)(j:Nat)(c:j<7):(l.flatMap xw)[i * 7+j]? =(xw st)[j]? :=by
 obtain⟨a,b,rfl,rfl⟩:=aht l i st h;simp only[gu,c8];rw[bW (by rw[Tt];omega),Tt,aT (by simp[xw];omega)]
 congr 1
 omega
theorem auv(l:List St)(i:Nat)(st:St)(h:l[i]? =some st)(x:Int):(l.flatMap xw).set (i * 7+6) (Im x)=(l.set i {st with kD:=x}).flatMap xw:=by
 obtain⟨a,b,rfl,rfl⟩:=aht l i st h;simp only[gu,c8];rw[iw _ _ (by rw[Tt];omega),Tt,show a.length * 7+6-7 * a.length=6 by omega,List.set_append_left _ _ (by simp[xw]),iw _ _ (aj _)];simp[xw]
theorem jT.Dk(h:jT B w L s l vs vb vl){i:Nat}{st:St}(c:l.jB[i]? =some st):
 ∃g cap,vs=.slice (some (Ad g 0)) l.jB.length cap/\g<w.heap.size/\¬g=L/\some g≠vb.ownBlock/\some g≠vl.ownBlock/\i<l.jB.length/\zZ w g (i * 7) st/\(∀j,w.frozen? (Ad g j)=false):=by
 have u:i<l.jB.length:=by
  rcases dG i l.jB.length with p|p
  .exact p
  .rw[bV p]at c;cases c
 have a:=h.jB;have d:=h.ns;have f:=h.sb;have k:=h.sl;rcases a.2 with⟨o,t⟩|⟨g,cap,r,o,t,y⟩
 .omega
 .have q:=(a.lt g (by rw[o];rfl)).2;rw[o]at a d f k;have b:∀j,j<7->w.cell? (Ad g (i * 7+j))=(xw st)[j]? :=λj x=>by
   rw[a.cellAt _ (by omega)];exact aut _ _ _ c j x
  refine⟨g,cap,o,q,λe=>d (by rw[<-e];rfl),?_,?_,u,⟨b 0 (by omega),b 1 (by omega),b 2 (by omega),b 3 (by omega),b 4 (by omega),b 5 (by omega),b 6 (by omega)⟩,λj=>a.frozenAt j⟩
  .rcases f with e|e
   .cases e
   .exact e
  .rcases k with e|e
   .cases e
   .exact e
theorem jT.SG{g cap:Nat}(h:jT B w L s l (.slice (some (Ad g 0)) l.jB.length cap) vb vl){i:Nat}{st:St}(d:l.jB[i]? =some st)(x:Int):
 jT B (w.setCell (Ad g (i * 7+6)) (Im x)) L s {l with jB:=l.jB.set i {st with kD:=x}} (.slice (some (Ad g 0)) l.jB.length cap) vb vl/\
 jV L w (.slice (some (Ad g 0)) l.jB.length cap) vb vl (w.setCell (Ad g (i * 7+6)) (Im x)) (.slice (some (Ad g 0)) l.jB.length cap) vb vl:=by
 have o:¬g=L:=λe=>h.ns (by rw[<-e];rfl);have b:∀k,(w.setCell (Ad g (i * 7+6)) (Im x)).cell? (Ad L k)=w.cell? (Ad L k):=λk=>bG _ _ _ _ (by intro e;cases e;exact o rfl);have c:=h.jB;have a:=c.stored (i * 7+6) (Im x);rw[auv l.jB i st d x]at a;refine⟨⟨h.bL,by rw[b];exact h.c0,by rw[b];exact h.c1,by rw[b];exact h.c2,by rw[b];exact h.c3,by rw[b];exact h.c4,by rw[b];exact h.c5,by rw[b];exact h.c6,by rw[b];exact h.c7,λj=>by rw[dX];exact h.fr j,
  ?_,h.jH.kept a.2 (EP h.sb),h.jY.kept a.2 (EP h.sl),h.ns,h.nb,h.nl,h.sb,h.sl,h.bl⟩,
  ⟨rfl,rfl,rfl,by simp,λk _ _ f _ _=>bC _ _ _ _ (λe=>f (by rw[e];rfl)),λ_ h=>jf h,λ_ h=>jf h,λ_ h=>jf h⟩⟩
 have:=a.1;simpa using this
theorem afT{e:jo}{a g n cap:Nat}{xs:List jm}(h:w.ownsRow B e a (.slice (some (Ad g 0)) (n+1) cap) (n+1) xs):w.ownsRow B e a (.slice (some (Ad g 0)) n cap) n (xs.take (n * a)):=by
 obtain⟨j,k⟩:=h;rcases k with⟨d,_⟩|⟨i,b,c,d,o,p,u,q,r,t⟩
 .cases d
 .obtain⟨rfl,rfl⟩:g=i/\cap=b:=by simpa using d
  have f:n * a<=(n+1) * a:=gQ _ (by omega);refine⟨by rw[gI,j];omega,je ⟨g,cap,c,rfl,o,p,by omega,q,r,?_⟩⟩;rw[<-t,List.take_take,Nat.min_eq_left f]
end
end
end Go.Proofs.YthllhabjfchgiaaGreatDoor
