import Derived.Test.YthllhabjfchgiaaGreatDoorHs41
import Derived.ChangeKeysEq
set_option maxRecDepth 100000
set_option maxHeartbeats 8000000
set_option linter.unusedSimpArgs false
namespace Go.Proofs.YthllhabjfchgiaaGreatDoor
open _root_.Go.Proofs.Tryz
section
open Go.RowKit
open Hx (Rd Pk Vw St Mc jK Out)
attribute [local go_sem ↓] Go.wp_at_zero Go.wp_at_succ
attribute [local go_sem] kN
section
variable {w:jk}
theorem apJ{C:Nat}{n:Int}(h:w.cell? (Ad C 2)=some (Im n)):
 Calls prog 17 #[Pt C 0] w λe w'=>e=.returned (Im n)/\w'=w:=by
 go_enter func17,ntmps17;go_wp2;go_ret;exact⟨rfl,rfl⟩
theorem acy(xs:Array jm)(w:jk):∀(d:List Nat),(∀i∈d,∃x:Int,xs[i]? =some (Im x))->(Op.eqItems 9999 3 1 xs xs d).run prog w=.ok true w
 |[],_=>by simp[Op.eqItems]
 |i::d,h=>by
  obtain⟨x,p⟩:=h i (by simp);have o:(part 3 xs (i * 1)).run prog w=.ok (Im x) w:=run_part_plain w (by kernel_rfl) (by simpa using p);simp only[Op.eqItems,Sem.run_bind,o,Result.andThen_ok,run_equalIn_int w 9998 3 .i64 .i64 x x Tryz.underlying3,beq_self_eq_true,jc,aH,cZ];exact acy xs w d (λj n=>h j (by simp[n]))
theorem alD(w:jk)(x0 x1 x2 x3 x4 x5 x6 x7:Int):
 (Op.equalIn 10000 26 (.agg #[Im x0,Im x1,Im x2,Im x3,Im x4,Im x5,Im x6,Im x7]) (.agg #[Im x0,Im x1,Im x2,Im x3,Im x4,Im x5,Im x6,Im x7])).run prog w=.ok true w:=by
 obtain⟨i,hi⟩:∃i,prog.info? 3=some i:=Option.isSome_iff_exists.1 (by kernel_rfl);rw[show(10000:Nat)=9999+1 from rfl,run_equalIn_array w 9999 _ _ Tryz.underlying26 hi,show prog.cellsOf 3=1 by kernel_rfl];refine acy _ w _ λi hi=>?_;have:i<8:=by simpa using hi
 match i,this with
 |0,_=>exact⟨_,rfl⟩
 |1,_=>exact⟨_,rfl⟩
 |2,_=>exact⟨_,rfl⟩
 |3,_=>exact⟨_,rfl⟩
 |4,_=>exact⟨_,rfl⟩
 |5,_=>exact⟨_,rfl⟩
 |6,_=>exact⟨_,rfl⟩
 |7,_=>exact⟨_,rfl⟩
theorem aa1:∀(l:List (Int×Int))(i:Nat)(a:Int×Int),l[i]? =some a->(nT l)[i * 2]? =some (Im a.1)/\(nT l)[i * 2+1]? =some (Im a.2)
 |[],i,a,h=>by simp at h
 |q::l,0,a,h=>by
  simp at h;subst h;simp[nT]
 |q::l,i+1,a,h=>by
  have d:=aa1 l i a (by simpa using h);have e:nT (q::l)=Im q.1::Im q.2::nT l:=by simp[nT]
  rw[e,show(i+1) * 2=i * 2+1+1 by omega];refine⟨d.1,?_⟩;rw[show i * 2+1+1+1=(i * 2+1)+1+1 by omega];exact d.2
end
end
section
open Go.RowKit
open Hx (Rd Pk Vw St Mc jK Out Ls)
attribute [local go_sem ↓] Go.wp_at_zero Go.wp_at_succ
attribute [local go_sem] kN
section
variable {w w':jk}
theorem uz.later{B d:Nat}{cb co sb so cap:Nat}{jB:List St}(h:uz B w cb co sb so cap jB)(i:Below B w w')(j:B<=d):uz d w' cb co sb so cap jB:=by
 have:=h.keep i;exact⟨by have:=this.IC;omega,by have:=this.Hu;omega,this.slice,this.step⟩
theorem uV.later{B s:Nat}{z y t:Option Addr}{D C A:Nat}{v:Vw}(h:uV B w z y t D C A v)(j:Below B w w')(E:B<=s):uV s w' z y t D C A v:=by
 have d:=h.keep (w':=w') λx F=>j.cell (p:=x) F;refine⟨d.jU.mono E,λi r q=>?_,λi r q=>?_,d.KE,d.KD,d.KC,d.yX⟩
 .obtain⟨b,o,e,j,n⟩:=d.kK i r q;exact⟨b,o,e,by omega,n⟩
 .obtain⟨b,o,e,j,n⟩:=d.jW i r q;exact⟨b,o,e,by omega,n⟩
theorem wO.later{B:Nat}(h:wO w)(i:Below B w w')(d:1<B):wO w':=λj n=>(i.cell (p:=(Ad 1 j)) d).trans (h j n)
theorem F7.later{C:Nat}{l:Ls}(h:F7 w C l)(d:Below w.heap.size w w'):F7 w' C l:=by
 obtain⟨n,i,j⟩:=h.code;exact⟨⟨n,i,j.later d d.size⟩,(d.cell (p:=(Ad C 1)) j.IC).trans h.jD,(d.cell (p:=(Ad C 2)) j.IC).trans h.jC⟩
theorem Yt{bs:List UInt8}(h:xA bs=true):bs.length<=100000/\(mF bs).bad=false:=by
 simp only[xA,dD,decide_eq_true_eq,Bool.not_eq_true']at h;exact⟨by omega,by simp[h]⟩
def wI(v:Vw)(bs:List UInt8)(fuel x0 x1 x2 x3 x4 x5 x6 x7:Int):Out:=Di v (mF bs).jB (mF bs).jD.toNat fuel x0 x1 x2 x3 x4 x5 x6 x7
theorem asE(w:jk)(C:Nat)(bs:List UInt8)(I:xA bs=true)(A:F7 w C (mF bs))(v:Vw)(n j i:Option Addr)(s z r y q t:Nat)(x0 x1 x2 x3 x4 x5 x6 x7 fuel:Int)
 (J:uV w.heap.size w n j i s r q v)(D:wO w)(d:1<w.heap.size)(K:∀x∈[x0,x1,x2,x3,x4,x5,x6,x7],jK x)(p:fuel<=9223372036854775807):
 Calls prog 16 #[Pt C 0,.agg #[.slice n s z,.slice j r y,.slice i q t],.agg #[Im x0,Im x1,Im x2,Im x3,Im x4,Im x5,Im x6,Im x7],Im fuel] w λe w'=>
  ∃B,e=.returned (vG (wI v bs fuel x0 x1 x2 x3 x4 x5 x6 x7).status B (wI v bs fuel x0 x1 x2 x3 x4 x5 x6 x7).jF)/\
   w'.ownsRow w.heap.size 76 2 B (wI v bs fuel x0 x1 x2 x3 x4 x5 x6 x7).jP.length (nT (wI v bs fuel x0 x1 x2 x3 x4 x5 x6 x7).jP)/\Below w.heap.size w w':=by
 obtain⟨G,E⟩:=Yt I;have h:=Hx.RF bs G E;obtain⟨L,o,F⟩:=A.code;have e:(((mF bs).jD.toNat:Nat):Int)=(mF bs).jD:=by have:=h.jD;omega
 exact asD w C 0 L 0 o (mF bs).jD.toNat (mF bs).jB v n j i s z r y q t x0 x1 x2 x3 x4 x5 x6 x7 fuel h.sound.fits (by have:=h.jD;omega) (by have:=h.jD;omega) F (by rw[e];exact A.jD) J D d K p
theorem Below.Jh(h:w.grownBy w' none):Below w.heap.size w w':=⟨h.os,h.tape,h.output,h.size,λk d=>h.block k d (by simp)⟩
structure FZ(w W:jk)(o0 o1 o2:Obj):Prop where
 below:Below w.heap.size w W
 b0:W.heap[w.heap.size]? =some o0
 b1:W.heap[w.heap.size+1]? =some o1
 b2:W.heap[w.heap.size+2]? =some o2
theorem akz(w:jk)(d h i:Obj):FZ w (((w.alloc d).alloc h).alloc i) d h i:=by
 have e:(((w.alloc d).alloc h).alloc i).heap=((w.heap.push d).push h).push i:=rfl;have g:w.grownBy (((w.alloc d).alloc h).alloc i) none:=((ah w _ none).trans (ah _ _ none)).trans (ah _ _ none);refine⟨Below.Jh g,?_,?_,?_⟩;all_goals
  rw[e];simp only[eH,eY];repeat (rw[jg (by omega)])
  exact jh trivial
theorem FZ.lt{W:jk}{d i j:Obj}(h:FZ w W d i j):w.heap.size+2<W.heap.size:=lT h.b2
theorem FZ.later{W y:jk}{i j n:Obj}(h:FZ w W i j n)(d:Below W.heap.size W y):FZ w y i j n:=by
 have:=h.lt;exact⟨h.below.trans (d.mono (by omega)),(d.block _ (by omega)).trans h.b0,(d.block _ (by omega)).trans h.b1,(d.block _ (by omega)).trans h.b2⟩
theorem ar1(d:Array jm)(w:jk)(g:Nat)(i j n o p q r s t y b:jm)(z:d[8]? =some (Pt g 0))(A:d[9]? =some b)(h:w.heap[g]? =some (.cells #[i,j,n,o,p,q,r,s,t,y] 35)):
 (results Tryz.f26 d).run prog w=.ok (.tuple #[.agg #[i,j,n,o,p,q,r,s,t,y],b]) w:=by
 have B:=jJ 0 h rfl;have C:=jJ 1 h rfl;have D:=jJ 2 h rfl;have E:=jJ 3 h rfl;have F:=jJ 4 h rfl;have G:=jJ 5 h rfl;have I:=jJ 6 h rfl;have J:=jJ 7 h rfl;have K:=jJ 8 h rfl;have L:=jJ 9 h rfl;simp[results,Tryz.results26,go_sem,z,A,B,C,D,E,F,G,I,J,K,L]
theorem ata(w:jk)(g:Nat)(T:jo)(I G F E D B A y t r d i j n o p q s z C:jm)(h:w.heap[g]? =some (.cells #[I,G,F,E,D,B,A,y,t,r] T)):
 ((((((((((w.setCell (Ad g 0) d).setCell (Ad g 1) i).setCell (Ad g 2) j).setCell (Ad g 3) n).setCell (Ad g 4) o).setCell (Ad g 5) p).setCell (Ad g 6) q).setCell (Ad g 7) s).setCell (Ad g 8) z).setCell (Ad g 9) C).heap[g]? =some (.cells #[d,i,j,n,o,p,q,s,z,C] T)/\w.grownBy ((((((((((w.setCell (Ad g 0) d).setCell (Ad g 1) i).setCell (Ad g 2) j).setCell (Ad g 3) n).setCell (Ad g 4) o).setCell (Ad g 5) p).setCell (Ad g 6) q).setCell (Ad g 7) s).setCell (Ad g 8) z).setCell (Ad g 9) C) (some g):=by
 have V:(w.setCell (Ad g 0) d).heap[g]? =some (.cells #[d,G,F,E,D,B,A,y,t,r] T):=aK _ _ _ _ _ _ h;have J:w.grownBy (w.setCell (Ad g 0) d) (some g):=mM w g 0 d;have X:((w.setCell (Ad g 0) d).setCell (Ad g 1) i).heap[g]? =some (.cells #[d,i,F,E,D,B,A,y,t,r] T):=aK _ _ _ _ _ _ V;have K:w.grownBy ((w.setCell (Ad g 0) d).setCell (Ad g 1) i) (some g):=J.trans (mM _ g 1 i);have Y:(((w.setCell (Ad g 0) d).setCell (Ad g 1) i).setCell (Ad g 2) j).heap[g]? =some (.cells #[d,i,j,E,D,B,A,y,t,r] T):=aK _ _ _ _ _ _ X;have L:w.grownBy (((w.setCell (Ad g 0) d).setCell (Ad g 1) i).setCell (Ad g 2) j) (some g):=K.trans (mM _ g 2 j);have Z:((((w.setCell (Ad g 0) d).setCell (Ad g 1) i).setCell (Ad g 2) j).setCell (Ad g 3) n).heap[g]? =some (.cells #[d,i,j,n,D,B,A,y,t,r] T):=aK _ _ _ _ _ _ Y;have M:=L.trans (mM _ g 3 n);have h4:(((((w.setCell (Ad g 0) d).setCell (Ad g 1) i).setCell (Ad g 2) j).setCell (Ad g 3) n).setCell (Ad g 4) o).heap[g]? =some (.cells #[d,i,j,n,o,B,A,y,t,r] T):=aK _ _ _ _ _ _ Z;have N:=M.trans (mM _ g 4 o);have h5:((((((w.setCell (Ad g 0) d).setCell (Ad g 1) i).setCell (Ad g 2) j).setCell (Ad g 3) n).setCell (Ad g 4) o).setCell (Ad g 5) p).heap[g]? =some (.cells #[d,i,j,n,o,p,A,y,t,r] T):=aK _ _ _ _ _ _ h4;have O:=N.trans (mM _ g 5 p)
 have h6:(((((((w.setCell (Ad g 0) d).setCell (Ad g 1) i).setCell (Ad g 2) j).setCell (Ad g 3) n).setCell (Ad g 4) o).setCell (Ad g 5) p).setCell (Ad g 6) q).heap[g]? =some (.cells #[d,i,j,n,o,p,q,y,t,r] T):=aK _ _ _ _ _ _ h5;have P:=O.trans (mM _ g 6 q);have h7:((((((((w.setCell (Ad g 0) d).setCell (Ad g 1) i).setCell (Ad g 2) j).setCell (Ad g 3) n).setCell (Ad g 4) o).setCell (Ad g 5) p).setCell (Ad g 6) q).setCell (Ad g 7) s).heap[g]? =some (.cells #[d,i,j,n,o,p,q,s,t,r] T):=aK _ _ _ _ _ _ h6;have Q:=P.trans (mM _ g 7 s);have h8:(((((((((w.setCell (Ad g 0) d).setCell (Ad g 1) i).setCell (Ad g 2) j).setCell (Ad g 3) n).setCell (Ad g 4) o).setCell (Ad g 5) p).setCell (Ad g 6) q).setCell (Ad g 7) s).setCell (Ad g 8) z).heap[g]? =some (.cells #[d,i,j,n,o,p,q,s,z,r] T):=aK _ _ _ _ _ _ h7;have R:=Q.trans (mM _ g 8 z);have h9:((((((((((w.setCell (Ad g 0) d).setCell (Ad g 1) i).setCell (Ad g 2) j).setCell (Ad g 3) n).setCell (Ad g 4) o).setCell (Ad g 5) p).setCell (Ad g 6) q).setCell (Ad g 7) s).setCell (Ad g 8) z).setCell (Ad g 9) C).heap[g]? =some (.cells #[d,i,j,n,o,p,q,s,z,C] T):=aK _ _ _ _ _ _ h8;have U:=R.trans (mM _ g 9 C);exact⟨h9,U⟩
theorem aqP(v:Vw)(d:vJ v=true)(bs:List UInt8)(t:xA bs=true)(fuel x0 x1 x2 x3 x4 x5 x6 x7:Int):
 Hx.Uu v [x0,x1,x2,x3,x4,x5,x6,x7] (wI v bs fuel x0 x1 x2 x3 x4 x5 x6 x7)/\
 (wI v bs (mF bs).jC x0 x1 x2 x3 x4 x5 x6 x7).status≠2/\
 ((wI v bs fuel x0 x1 x2 x3 x4 x5 x6 x7).status=2->fuel<(mF bs).jC)/\
 ((wI v bs fuel x0 x1 x2 x3 x4 x5 x6 x7).status≠2->wI v bs fuel x0 x1 x2 x3 x4 x5 x6 x7=wI v bs (mF bs).jC x0 x1 x2 x3 x4 x5 x6 x7):=by
 obtain⟨n,j⟩:=Yt t;have i:=aae d;have s:v.small:=⟨i.KN,i.KL,i.KJ⟩;have r:Hx.xH (sN x0 x1 x2 x3 x4 x5 x6 x7 (mF bs).jD.toNat):=⟨by simp[sN],λx y=>by
  simp[sN]at y;omega⟩
 obtain⟨o,p,q⟩:=Hx.aoR bs n j v s [x0,x1,x2,x3,x4,x5,x6,x7] _ r fuel.toNat;have e:∀f:Int,wI v bs f x0 x1 x2 x3 x4 x5 x6 x7=Hx.runs v (mF bs).jB [x0,x1,x2,x3,x4,x5,x6,x7] f.toNat 0 (sN x0 x1 x2 x3 x4 x5 x6 x7 (mF bs).jD.toNat):=λf=>by
  rw[wI,Di,jh d]
 have z:=(Hx.RF bs n j).jC;rw[e,e];refine⟨Hx.agM v _ _ _ _ _ (Hx.ajx v),o,λh=>?_,q⟩;have:=p h;omega
variable {x:Raw}{x0 x1 x2 x3 x4 x5 x6 x7:Int}
end
end
section
open Go.RowKit Hx
attribute [local go_sem ↓] Go.wp_at_zero Go.wp_at_succ
attribute [local go_sem] kN
section
variable {w w' w1 w2 w3 wr W:jk}{lo hi m b H S g l k:Nat}{u v fv:jm}{e:Ex}{a:Int}{T:jo}{c:Co}{x:Sx}{oH:List jm}
structure AX(x:Sx)(S g lo hi:Nat)(fv:jm)(oH:List jm)(w wr:jk)(k m:Nat):Prop where
 rest:uY g (x.jE.drop k) wr m hi (oH.drop k)
 set:wr.heap[S]? =some (.cells #[Im x.at',Im x.jw,.string x.base,Im x.of,fv] 348)
 row:wr.heap[g]? =w.heap[g]?
 fk:Fk w wr lo hi
 m1:S<m
 m2:m<=hi
theorem AX.oD{n:Wd×Ex}(h:AX x S g lo hi fv oH w wr k m)(I:∀b∈x.jE,∀a,Lawful (b.2.here a))(p:x.jE[k]? =some n)(J:lo<=S)(O:g<hi)(N:hi<=w.heap.size):
 ∃l d u,oH[k]? =some u/\m<=l/\l<=d/\d<=hi/\n.2.here n.2.at' wr l d u/\∀q,Fk wr q l d->AX x S g lo hi fv oH w q (k+1) d:=by
 have i:k<x.jE.length:=by
  rcases dG k x.jE.length with s|s
  .exact s
  .rw[bV s]at p;cases p
 have t:x.jE[k]=n:=by
  rw[bU i]at p;exact fZ p
 have B:=h.rest;rw[dA i,t]at B;obtain⟨l,d,u,z,A,C,D,r,M,E,F⟩:=B;have P:=h.fk.size;have K:oH[k]? =some u:=by
  have:=congrArg (λl=>l[0]?) A;simpa using this
 have y:oH.drop (k+1)=z:=by
  have:=congrArg List.tail A;simpa using this
 refine⟨l,d,u,K,C,D,r,E,λq o=>⟨?_,(o.keep S (by have:=h.m1;have:=h.m2;omega) (jf (by have:=h.m1;omega))).trans h.set,(o.keep g (by omega) (by omega)).trans h.row,?_,by have:=h.m1;omega,r⟩⟩
 .rw[y];exact Gz (λc G=>I c (gU G)) F λj L Q=>o.keep j (by omega) (je L)
 .exact h.fk.trans (o.wide (by have:=h.m1;omega) r)
theorem Fk.box{o:Obj}{j:Nat}(h:Fk (w.alloc o) w2 l m):Fk w (w2.setCell (Ad w.heap.size j) u) l m:=by
 have n:=ah w o none;have i:=mM w2 w.heap.size j u;have d:=(Fk.grown (lo:=l) (hi:=m) n).trans h;exact⟨i.os.trans d.os,i.tape.trans d.tape,i.output.trans d.output,dH d.size i.size,λk q p=>(i.block k (by have:=d.size;omega) (by intro e;cases e;omega)).trans (d.keep k q p)⟩
theorem AX.grow{row:Option Nat}(h:AX x S g lo hi fv oH w wr k m)(y:∀b∈x.jE,∀a,Lawful (b.2.here a))(d:wr.grownBy W row)(i:∀j,row=some j->w.heap.size<=j)(z:hi<=w.heap.size)(t:g<hi):AX x S g lo hi fv oH w W k m:=by
 have B:=h.fk.size;have n:∀j,j<w.heap.size->W.heap[j]? =wr.heap[j]? :=λj A=>d.block j (by omega) λe=>by have:=i j e.symm;omega
 have r:=h.m1;have o:=h.m2;exact⟨Gz (λc s=>y c (gU s)) h.rest λj p q=>n j (by omega),(n S (by omega)).trans h.set,(n g (by omega)).trans h.row,⟨d.os.trans h.fk.os,d.tape.trans h.fk.tape,d.output.trans h.fk.output,by have:=d.size;omega,λj p q=>(n j p).trans (h.fk.keep j p q)⟩,r,o⟩
theorem X5(h:∀b∈x.jE,nV b.2)(aB:x.jE.length<=100000)(hh:oZ x w lo hi (Pt S 0))(hH:hi<=w.heap.size):
 Calls prog 341 #[Pt S 0] w λen w'=>en=.returned (.tuple #[])/\TS x w' lo hi w.heap.size w'.heap.size S/\Fk w w' lo hi:=by
 have hl:∀b∈x.jE,∀a,Lawful (b.2.here a):=λb hb a=>(h b hb).lZ.ok.law a;obtain⟨S',fv,hv,h1,h2,hS,J⟩:=hh;cases hv;obtain⟨g,oH,m0,ae,ab,Gi⟩:∃g oH m0,g<hi/\AX x S g lo hi fv oH w w 0 m0/\∀(k:Nat)(z:Wd×Ex)(u:jm),x.jE[k]? =some z->oH[k]? =some u->(∃q,fv=.slice (some (Ad g 0)) x.jE.length q)/\w.cell? (Ad g (k * 3))=some (.string z.1.text)/\w.cell? (Ad g (k * 3+1))=some (Im z.1.at')/\w.cell? (Ad g (k * 3+2))=some u:=by
  by_cases hf:x.jE=[]
  .refine⟨S,[],S+1,h2,⟨by rw[hf];rfl,hS,rfl,Fk.refl _ _ _,by omega,by omega⟩,λk z u hk=>by rw[hf]at hk;simp at hk⟩
  .rcases J with⟨h4,_⟩|⟨g,q,m,us,ak,e1,g1,g2,m1,m2,Z,hg,E⟩
   .exact jl h4 hf
   .have hm:m<=hi:=by
     cases hx:x.jE with
     |nil=>exact jl hx hf
     |cons b0 bs=>
      rw[hx]at Z;obtain⟨l,s,u,aP,_,z1,z2,z3,_⟩:=Z;omega
    refine⟨g,us,m,g2,⟨Z,hS,rfl,Fk.refl _ _ _,m2,hm⟩,λk z u hk hu=>⟨⟨q,e1⟩,?_⟩⟩;obtain⟨z0,z1,z2⟩:=Qg _ us k _ u hk hu;exact⟨(jG hg).trans (E _ _ z0),(jG hg).trans (E _ _ z1),(jG hg).trans (E _ _ z2)⟩
 obtain⟨fa,O,am⟩:∃fa O,fv=.slice fa x.jE.length O:=by
  rcases J with⟨hf,rfl⟩|⟨g,q,m,us,ak,rfl,_⟩
  .exact⟨none,0,by rw[hf];rfl⟩
  .exact⟨_,_,rfl⟩
 subst am;have c4:w.cell? (Ad S 4)=some (.slice fa x.jE.length O):=jG hS;have H0:Hid (vM x S w.heap.size m0 w 0 (Nl) [] []/\AX x S g lo hi (.slice fa x.jE.length O) oH w w 0 m0):=⟨vM.nil _ _ _ _ _,ab⟩;have Gi:=jA Gi;have HF:=jA h;have HL:=jA hl;have HB:=jA (jd h1 (jd h2 (jd hH ae)));have aF:S<w.heap.size:=by omega
 clear hS J ab h hl h1 h2 hH ae;go_enter func341,ntmps341;go_wp2_with fail;go_loopg [2,10] (x.jE.length+1) (λK kv i wr=>Hid (∃(k m:Nat)(r:List (Wd×Ex))(d:List jm),k+K=x.jE.length+1/\k<=x.jE.length/\i=Im k/\vM x S w.heap.size m wr k kv r d/\AX x S g lo hi (.slice fa x.jE.length O) oH w wr k m))
 case atStart=>exact⟨0,m0,[],[],by omega,bD _,rfl,H0.out⟩
 case round=>
  obtain⟨k,m,r,d,aM,aN,rfl,hK,C⟩:=hrel.out;clear hrel H0 c4;obtain⟨L,M,ar⟩:=XU hK.row;subst ar;obtain⟨b1,b2,b3,b4⟩:=HB.out;by_cases au:k<x.jE.length
  .have d1:decide ((k:Int)<(x.jE.length:Int))=true:=by simp;omega
   have i0:(0:Int)<=(k:Int):=by omega
   have i1:(k:Int)<(x.jE.length:Int):=by omega
   obtain⟨z,F⟩:∃z,x.jE[k]? =some z:=⟨_,bU au⟩;have hQ:=HF.out z (bT F);obtain⟨l,s,u,hu,q1,q2,q3,q4,q5⟩:=C.oD HL.out F b1 b4 b3;obtain⟨⟨q,ac⟩,z0,z1,z2⟩:=Gi.out k z u F hu;cases ac;obtain⟨T1,a1,rfl,aG,l1,l2,_⟩:=hQ.lZ.ok.head _ _ _ _ _ q4;have aO:=C.fk.size;have k0:wr.cell? (Ad g (k * 3))=some (.string z.1.text):=(bQ C.row).trans z0;have k1:wr.cell? (Ad g (k * 3+1))=some (Im z.1.at'):=(bQ C.row).trans z1;have k2:wr.cell? (Ad g (k * 3+2))=some (.iface T1 (Pt a1 0)):=(bQ C.row).trans z2;obtain⟨g',aJ⟩:∃g',gk=g'+1:=⟨gk-1,by omega⟩;obtain⟨f1,Hl,kM,H1⟩:=hQ.fold _ (wr.alloc (.cells #[.string z.1.text,Im z.1.at',.iface T1 (Pt a1 0)] 361)) l s T1 a1 ((hQ.lZ.ok.law _).loc _ _ _ _ _ q4 λj _ R=>fP _ _ _ (by omega)) (by rw[oz];omega);have kM:∀U w,(callFunc f1 U).run prog w=.ok (.enter f1 U) w:=kM;have H1:=jA H1;have HK:=jA hK;have HR:=jA C;have JE:=jA q5;have HQ:=jA hQ;have PG:=jA F;have aL:g<wr.heap.size:=by omega
   have ng:¬g=wr.heap.size:=by omega
   have av:s<=wr.heap.size:=by omega
   clear hK C q4 q5 hQ F hu z0 z1 z2 Gi;obtain⟨⟨X,V⟩,be⟩:=z;simp only at k0 k1 k2 H1 HQ JE PG;go_wp2_with fail;refine H1.out.mono ?_;rintro en w2 ⟨v',rfl,VD,E8⟩;have G:w2.heap[wr.heap.size]? =some (.cells #[.string X,Im V,.iface T1 (Pt a1 0)] 361):=(E8.keep _ (by rw[oz];omega) (je av)).trans (aY _ _);have c2:w2.cell? (Ad wr.heap.size 2)=some (.iface T1 (Pt a1 0)):=jG G;have fz:∀j,w2.frozen? (Ad wr.heap.size j)=false:=λj=>nA G;obtain⟨e',n,p,x2,T3,a3,aw,aH,ap,aa,Bj,Kq,_,GY⟩:=VD;subst aw;have QO:=aK w2 _ 2 _ _ (.iface n (Pt p 0)) G;have e0:(w2.setCell (Ad wr.heap.size 2) (.iface n (Pt p 0))).cell? (Ad wr.heap.size 0)=some (.string X):=jG QO;have e1:(w2.setCell (Ad wr.heap.size 2) (.iface n (Pt p 0))).cell? (Ad wr.heap.size 1)=some (Im V):=jG QO;have e2:(w2.setCell (Ad wr.heap.size 2) (.iface n (Pt p 0))).cell? (Ad wr.heap.size 2)=some (.iface n (Pt p 0)):=jG QO;have VI:∀w',qA (w2.setCell (Ad wr.heap.size 2) (.iface n (Pt p 0))) w' l s (wr.heap.size+1) w2.heap.size->qA w2 w' l s (wr.alloc (.cells #[.string X,Im V,.iface T1 (Pt a1 0)] 361)).heap.size w2.heap.size:=λw' hw j hj=>by
    rw[oz]at hj;exact(hw j (by omega)).trans (qZ j (by omega))
   have N:=jA (Wx (GY _ (VI _ (qA.refl _ _ _ _ _))).2 true);have B:Fk wr (w2.setCell (Ad wr.heap.size 2) (.iface n (Pt p 0))) l s:=Fk.box E8;have af:(w2.setCell (Ad wr.heap.size 2) (.iface n (Pt p 0))).heap.size=w2.heap.size:=dI ..;have MF:Hid (vM x S w.heap.size s (w2.setCell (Ad wr.heap.size 2) (.iface n (Pt p 0))) k (.slice L r.length M) r d/\AX x S g lo hi (.slice (some (Ad g 0)) x.jE.length O) oH w (w2.setCell (Ad wr.heap.size 2) (.iface n (Pt p 0))) (k+1) s/\zW (S+1) s w.heap.size (w2.setCell (Ad wr.heap.size 2) (.iface n (Pt p 0))) (Value.slice L r.length M).ownBlock λw lo hi=>e'.here e'.at' w lo hi (.iface n (Pt p 0))):=by
    have QL:=HR.out.m1;refine⟨HK.out.pI (by omega) B.size (λj j1 R=>B.keep j (by omega) (jf (by omega))) (λj j1 R=>B.keep j R (je (by omega))),JE.out _ B,l,s,wr.heap.size+1,w2.heap.size,by omega,aj _,by omega,by omega,λK an=>jf (by have:=(HK.out.row.lt K an).2;omega),λw' hw=>(GY w' (VI w' hw)).1⟩
   have ax:w.heap.size<=w2.heap.size:=by have:=B.size;omega
   have ag:=jA (jd aa (jd Bj Kq));have aI:r.length<=100000:=by have:=HK.out.len;omega
   have HO:=jA (λo=>MF.out.1.row.alloc o);have D:Hid (be.does.fd.lg true=false->∀(o:Obj)(y:jk)(K q:Nat),((w2.setCell (Ad wr.heap.size 2) (.iface n (Pt p 0))).alloc o).grownBy y (Value.slice L r.length M).ownBlock->y.ownsRow w.heap.size 361 3 (.slice (some (Ad K 0)) (r.length+1) q) (r.length+1) (d++[.string X,Im V,.iface n (Pt p 0)])->((Value.slice L r.length M).ownBlock=some K\/K=w2.heap.size+1)->
    vM x S w.heap.size s y (k+1) (.slice (some (Ad K 0)) (r.length+1) q) (r++[(⟨X,V⟩,e')]) (d++[.string X,Im V,.iface n (Pt p 0)])/\AX x S g lo hi (.slice (some (Ad g 0)) x.jE.length O) oH w y (k+1) s):=λht o y K q I A Q=>by
    obtain⟨n1,n2,n3⟩:=MF.out;have Y:=ah (w2.setCell (Ad wr.heap.size 2) (.iface n (Pt p 0))) o none;have QL:=HR.out.m1;have hk:=n1.pI (aj _) Y.size (λj j1 R=>Y.block j (by omega) (by simp)) (λj j1 R=>Y.block j R (by simp));have hh:=n3.later (own':=(Value.slice L r.length M).ownBlock) (aj _) Y.size (λj j1 R=>Y.block j (by omega) (by simp)) (λj j1 R _=>Y.block j R (by simp)) (jf rfl);refine⟨hk.add PG.out ht I (by rw[oz];omega) (by omega) A Q (by rw[oz];omega) aa Bj Kq hh,?_⟩;have Xh:=n2.grow HL.out Y (λj hj=>by cases hj) b3 b4;exact Xh.grow HL.out I (λj hj=>(hk.row.lt j hj).1) b3 b4
   have ad:=HQ.out.lZ.ok.jw;have MQ:Hid (be.does.fd.lg true=true->vM x S w.heap.size s (w2.setCell (Ad wr.heap.size 2) (.iface n (Pt p 0))) (k+1) (.slice L r.length M) r d/\AX x S g lo hi (.slice (some (Ad g 0)) x.jE.length O) oH w (w2.setCell (Ad wr.heap.size 2) (.iface n (Pt p 0))) (k+1) s):=λht=>⟨MF.out.1.skip PG.out ad.1 ht,MF.out.2.1⟩;obtain⟨Q9,ao,ay,az,aA⟩:=info_parts adN;have GV:wr.heap.size<w2.heap.size:=lT G;clear E8 G QO VI GY B MF aa Bj Kq ag HK HR JE HQ PG H1 kM Hl ap ad k0 k1 k2;generalize aD:r.length=fl at *;cases hT:be.does.fd.lg true with
   |true=>
    rw[hT]at N;have xC:=jA (MQ.out hT);clear MQ D HO;go_wp2_with fail;refine N.out.mono ?_;rintro en w4 ⟨rfl,rfl⟩;go_wp2_with fail;go_roundg g'
    case measure=>omega
    case rel=>exact⟨k+1,s,r,d,by omega,by omega,by go_num,xC.out⟩
   |false=>
    rw[hT]at N;have xC:=jA (D.out hT);clear MQ D;go_wp2_with fail;refine N.out.mono ?_;rintro en w4 ⟨rfl,rfl⟩;generalize al:w2.setCell (Ad wr.heap.size 2) (.iface n (Pt p 0))=w3 at *;clear al c2 fz;have aE:w.heap.size<=w3.heap.size:=by omega
    have ai:=jA af;clear af GV ax;go_wp2_with (at_builtin;refine wpList_append_lies _ rfl _ _ 346 rfl w.heap.size 361 Q9 _ 3 40 Tryz.underlying346 ao ay az aA rfl (by decide) (.slice L fl M) fl d rfl (HO.out _) (Ad w3.heap.size 0) 1 1 [.string X,Im V,.iface n (Pt p 0)] rfl rfl (fM (cs:=#[.string X,Im V,.iface n (Pt p 0)]) (t:=361) (fr:=(0,0)) (aY w3 _)) (by simp[Value.oneCell']) (by decide) (by unfold maxLen;omega) (by omega) (by simp;omega) (w3.heap.size+1) (by simp) ?_;intro K q w5 A I Q aC);have MH:=jA (xC.out _ _ _ _ I A (by rw[<-ai.out];exact Q));clear I A Q xC HO;go_wp2_with fail;go_roundg g'
    case measure=>omega
    case rel=>exact⟨k+1,s,_,_,by omega,by omega,by go_num,MH.out⟩
  .have d1:decide ((k:Int)<(x.jE.length:Int))=false:=by simp;omega
   have aq:k=x.jE.length:=by omega
   subst aq;have P:=C.set;have d4:wr.cell? (Ad S 4)=some (.slice fa x.jE.length O):=jG P;have fz:∀j,wr.frozen? (Ad S j)=false:=λj=>nA P;have HE:Hid (TS x (wr.setCell (Ad S 4) (.slice L r.length M)) lo hi w.heap.size (wr.setCell (Ad S 4) (.slice L r.length M)).heap.size S/\Fk w (wr.setCell (Ad S 4) (.slice L r.length M)) lo hi):=
    ⟨hK.done b1 b2 C.m2 b3 C.fk.size P,C.fk.trans (Fk.set b1 b2)⟩
   clear hK C Gi HF HL P HB;generalize r.length=fl at *;go_wp2_with fail;go_end0;exact⟨rfl,HE.out⟩
end
section
variable {w w' w1 w2 w3 wr W:jk}{lo hi m b H S g l k:Nat}{u v fv:jm}{e:Ex}{a:Int}{T:jo}{c:Co}{x:Sx}
theorem ajO{fs j:List (Wd×Ex)}(h:zl fs j)(i d:ji):DK i d fs=DK i d j:=by
 funext c into
 unfold DK;rw[acE h]
theorem apx{fs:List (Wd×Ex)}{j:Ex}(h:zl fs x.fold)(n:j.does.give=e.does.fd.give)(kind:Int)(i:ji)(t:Wd):(yR kind i x (t,e)).fd.give=(yR kind i {x with jE:=fs} (t,j)).give:=by
 funext c into
 simp only[yR];rw[afH h,adR (d:=j.does) (d':=e.does.fd.dn) rfl n]
theorem VB{N:Nat}(h:rF N nV x):rF N kF x:=⟨h.of,λb d=>(h.all b d).lZ,h.len,h.jw,h.sum⟩
theorem Vr{N:Nat}(p:N<=100000)(h:rF N nV x)(i:x.jw<=1000000){fs:List (Wd×Ex)}(d:∀b∈fs,kF b.2)(n:(fs.map λb=>1+b.2.jw).sum<=(x.jE.map λb=>1+b.2.jw).sum)(o:fs.length<=x.jE.length):wM {x with jE:=fs}:=
 ⟨d,λb j=>(d b j).ok.jw.1,by have:=h.sum i;show 1+(fs.map λb=>1+b.2.jw).sum<=x.jw;omega,i,by have:=h.len;show fs.length<=100000;omega⟩
theorem ajP{N:Nat}(B:N<=100000)(h:rF N nV x)(kind:Int)(d:ji):nV (wP kind d x):=by
 refine⟨abd B (VB h) kind d,?_⟩;rintro a w lo hi T b ⟨L,X,K,j,z,⟨u,rfl,p⟩,n⟩ R;cases K;obtain⟨S,fv,rfl,_⟩:=id p;have M:w.cell? (Ad b 4)=some (Pt S 0):=jG n;have q:=jA (X5 h.all (by have:=h.len;omega) p (by omega));have r:=jA n;refine⟨391,λw=>by kernel_rfl,λs w=>by kernel_rfl,?_⟩;clear p n;go_enter func391,ntmps391;go_wp2_with fail;refine q.out.mono ?_;rintro Q w1 ⟨rfl,A,i⟩;have D:Hid (mO (wP kind d x).does.fd (wP kind d x).jw w1 lo hi w.heap.size w1.heap.size (.iface 410 (Pt b 0))/\Fk w w1 lo hi):=by
  have o:=(i.keep b (by omega) (je (aj _))).trans r.out;have V:=i.size;obtain⟨y,E,t,F,G,O,P,I⟩:=A;refine⟨⟨_,_,b,rJ,0,0,rfl,by simp[lQ],jf ⟨j,z⟩,UH (x:={x with jE:=y}) t kind a (jS [x.jw]) d (qx h.jw) (λJ=>?_) {give:=(wP kind d x).does.fd.give} ?_,rfl,aV _,λh=>jl h (by show¬(0:Int)=3;decide),λw' C=>⟨?_,Ji rfl (by unfold zi;decide)⟩⟩,i.wide (aj _) (by omega)⟩
  .have U:=yU h.jw.1 h.jw.2 J;exact⟨Vr B h (by omega) t F G,by show 1+x.jw<=_;omega⟩
  .show DK d x.base x.fold=DK d x.base y;exact(ajO E _ _).symm
  .exact⟨b,_,rfl,j,by omega,⟨_,rfl,I w' (C.less (aj _) (by omega) (aj _) (aj _))⟩,(C b (jf ⟨j,z⟩)).trans o⟩
 clear A i q r;go_wp2_with fail;go_ret;exact⟨_,rfl,D.out⟩
theorem apy{N:Nat}(hN:N<=100000)(h:rF N nV x)(kind:Int)(d:ji)(t:Wd)(C:nV e):nV (qL kind d x (t,e)):=by
 have ec:=C.lZ.ok.jw;refine⟨aeS hN (VB h) kind d t C.lZ,?_⟩;rintro a w lo hi T b ⟨b',us,hv,G,L,⟨m,u,v,rfl,m1,m2,R,p⟩,B⟩ hH;cases hv;obtain⟨S,fv,rfl,_⟩:=id R;obtain⟨I,J,rfl,aa,l1,l2,_⟩:=C.lZ.ok.head _ _ _ _ _ p;obtain⟨E,D⟩:=t;have c4:w.cell? (Ad b 4)=some (Pt S 0):=jG B;have X:=jA (X5 h.all (by have:=h.len;omega) R (by omega));have Y:=jA B;have HV:=jA p;refine⟨394,λw=>by kernel_rfl,λn w=>by kernel_rfl,?_⟩;have P:b<w.heap.size:=by omega
 clear R B p;go_enter func394,ntmps394;go_wp2_with fail;refine X.out.mono ?_;rintro en w1 ⟨rfl,z,r⟩;have s1:=r.size;have i:=(r.keep b P (je (by omega))).trans Y.out;have d7:w1.cell? (Ad b 7)=some (.iface I (Pt J 0)):=jG i;obtain⟨f1,Hl,kM,F⟩:=C.fold _ w1 m b I J ((C.lZ.ok.law _).loc _ _ _ _ _ HV.out λj j1 j2=>r.keep j (by omega) (je j1)) (by omega);have kM:∀n w,(callFunc f1 n).run prog w=.ok (.enter f1 n) w:=kM;have F:=jA F;have Z:=jA (jd z (jd r i));clear z r i Y HV X;go_wp2_with fail;refine F.out.mono ?_;rintro en w2 ⟨v',rfl,M,o⟩;obtain⟨z,r,i⟩:=Z.out;have s2:=o.size;have q:=(o.keep b (by omega) (je (aj _))).trans i;have e7:w2.cell? (Ad b 7)=some (.iface I (Pt J 0)):=jG q;have fz:∀j,w2.frozen? (Ad b j)=false:=λj=>nA q;obtain⟨e',s,y,_,_,_,p,q1,q2,U,q4,q5,_,q6⟩:=M;subst p;have HE:Hid (mO (qL kind d x (⟨E,D⟩,e)).does.fd (qL kind d x (⟨E,D⟩,e)).jw (w2.setCell (Ad b 7) (.iface s (Pt y 0))) lo hi w.heap.size (w2.setCell (Ad b 7) (.iface s (Pt y 0))).heap.size (.iface 413 (Pt b 0))/\Fk w (w2.setCell (Ad b 7) (.iface s (Pt y 0))) lo hi):=by
  have O:=aK w2 _ 7 _ _ (.iface s (Pt y 0)) q;have g3:=mM w2 b 7 (.iface s (Pt y 0));have s3:(w2.setCell (Ad b 7) (.iface s (Pt y 0))).heap.size=w2.heap.size:=dI ..;have V:=tC (x:=x) ec;obtain⟨fs,e1,K,e3,e4,e5,e6,e7⟩:=z;refine⟨⟨_,_,b,rJ,0,0,rfl,by simp[lQ],jf ⟨G,L⟩,aeR (x:={x with jE:=fs}) K h.jw kind a (jS [x.jw,x.round e.jw]) d ⟨E,D⟩ U (rO h.jw V) (λhk=>?_) {give:=(qL kind d x (⟨E,D⟩,e)).does.fd.give} ?_,rfl,aV _,λh=>jl h (by show¬(0:Int)=3;decide),λw' ha=>⟨?_,Ji rfl (by unfold zi;decide)⟩⟩,((r.wide (aj _) (by omega)).trans (o.wide (by omega) (by omega))).trans (Fk.set G L)⟩
  .have hp:=Ap h.jw.1 h.jw.2 V.1 V.2 hk;have hg:=O7 (x:=x) ec.1 (by have:=h.jw;omega);exact⟨Vr hN h (by have:=h.jw;omega) K e3 e4,by have:=h.jw;omega,by show 2+x.jw+_<=_;omega⟩
  .exact apx e1 q4 kind d ⟨E,D⟩
  .have A:∀j,j≠b->(lo<=j/\j<hi)\/(w.heap.size<=j/\j<w2.heap.size)->w'.heap[j]? =w2.heap[j]? :=λj Q hk=>(ha j (by omega)).trans (qZ j Q);refine⟨b,_,rfl,G,by omega,⟨_,_,rfl,?_,?_⟩,(ha b (jf ⟨G,L⟩)).trans O⟩
   .refine(Hz λb B a=>(K b B).ok.law a).wide _ _ _ _ _ _ (e7 w' λj Q=>?_) (aj _) (by omega);exact(A j (by omega) (by omega)).trans (o.keep j (by omega) (by omega))
   .exact(U.ok.law _).wide _ _ _ _ _ _ (q6 w' λj Q=>A j (by omega) (by omega)).1 (by omega) (by omega)
 clear z r i q o q1 q2 U q4 q5 q6 F Z;go_wp2_with fail;go_ret;exact⟨_,rfl,HE.out⟩
theorem alT(N:Nat)(j:N<=100000):Dw N nV nV where
 jw:=λ_ h=>h.lZ.ok.jw
 number:=ap1
 lD:=λa b=>Yw (TJ a 2 b)
 none:=Yw Hq
 register:=asc
 use:=avn
 widen:=λ_ a h=>avz h a
 isNone:=λa _ h=>anK h a
 minus:=λa d _ _ h=>afv h a 1 d
 not:=λa d _ _ h=>afv h a 2 d
 two:=λa d _ _ h k=>au8 h k a _ d
 property:=λa _ t h=>arn h a _ _ t
 RY:=λa _ _ h k=>aqh h k a
 Nu:=λk i _ h=>ajP j h k i
 He:=λk i _ b h n=>apy j h k i b.1 n
theorem alH(s:ji)(h:s.size<=4000)(d:Nat)(p:Ps):nV (lG s d p).1:=
 Qr s (λ_=>nV) (Yw Hq) (λ_=>alT (s.size+1) (by omega)) d p
end
section
variable {w w' w1 w2 w3 wr W:jk}{lo hi m b H S g l k:Nat}{u v fv:jm}{e f:Ex}{a:Int}{T:jo}{c:Co}{x:Sx}
def EN(meth:String)(T:jo)(b:Nat)(w:jk)(r:Bool):Prop:=
 ∃f,(∀w,(method 576 T (Pt b 0) meth).run prog w=.ok (f,Pt b 0) w)/\Enters f/\
  Calls prog f #[Pt b 0] w λen w'=>en=.returned (.bool r)/\w'=w
def zO(fs:L8)(k:Int)(w:jk)(lo m H hi:Nat)(T:jo)(b:Nat):Prop:=
 ∃s:jI,qh s/\s.does={lay:=fs.lay,fs:=fs}/\s.jw=k/\
  ∀w',qA w w' lo m H hi->s.here w' lo hi (.iface T (Pt b 0))/\EN "helm/lang.idle" T b w' fs.idle/\EN "helm/lang.ends" T b w' fs.ends
structure Dx(s:jI):Prop where
 wV:qh s
 fold:∀w lo hi T b,s.here w lo hi (.iface T (Pt b 0))->hi<=w.heap.size->s.jw<=1000000->
  ∃f,(∀w,(method 576 T (Pt b 0) "helm/lang.fold").run prog w=.ok (f,Pt b 0) w)/\Enters f/\
   Calls prog f #[Pt b 0] w λen w'=>en=.returned (.tuple #[])/\zO s.does.fs s.jw w' lo hi w.heap.size w'.heap.size T b/\Fk w w' lo hi
theorem aq6(b:Nat)(w:jk):Calls prog 309 #[Pt b 0] w λd w'=>d=.returned (.bool false)/\w'=w:=by
 go_enter func309,ntmps309;go_wp2_with fail;go_ret;exact⟨rfl,rfl⟩
theorem aq5(b:Nat)(w:jk):Calls prog 307 #[Pt b 0] w λd w'=>d=.returned (.bool false)/\w'=w:=by
 go_enter func307,ntmps307;go_wp2_with fail;go_ret;exact⟨rfl,rfl⟩
theorem asr(b:Nat)(w:jk):Calls prog 330 #[Pt b 0] w λd w'=>d=.returned (.bool true)/\w'=w:=by
 go_enter func330,ntmps330;go_wp2_with fail;go_ret;exact⟨rfl,rfl⟩
def Gp(T:jo):Prop:=T∈[331,321,327,333,336]
theorem XH(h:Gp T)(b:Nat)(w:jk):EN "helm/lang.idle" T b w false:=by
 refine⟨309,λw=>?_,λd w=>by kernel_rfl,aq6 b w⟩;simp only[Gp,dh,dU,or_false]at h;rcases h with rfl|rfl|rfl|rfl|rfl<;>kernel_rfl
def Gq(T:jo):Prop:=T∈[331,321,327,333,349]
theorem XG(h:Gq T)(b:Nat)(w:jk):EN "helm/lang.ends" T b w false:=by
 refine⟨307,λw=>?_,λd w=>by kernel_rfl,aq5 b w⟩;simp only[Gq,dh,dU,or_false]at h;rcases h with rfl|rfl|rfl|rfl|rfl<;>kernel_rfl
theorem qh.does{s:jI}(h:qh s){ds:Ds}(d:ds.lay=s.does.lay):qh {s with does:=ds}:=
 h.of ⟨h.ok.law,h.ok.head,h.ok.jw⟩ (λ_ _ _ _ h=>h) rfl d
theorem WH{T' p:jo}{k s:Int}{mk:List jm->List jm}{fs:L8}{g:oK}{W:jk}(F:Gp T')(o:Gq T')(n:fs.idle=false)(i:fs.ends=false)(q:lo<=b)(A:b<hi)(O:hi<=H)(E:mO g s w1 lo b H w1.heap.size v)(G:w1.heap.size<=W.heap.size)
 (h:∀j,j<w1.heap.size->j≠b->W.heap[j]? =w1.heap[j]?)(B:W.heap[b]? =some (.cells (Im a::Im k::mk [v]).toArray p))
 (D:∀d:Ex,kF d->d.does.give=g.give->d.jw<=s->∃ds:Ds,qh (wY T' p a k (oD (d.here d.at')) mk ds)/\ds.lay=fs.lay)(C:b<w1.heap.size):zO fs k W lo hi H W.heap.size T' b:=by
 obtain⟨d,M,N,_,_,_,rfl,Q,R,t,J,K,_,L⟩:=E;obtain⟨ds,y,z⟩:=D d t J K;refine⟨_,y.does (ds:={lay:=fs.lay,fs:=fs}) z.symm,rfl,rfl,λw' r=>⟨?_,by rw[n];exact XH F b w',by rw[i];exact XG o b w'⟩⟩;have I:qA w1 w' lo b H w1.heap.size:=λj P=>(r j (by omega)).trans (h j (by omega) (by omega));exact⟨b,_,rfl,q,by omega,⟨_,rfl,(t.ok.law _).wide _ _ _ _ _ _ (L w' I).1 (aj _) G⟩,(r b (jf ⟨q,A⟩)).trans B⟩
theorem ahA{d d':Dn}(h:d.give=d'.give)(slot:Int):c.store slot d=c.store slot d':=by unfold Co.store;rw[h]
theorem auE(t:nV e)(p i:Int):Dx (uQ p i e):=by
 have r:=t.lZ.ok.jw;refine⟨ahG t.lZ p i,?_⟩;rintro w lo hi T b ⟨Z,L,X,G,I,⟨u,rfl,B⟩,z⟩ R J;cases X;obtain⟨D,E,rfl,U,l1,l2,_⟩:=t.lZ.ok.head _ _ _ _ _ B;obtain⟨F,m1,K,q⟩:=t.fold _ _ _ _ _ _ B (by omega);have K:∀d w,(callFunc F d).run prog w=.ok (.enter F d) w:=K;have c3:w.cell? (Ad b 3)=some (.iface D (Pt E 0)):=jG z;have q:=jA q;have M:=jA z;have A:b<w.heap.size:=by omega
 refine⟨318,λw=>by kernel_rfl,λd w=>by kernel_rfl,?_⟩;clear B z;go_enter func318,ntmps318;go_wp2_with fail;refine q.out.mono ?_;rintro en w1 ⟨Y,rfl,y,s⟩;have h:=(s.keep b A (je (aj _))).trans M.out;have d3:w1.cell? (Ad b 3)=some (.iface D (Pt E 0)):=jG h;have fz:∀j,w1.frozen? (Ad b j)=false:=λj=>nA h;obtain⟨n,o,C⟩:∃n o,Y=.iface n (Pt o 0):=by
  obtain⟨_,n,o,_,_,_,O,_⟩:=y;exact⟨n,o,O⟩
 subst C;have N:Hid (zO (uQ p i e).does.fs (uQ p i e).jw (w1.setCell (Ad b 3) (.iface n (Pt o 0))) lo hi w.heap.size (w1.setCell (Ad b 3) (.iface n (Pt o 0))).heap.size 327 b/\Fk w (w1.setCell (Ad b 3) (.iface n (Pt o 0))) lo hi):=by
  have s1:=s.size;have g:=mM w1 b 3 (.iface n (Pt o 0));refine⟨?_,(s.wide (aj _) (by omega)).trans (Fk.set G I)⟩;refine WH (k:=jS [e.jw]) (mk:=λL=>Im i::L) (by simp[Gp]) (by simp[Gq]) rfl rfl G I R y g.size (λj _ V=>qZ j V) (aK _ _ _ _ _ _ h) ?_ (by omega);intro e' P Q g3;refine⟨_,ahF P p i ⟨yE (by simp;exact r),(qx r).2⟩ λJ=>by rw[yU r.1 r.2 J];omega,?_⟩;funext c
  exact ahA Q i
 clear y s h q;go_wp2_with fail;go_end0;exact⟨rfl,N.out⟩
theorem atl(s:nV e)(t:Wd):Dx (sV t e):=by
 obtain⟨y,o⟩:=t;have q:=s.lZ.ok.jw;refine⟨ag9 s.lZ _,?_⟩;rintro w lo hi T b ⟨b',M,Y,I,J,⟨u,rfl,C⟩,A⟩ U K;cases Y;obtain⟨E,F,rfl,V,l1,l2,_⟩:=s.lZ.ok.head _ _ _ _ _ C;obtain⟨G,m1,L,p⟩:=s.fold _ _ _ _ _ _ C (by omega);have L:∀d w,(callFunc G d).run prog w=.ok (.enter G d) w:=L;have c3:w.cell? (Ad b 4)=some (.iface E (Pt F 0)):=jG A;have p:=jA p;have N:=jA A;have B:b<w.heap.size:=by omega
 refine⟨308,λw=>by kernel_rfl,λd w=>by kernel_rfl,?_⟩;clear C A;go_enter func308,ntmps308;go_wp2_with fail;refine p.out.mono ?_;rintro en w1 ⟨Z,rfl,z,r⟩;have h:=(r.keep b B (je (aj _))).trans N.out;have d3:w1.cell? (Ad b 4)=some (.iface E (Pt F 0)):=jG h;have fz:∀j,w1.frozen? (Ad b j)=false:=λj=>nA h;obtain⟨i,n,D⟩:∃i n,Z=.iface i (Pt n 0):=by
  obtain⟨_,i,n,_,_,_,P,_⟩:=z;exact⟨i,n,P⟩
 subst D;have O:Hid (zO (sV ⟨y,o⟩ e).does.fs (sV ⟨y,o⟩ e).jw (w1.setCell (Ad b 4) (.iface i (Pt n 0))) lo hi w.heap.size (w1.setCell (Ad b 4) (.iface i (Pt n 0))).heap.size 321 b/\Fk w (w1.setCell (Ad b 4) (.iface i (Pt n 0))) lo hi):=by
  have s1:=r.size;have g:=mM w1 b 4 (.iface i (Pt n 0));refine⟨?_,(r.wide (aj _) (by omega)).trans (Fk.set I J)⟩;refine WH (k:=jS [e.jw]) (mk:=λM=>.string y::Im o::M) (by simp[Gp]) (by simp[Gq]) rfl rfl I J U z g.size (λj _ X=>qZ j X) (aK _ _ _ _ _ _ h) ?_ (by omega);intro e' Q R g3;refine⟨_,ag8 Q ⟨y,o⟩ o ⟨yE (by simp;exact q),(qx q).2⟩ λK=>by rw[yU q.1 q.2 K];omega,?_⟩;funext c
  exact ahA R _
 clear z r h p;go_wp2_with fail;go_end0;exact⟨rfl,O.out⟩
theorem apd(s:nV e)(o:Int)(t:Wd):Dx (sF o t e):=by
 obtain⟨z,y⟩:=t;have q:=s.lZ.ok.jw;refine⟨aeJ s.lZ o _,?_⟩;rintro w lo hi T b ⟨b',N,Z,J,K,⟨u,rfl,D⟩,B⟩ V L;cases Z;obtain⟨F,G,rfl,X,l1,l2,_⟩:=s.lZ.ok.head _ _ _ _ _ D;obtain⟨I,m1,M,p⟩:=s.fold _ _ _ _ _ _ D (by omega);have M:∀d w,(callFunc I d).run prog w=.ok (.enter I d) w:=M;have c3:w.cell? (Ad b 4)=some (.iface F (Pt G 0)):=jG B;have p:=jA p;have O:=jA B;have C:b<w.heap.size:=by omega
 refine⟨321,λw=>by kernel_rfl,λd w=>by kernel_rfl,?_⟩;clear D B;go_enter func321,ntmps321;go_wp2_with fail;refine p.out.mono ?_;rintro en w1 ⟨v',rfl,A,r⟩;have h:=(r.keep b C (je (aj _))).trans O.out;have d3:w1.cell? (Ad b 4)=some (.iface F (Pt G 0)):=jG h;have fz:∀j,w1.frozen? (Ad b j)=false:=λj=>nA h;obtain⟨i,n,E⟩:∃i n,v'=.iface i (Pt n 0):=by
  obtain⟨_,i,n,_,_,_,Q,_⟩:=A;exact⟨i,n,Q⟩
 subst E;have P:Hid (zO (sF o ⟨z,y⟩ e).does.fs (sF o ⟨z,y⟩ e).jw (w1.setCell (Ad b 4) (.iface i (Pt n 0))) lo hi w.heap.size (w1.setCell (Ad b 4) (.iface i (Pt n 0))).heap.size 331 b/\Fk w (w1.setCell (Ad b 4) (.iface i (Pt n 0))) lo hi):=by
  have s1:=r.size;have g:=mM w1 b 4 (.iface i (Pt n 0));refine⟨?_,(r.wide (aj _) (by omega)).trans (Fk.set J K)⟩;refine WH (k:=jS [e.jw]) (mk:=λN=>.string z::Im y::N) (by simp[Gp]) (by simp[Gq]) rfl rfl J K V A g.size (λj _ Y=>qZ j Y) (aK _ _ _ _ _ _ h) ?_ (by omega);intro e' R U g3;refine⟨_,aeI R o ⟨z,y⟩ ⟨yE (by simp;exact q),(qx q).2⟩ λL=>by rw[yU q.1 q.2 L];omega,?_⟩;funext c
  simp only[RI,sF,yS];rw[U]
 clear A r h p;go_wp2_with fail;go_end0;exact⟨rfl,P.out⟩
theorem asn(d:Int):Dx (yV d):=by
 refine⟨XQ d,?_⟩;rintro w lo hi T b ⟨t,s,r,i,p,j,n⟩ y z;cases r;refine⟨331,λw=>by kernel_rfl,λh w=>by kernel_rfl,?_⟩;have o:Hid (zO (yV d).does.fs (yV d).jw w lo hi w.heap.size w.heap.size 336 b/\Fk w w lo hi):=by
  refine⟨⟨_,(XQ d).does (ds:={lay:=(yV d).does.fs.lay,fs:=(yV d).does.fs}) rfl,rfl,rfl,λw' q=>⟨?_,XH (by simp[Gp]) b w',330,λw=>by kernel_rfl,λh w=>by kernel_rfl,asr b w'⟩⟩,Fk.refl _ _ _⟩;exact⟨b,s,rfl,i,by omega,j,(q b (jf ⟨i,p⟩)).trans n⟩
 clear n j;go_enter func331,ntmps331;go_wp2_with fail;go_end0;exact⟨rfl,o.out⟩
theorem arx(N:nV e)(D:nV f)(s:Int):Dx (sQ s e f):=by
 have K:=N.lZ.ok.jw;have L:=D.lZ.ok.jw;refine⟨agk N.lZ D.lZ s,?_⟩;rintro w lo hi T b ⟨b',us,hv,M,U,⟨m,u,v,rfl,m1,m2,hu,t⟩,Y⟩ hH hk;cases hv;obtain⟨T1,b1,rfl,ad,l1,l2,_⟩:=N.lZ.ok.head _ _ _ _ _ hu;obtain⟨P,Q,rfl,ae,l3,l4,_⟩:=D.lZ.ok.head _ _ _ _ _ t;obtain⟨f1,Hl,kM,I⟩:=N.fold _ _ _ _ _ _ hu (by omega);have kM:∀d w,(callFunc f1 d).run prog w=.ok (.enter f1 d) w:=kM;have c2:w.cell? (Ad b 2)=some (.iface T1 (Pt b1 0)):=jG Y;have I:=jA I;have HB:=jA Y;have HV:=jA t;have aa:b<w.heap.size:=by omega
 refine⟨327,λw=>by kernel_rfl,λd w=>by kernel_rfl,?_⟩;clear hu Y t;go_enter func327,ntmps327;go_wp2_with fail;refine I.out.mono ?_;rintro en w1 ⟨v',rfl,hF,B⟩;have s1:=B.size;have i:=(B.keep b aa (je (by omega))).trans HB.out;have d2:w1.cell? (Ad b 2)=some (.iface T1 (Pt b1 0)):=jG i;have fz:∀j,w1.frozen? (Ad b j)=false:=λj=>nA i;obtain⟨e',q,r,_,_,_,ab,q1,q2,y,F,O,_,G⟩:=hF;subst ab;have h:=aK w1 _ 2 _ _ (.iface q (Pt r 0)) i;have d3:(w1.setCell (Ad b 2) (.iface q (Pt r 0))).cell? (Ad b 3)=some (.iface P (Pt Q 0)):=jG h;have s2:(w1.setCell (Ad b 2) (.iface q (Pt r 0))).heap.size=w1.heap.size:=dI ..;obtain⟨f2,Xf,qC,J⟩:=D.fold _ (w1.setCell (Ad b 2) (.iface q (Pt r 0))) m b P Q ((D.lZ.ok.law _).loc _ _ _ _ _ HV.out λj j1 j2=>(qZ j (by omega)).trans (B.keep j (by omega) (je j1))) (by omega);have qC:∀d w,(callFunc f2 d).run prog w=.ok (.enter f2 d) w:=qC;have J:=jA J;have o:Fk w (w1.setCell (Ad b 2) (.iface q (Pt r 0))) lo hi:=(B.wide (aj _) (by omega)).trans (Fk.set M U);have p:∀w',qA (w1.setCell (Ad b 2) (.iface q (Pt r 0))) w' lo m w.heap.size w1.heap.size->e'.here e'.at' w' lo w1.heap.size (.iface q (Pt r 0)):=λw' hw=>(G w' λj E=>(hw j E).trans (qZ j (by omega))).1;have HS:=jA (jd o (jd h (jd p (jd y (jd F O)))));clear B i h o p q1 q2 y F O G I HB HV;go_wp2_with fail;generalize X:w1.setCell (Ad b 2) (.iface q (Pt r 0))=W1 at *;clear X d2 fz;refine J.out.mono ?_
 rintro en w2 ⟨af,rfl,V,n⟩;obtain⟨o,i,p,R,g2,g3⟩:=HS.out;have s3:=n.size;have h:=(n.keep b (by omega) (je (aj _))).trans i;have e3:w2.cell? (Ad b 3)=some (.iface P (Pt Q 0)):=jG h;have fz:∀j,w2.frozen? (Ad b j)=false:=λj=>nA h;obtain⟨f',z,A,_,_,_,ac,q1,q2,y,F,O,_,G⟩:=V;subst ac;have HE:Hid (zO (sQ s e f).does.fs (sQ s e f).jw (w2.setCell (Ad b 3) (.iface z (Pt A 0))) lo hi w.heap.size (w2.setCell (Ad b 3) (.iface z (Pt A 0))).heap.size 333 b/\Fk w (w2.setCell (Ad b 3) (.iface z (Pt A 0))) lo hi):=by
  have Z:=aK w2 _ 3 _ _ (.iface z (Pt A 0)) h;have s4:(w2.setCell (Ad b 3) (.iface z (Pt A 0))).heap.size=w2.heap.size:=dI ..;refine⟨⟨_,(agj R y s (k:=jS [e.jw,f.jw]) ⟨yE (by simp;exact⟨K,L⟩),(rO K L).2⟩ λhk=>by rw[Ap K.1 K.2 L.1 L.2 hk];omega).does (ds:={lay:=(sQ s e f).does.fs.lay,fs:=(sQ s e f).does.fs}) ?_,rfl,rfl,λw' ha=>⟨?_,XH (by simp[Gp]) b w',XG (by simp[Gq]) b w'⟩⟩,(o.trans (n.wide (by omega) (by omega))).trans (Fk.set M U)⟩
  .funext c
   simp only[XK,sQ,yS,wY];rw[g2,F]
  .have C:∀j,j≠b->(lo<=j/\j<hi)\/(w.heap.size<=j/\j<w2.heap.size)->w'.heap[j]? =w2.heap[j]? :=λj E hk=>(ha j (by omega)).trans (qZ j E);refine⟨b,_,rfl,M,by omega,⟨_,_,rfl,?_,?_⟩,(ha b (jf ⟨M,U⟩)).trans Z⟩
   .refine(R.ok.law _).wide _ _ _ _ _ _ (p w' λj E=>?_) (aj _) (by omega);exact(C j (by omega) (by omega)).trans (n.keep j (by omega) (by omega))
   .exact(y.ok.law _).wide _ _ _ _ _ _ (G w' λj E=>C j (by omega) (by omega)).1 (by omega) (by omega)
 clear o i p R g2 g3 h n q1 q2 y F O G J HS;go_wp2_with fail;go_end0;exact⟨rfl,HE.out⟩
end
end
end Go.Proofs.YthllhabjfchgiaaGreatDoor
