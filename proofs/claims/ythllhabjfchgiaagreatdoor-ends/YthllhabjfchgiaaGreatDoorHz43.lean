import Derived.Test.YthllhabjfchgiaaGreatDoorHz42
import Derived.Laws.BytesArg
import Derived.Test.YthllhabjfchgiaaGreatDoorHz11
import Derived.ChangeKeysEq
import Derived.Test.YthllhabjfchgiaaGreatDoorHz36
import Derived.Test.YthllhabjfchgiaaGreatDoorHz35
set_option maxRecDepth 100000
set_option maxHeartbeats 8000000
namespace Go.Proofs.YthllhabjfchgiaaGreatDoor
open _root_.Go.Proofs.Tryz
section
open Go.RowKit Hx
attribute [local go_sem ↓] Go.wp_at_zero Go.wp_at_succ
attribute [local go_sem] bT
section
variable {w:World}{C:Nat}{c:Co}{l:List bI}{v nv:Value}
def CG:Co:=⟨[],[],8⟩
def Gw(l:List bI):List Int:=((fF l CG).lay 0 []).code
theorem aaV(w:World):aV (w.alloc (.cells #[Nl,Nl,Im 8] 197)) w.heap.size CG:=
 ⟨Nl,Nl,heap_alloc_new w _,World.ownsRow_nil _ _ _ _,World.ownsRow_nil _ _ _ _,fun g e=>by cases e⟩
theorem kM.bytes(h:kM w C v nv c)(hne:c.code≠[]):∃g cap,v=.slice (some (Ad g 0)) c.code.length cap/\∀i,i<c.code.length->w.cell? (Ad g (0+i))=some (.int .u8 (c.code.getD i 0)):=by
 rcases h.code.2 with⟨_,e⟩|⟨g,cap,cur,e1,e2,e3,e4,e5,e6,e7⟩
 .exact absurd (List.length_eq_zero_iff.1 e) hne
 .refine⟨g,cap,e1,fun i hi=>?_⟩;have hc:w.cell? (Ad g (0+i))=cur[0+i]? :=aA e3;rw[hc];have h1:=congrArg (fun l:List Value=>l[i]?) e7;simp only[Nat.mul_one,nD]at h1;rw[List.getElem?_take_of_lt hi,List.getElem?_map,List.getElem?_eq_getElem hi]at h1;rw[Nat.zero_add,<-Array.getElem?_toList,h1];simp[List.getD,List.getElem?_eq_getElem hi]
theorem aaW{lo hi:Nat}(hL:sU l)(hh:dX l w lo hi v)(hhi:hi<=w.heap.size)(hk:dK l<=1000000):
 Calls prog 46 #[v] w fun e w'=>e=.returned (.string (strOfNums (Gw l)))/\w.grownBy w' none:=by
 obtain⟨va,vn,vc,rfl⟩:=uK hh;have hsum:=qG hL.ok;have hlen:=hL.len CG hk;have hlen:(fF l CG).code.length<=300000000:=by have:CG.code.length=0:=rfl;omega
 have H1:Hid (∀o,o=Obj.cells #[Nl,Nl,Im 8] 197->Calls prog 91 #[Pt w.heap.size 0,.slice va vn vc] (w.alloc o) fun e w'=>e=.returned (.tuple #[])/\aV w' w.heap.size (fF l CG)/\w.grownBy w' none):=fun o ho=>by
  subst ho;have g0:=World.grownBy_alloc w (.cells #[Nl,Nl,Im 8] 197) none;refine(hL.lay _ _ _ _ _ _ (hL.law.loc _ _ _ _ _ hh fun b _ b2=>g0.block b (by omega) (by simp)) hhi (aaV w) ⟨hk,by show(0:Int)+_<=_;omega,by show(0:Int)+_<=_;omega⟩).mono ?_;rintro e w' ⟨e1,e2,e3⟩;refine⟨e1,e2,⟨e3.os.trans g0.os,e3.tape.trans g0.tape,e3.output.trans g0.output,Nat.le_trans g0.size e3.size,fun k hk' _=>(e3.aN k hk').trans (g0.block k hk' (by simp))⟩⟩
 clear hh hL;unfold Gw;generalize fF l CG=cb at *;generalize hbs:(cb.lay 0 []).code=bs;have YS:Hid ((cb.lay 0 []).code=bs):=hbs;clear hbs;go_enter func46,ntmps46;go_wp2_with fail;refine(H1.out _ rfl).mono ?_;rintro e w1 ⟨rfl,p1,g1⟩;have H2:=bC (AZ p1 0 (by omega));have HG:Hid (w.grownBy w1 none):=g1;clear p1 g1 H1;go_wp2_with fail;refine H2.out.mono ?_;rintro e w2 ⟨rfl,⟨v2,Wj,p2⟩,e2⟩;have HF:Hid (w.grownBy w2 none):=⟨e2.os.trans HG.out.os,e2.tape.trans HG.out.tape,e2.output.trans HG.out.output,Nat.le_trans HG.out.size e2.size,fun k hk h=>(e2.aN k hk).trans (HG.out.block k hk h)⟩;have c0:w2.cell? (Ad w.heap.size 0)=some v2:=aA p2.aW;obtain⟨g2,cap2,rfl,hcell⟩:=p2.bytes (by simp[Co.lay]);have hconv:(convert 194 9 (.slice (some (Ad g2 0)) (cb.lay 0 []).code.length cap2)).run prog w2=.ok (.string (strOfNums (cb.lay 0 []).code)) w2:=run_convert_bytes_arg w2 194 5 (by kernel_rfl) (by kernel_rfl) g2 0 (cb.lay 0 []).code.length cap2 _ rfl (fun i hi=>hcell i hi) 9 (by kernel_rfl);rw[YS.out]at hconv c0;clear p2 e2 H2 HG hcell;generalize bs.length=nb at *;go_wp2_with fail;go_ret;exact⟨rfl,HF.out⟩
theorem afO(s:ByteArray):sU (kV s).1:=by
 unfold kV;split
 .exact KX (by simp)
 .have hs:s.size<=4000:=by omega
  unfold sF;split
  .exact aiu s hs 21 _
  .exact KX (by simp)
theorem aaL(s:ByteArray)(h:(oO s).2.1=0):sU (oO s).1/\dK (oO s).1<=1000000:=by
 unfold oO at h⊢;split at h
 .contradiction
 split at h
 .contradiction
 split at h
 .exact absurd h (by decide)
 .rename_i h1 h2 h3;rw[if_neg h1,if_neg h2,if_neg h3];exact⟨afO s,by show dK (kV s).1<=1000000;omega⟩
def uG(s:ByteArray):ByteArray×Int×Int:=if (oO s).2.1≠0 then (⟨#[]⟩,(oO s).2.1,(oO s).2.2)else (strOfNums (Gw (oO s).1),0,0)
theorem TB(s:ByteArray)(w:World):Calls prog 12 #[.string s,.bool false] w fun e w'=>e=.returned (.tuple #[.string (uG s).1,Im (uG s).2.1,Im (uG s).2.2])/\w.grownBy w' none:=by
 have HC:Hid (Calls prog 44 #[.string s] w fun e w'=>∃v,e=.returned (.tuple #[v,.agg #[Im (oO s).2.1,Im (oO s).2.2]])/\dX (oO s).1 w' w.heap.size w'.heap.size v/\w.grownBy w' none):=aaK s w;have Jg:Hid ((oO s).2.1=0->sU (oO s).1/\dK (oO s).1<=1000000):=aaL s;unfold uG;generalize oO s=R at *;obtain⟨L,en,ea⟩:=R;simp only at HC Jg⊢;by_cases he:en=0
 .subst he;obtain⟨hL,hk⟩:=Jg.out rfl;have HL:Hid (sU L/\dK L<=1000000):=⟨hL,hk⟩;clear Jg hL hk;simp only[ne_eq,not_true_eq_false,if_false];generalize hcs:strOfNums (Gw L)=cs at *;have YU:Hid (strOfNums (Gw L)=cs):=hcs;clear hcs;go_enter func12,ntmps12;go_wp2_with fail;refine HC.out.mono ?_;rintro e w1 ⟨v,rfl,h1,g1⟩;obtain⟨va,vn,vc,rfl⟩:=uK h1;have HK:Hid (∀o,Calls prog 46 #[.slice va vn vc] (w1.alloc o) fun e w'=>e=.returned (.string cs)/\w.grownBy w' none):=fun o=>by
   rw[<-YU.out];have g0:=World.grownBy_alloc w1 o none;refine(aaW HL.out.1 (HL.out.1.law.loc _ _ _ _ _ h1 fun b _ b2=>g0.block b (by omega) (by simp)) (Nat.le_trans (Nat.le_refl _) g0.size) HL.out.2).mono ?_;rintro e w' ⟨q1,q2⟩;exact⟨q1,(g1.trans g0).trans q2⟩
  clear h1 g1 HC HL;go_wp2_with fail;refine(HK.out _).mono ?_;rintro e w2 ⟨rfl,g2⟩;have HG:Hid (w.grownBy w2 none):=g2;clear g2 HK;go_wp2_with fail;exact bodyPost_ret (by simp[results,Tryz.results12,go_sem]) rfl ⟨rfl,HG.out⟩
 .have hb:(en !=0)=true:=by simp[he]
  clear Jg;rw[if_pos he];go_enter func12,ntmps12;go_wp2_with fail;refine HC.out.mono ?_;rintro e w1 ⟨v,rfl,h1,g1⟩;have HG:Hid (w.grownBy w1 none):=g1;clear h1 g1 HC;go_wp2_with fail;go_quiet (fail);go_wp2_with fail;exact bodyPost_ret (by simp[results,Tryz.results12,go_sem]) rfl ⟨rfl,HG.out.trans ((World.grownBy_alloc _ _ none).trans (dh _ _))⟩
end
end
section
open Go.RowKit
def KY:ByteArray:=⟨#[112,117,115,104,40,82,79,65,68,83,46,102,105,114,115,116,44,32,70,82,69,83,72,46,102,105,114,115,116,41,59,32,82,49,32,61,32,50,59]⟩
def vV:ByteArray:=strOfNums [21,16,0,24,16,16,21,18,2,24,18,18,36,16,18,6,2,4,0]
theorem A8{w w':World}{B:Nat}(h:Below B w w')(hB:w.heap.size<=B):w.grownBy w' none:=⟨h.os,h.tape,h.output,h.size,fun k hk _=>h.block k (by omega)⟩
theorem adW:uG KY=(vV,0,0):=by decide+kernel
theorem aa0(w:World):Calls prog 12 #[.string KY,.bool false] w fun e w'=>e=.returned (.tuple #[.string vV,Im 0,Im 0])/\w.grownBy w' none:=by
 have h:=TB KY w;rw[adW]at h;exact h
end
section
open Go.RowKit
open Hx (Rd Pk Vw St Mc aZ)
attribute [local go_sem ↓] Go.wp_at_zero Go.wp_at_succ
attribute [local go_sem] bT
def mP(c n:Int):Int:=(if c<0 then -(c+1)else c)%n
theorem Iy{c n:Int}(hn:0<n):0<=mP c n/\mP c n<n:=⟨Int.emod_nonneg _ (by omega),Int.emod_lt_of_pos _ hn⟩
theorem Fh(w:World)(c n:Int)(hc:aZ c)(hn:0<n)(hn2:n<=9223372036854775807):
 Calls prog 28 #[Im c,Im n] w fun e w'=>e=.returned (Im (mP c n))/\w'=w:=by
 obtain⟨c0,c1⟩:=hc;have n0:¬n=0:=by omega
 by_cases h:c<0
 .have d:decide (c<0)=true:=decide_eq_true h;go_enter func28,ntmps28;go_wp2;go_ret;refine⟨tX ?_,rfl⟩;rw[mP,if_pos h];first
   |(rw[<-Int.neg_tmod];exact Int.tmod_eq_emod_of_nonneg (by omega))
   |exact Int.tmod_eq_emod_of_nonneg (by omega)
 .have d:decide (c<0)=false:=decide_eq_false h;go_enter func28,ntmps28;go_wp2;go_ret;refine⟨tX ?_,rfl⟩;rw[mP,if_neg (by omega)]
end
section
open Go.RowKit
open Hx (Rd Pk Vw St Mc aZ)
section
def uU(l:List Rd):List Value:=l.flatMap fun r=>[Im r.id,Im r.DF,Im r.cO,Im r.out,.bool r.nX]
def wB(l:List Pk):List Value:=l.flatMap fun p=>[Im p.seq,Im p.size,Im p.on]
structure Raw where
 ar:Option Addr
 af:Option Addr
 aa:Option Addr
 nr:Nat
 cr:Nat
 nf:Nat
 cf:Nat
 na:Nat
 ca:Nat
variable {w wr y:World}{x:Raw}{vr vf va:Value}{out:List Rd}{fs gs:List Pk}{sn:Array Value}
theorem afD{B k:Nat}{e:TypeId}{s n:Nat}{v:Value}{xs:List Value}(h:wr.ownsRow B e s v n xs)(hk:k<B):v.ownBlock=none\/v.ownBlock≠some k:=by
 cases hv:v.ownBlock with
 |none=>exact Or.inl rfl
 |some g=>
  right;have:=(h.lt g hv).1;intro e;simp only[Option.some.injEq]at e;omega
end
section
variable {w:World}
theorem Qm:∀(l:List Rd)(i:Nat)(r:Rd),l[i]? =some r->(uU l)[i * 5]? =some (Im r.id)/\(uU l)[i * 5+1]? =some (Im r.DF)/\(uU l)[i * 5+2]? =some (Im r.cO)/\(uU l)[i * 5+3]? =some (Im r.out)/\(uU l)[i * 5+4]? =some (.bool r.nX)
 |[],i,r,h=>by simp at h
 |q::l,0,r,h=>by
  simp at h;subst h;simp[uU]
 |q::l,i+1,r,h=>by
  have ih:=Qm l i r (by simpa using h);have e:uU (q::l)=Im q.id::Im q.DF::Im q.cO::Im q.out::.bool q.nX::uU l:=by simp[uU]
  rw[e,show(i+1) * 5=i * 5+1+1+1+1+1 by omega];refine⟨ih.1,?_,?_,?_,?_⟩
  .rw[show i * 5+1+1+1+1+1+1=(i * 5+1)+1+1+1+1+1 by omega];exact ih.2.1
  .rw[show i * 5+1+1+1+1+1+2=(i * 5+2)+1+1+1+1+1 by omega];exact ih.2.2.1
  .rw[show i * 5+1+1+1+1+1+3=(i * 5+3)+1+1+1+1+1 by omega];exact ih.2.2.2.1
  .rw[show i * 5+1+1+1+1+1+4=(i * 5+4)+1+1+1+1+1 by omega];exact ih.2.2.2.2
theorem P7:∀(l:List Pk)(i:Nat)(r:Pk),l[i]? =some r->(wB l)[i * 3]? =some (Im r.seq)/\(wB l)[i * 3+1]? =some (Im r.size)/\(wB l)[i * 3+2]? =some (Im r.on)
 |[],i,r,h=>by simp at h
 |q::l,0,r,h=>by
  simp at h;subst h;simp[wB]
 |q::l,i+1,r,h=>by
  have ih:=P7 l i r (by simpa using h);have e:wB (q::l)=Im q.seq::Im q.size::Im q.on::wB l:=by simp[wB]
  rw[e,show(i+1) * 3=i * 3+1+1+1 by omega];refine⟨ih.1,?_,?_⟩
  .rw[show i * 3+1+1+1+1=(i * 3+1)+1+1+1 by omega];exact ih.2.1
  .rw[show i * 3+1+1+1+2=(i * 3+2)+1+1+1 by omega];exact ih.2.2
theorem yT{B:Nat}{e:TypeId}{s n:Nat}{xs:List Value}{a:Option Addr}{l c:Nat}(h:w.ownsRow B e s (.slice a l c) n xs){j:Nat}{u:Value}(hj:xs[j]? =some u):
 ∃g,a=some (Ad g 0)/\B<=g/\g<w.heap.size/\∀j u,xs[j]? =some u->w.cell? (Ad g j)=some u:=by
 have h0:=h.2;rcases h0 with⟨e1,e2⟩|⟨g,cap,cur,e1,e2,e3,e4⟩
 .subst e2;have h1:=h.1;simp at h1;rw[h1]at hj;simp at hj
 .simp only[Value.slice.injEq]at e1;obtain⟨rfl,rfl,rfl⟩:=e1;refine⟨g,rfl,e2,(h.lt g rfl).2,fun j u hj=>?_⟩;have:=h.cells (g:=g) rfl j u hj;have e:((Ad g 0):Addr).add j=(Ad g j):=by unfold Addr.add;split<;>simp_all
  rwa [e]at this
theorem ag1{B:Nat}{a:Option Addr}{l c:Nat}{rs:List Rd}(h:w.ownsRow B 74 5 (.slice a l c) rs.length (uU rs)):Ce w.heap.size w a rs:=by
 intro i r hi;obtain⟨c1,c2,c3,c4,c5⟩:=Qm rs i r hi;obtain⟨g,e,_,hg,hc⟩:=yT h c1;refine⟨g,0,e,hg,g,0+i * 5,rfl,?_,?_,?_,?_,?_⟩;all_goals (simp only[Nat.zero_add];apply hc;assumption)
theorem WS{B:Nat}{a:Option Addr}{l c:Nat}{rs:List Pk}(h:w.ownsRow B 72 3 (.slice a l c) rs.length (wB rs)):BX w.heap.size w a rs:=by
 intro i r hi;obtain⟨c1,c2,c3⟩:=P7 rs i r hi;obtain⟨g,e,_,hg,hc⟩:=yT h c1;refine⟨g,0,e,hg,g,0+i * 3,rfl,?_,?_,?_⟩;all_goals (simp only[Nat.zero_add];apply hc;assumption)
end
end
section
open Go.RowKit
open Hx (Rd Pk Vw St Mc aZ Out)
attribute [local go_sem ↓] Go.wp_at_zero Go.wp_at_succ
attribute [local go_sem] bT
section
variable {w:World}
theorem ER{C:Nat}{n:Int}(h:w.cell? (Ad C 2)=some (Im n)):
 Calls prog 17 #[Pt C 0] w fun e w'=>e=.returned (Im n)/\w'=w:=by
 go_enter func17,ntmps17;go_wp2;go_ret;exact⟨rfl,rfl⟩
theorem TL(xs:Array Value)(w:World):∀(is:List Nat),(∀i∈is,∃x:Int,xs[i]? =some (Im x))->(Op.eqItems 9999 3 1 xs xs is).run prog w=.ok true w
 |[],_=>by simp[Op.eqItems]
 |i::is,h=>by
  obtain⟨x,hx⟩:=h i (by simp);have hp:(part 3 xs (i * 1)).run prog w=.ok (Im x) w:=run_part_plain w (by kernel_rfl) (by simpa using hx);simp only[Op.eqItems,Sem.run_bind,hp,Result.andThen_ok,run_equalIn_int w 9998 3 .i64 .i64 x x Tryz.underlying3,beq_self_eq_true,Bool.not_true,Bool.false_eq_true,if_false];exact TL xs w is (fun j hj=>h j (by simp[hj]))
theorem abl(w:World)(x0 x1 x2 x3 x4 x5 x6 x7:Int):
 (Op.equalIn 10000 26 (.agg #[Im x0,Im x1,Im x2,Im x3,Im x4,Im x5,Im x6,Im x7]) (.agg #[Im x0,Im x1,Im x2,Im x3,Im x4,Im x5,Im x6,Im x7])).run prog w=.ok true w:=by
 obtain⟨i,hi⟩:∃i,prog.info? 3=some i:=Option.isSome_iff_exists.1 (by kernel_rfl);rw[show(10000:Nat)=9999+1 from rfl,run_equalIn_array w 9999 _ _ Tryz.underlying26 hi,show prog.cellsOf 3=1 by kernel_rfl];refine TL _ w _ fun i hi=>?_;have:i<8:=by simpa using hi
 match i,this with
 |0,_=>exact⟨_,rfl⟩
 |1,_=>exact⟨_,rfl⟩
 |2,_=>exact⟨_,rfl⟩
 |3,_=>exact⟨_,rfl⟩
 |4,_=>exact⟨_,rfl⟩
 |5,_=>exact⟨_,rfl⟩
 |6,_=>exact⟨_,rfl⟩
 |7,_=>exact⟨_,rfl⟩
theorem Sr:∀(l:List (Int×Int))(i:Nat)(a:Int×Int),l[i]? =some a->(kZ l)[i * 2]? =some (Im a.1)/\(kZ l)[i * 2+1]? =some (Im a.2)
 |[],i,a,h=>by simp at h
 |q::l,0,a,h=>by
  simp at h;subst h;simp[kZ]
 |q::l,i+1,a,h=>by
  have ih:=Sr l i a (by simpa using h);have e:kZ (q::l)=Im q.1::Im q.2::kZ l:=by simp[kZ]
  rw[e,show(i+1) * 2=i * 2+1+1 by omega];refine⟨ih.1,?_⟩;rw[show i * 2+1+1+1=(i * 2+1)+1+1 by omega];exact ih.2
end
end
section
open Go.RowKit
open Hx (Rd Pk Vw St Mc aZ Out Ls)
attribute [local go_sem ↓] Go.wp_at_zero Go.wp_at_succ
attribute [local go_sem] bT
section
variable {w w':World}
theorem nM.later{B B':Nat}{cb co sb so cap:Nat}{ay:List St}(h:nM B w cb co sb so cap ay)(hb:Below B w w')(hB:B<=B'):nM B' w' cb co sb so cap ay:=by
 have:=h.aN hb;exact⟨by have:=this.xg;omega,by have:=this.wI;omega,this.slice,this.step⟩
theorem ru.later{B B':Nat}{ar af aa:Option Addr}{nr nf na:Nat}{v:Vw}(h:ru B w ar af aa nr nf na v)(hb:Below B w w')(hB:B<=B'):ru B' w' ar af aa nr nf na v:=by
 have h2:=h.aN (w':=w') fun x hx=>hb.cell (p:=x) hx;refine⟨h2.ah.mono hB,fun i r hr=>?_,fun i r hr=>?_,h2.H8,h2.H7,h2.H6,h2.DC⟩
 .obtain⟨b,o,e,hb,hp⟩:=h2.aG i r hr;exact⟨b,o,e,by omega,hp⟩
 .obtain⟨b,o,e,hb,hp⟩:=h2.aJ i r hr;exact⟨b,o,e,by omega,hp⟩
theorem mZ.later{B:Nat}(h:mZ w)(hb:Below B w w')(hB:1<B):mZ w':=fun j hj=>(hb.cell (p:=(Ad 1 j)) hB).trans (h j hj)
theorem xU.later{C:Nat}{l:Ls}(h:xU w C l)(hb:Below w.heap.size w w'):xU w' C l:=by
 obtain⟨sb,cap,hc⟩:=h.code;exact⟨⟨sb,cap,hc.later hb hb.size⟩,(hb.cell (p:=(Ad C 1)) hc.xg).trans h.aF,(hb.cell (p:=(Ad C 2)) hc.xg).trans h.need⟩
theorem Yo{bs:List UInt8}(h:takes bs=true):bs.length<=100000/\(eF bs).bad=false:=by
 simp only[takes,Bool.and_eq_true,decide_eq_true_eq,Bool.not_eq_true']at h;exact⟨by omega,by simp[h]⟩
def uQ(v:Vw)(bs:List UInt8)(fuel x0 x1 x2 x3 x4 x5 x6 x7:Int):Out:=yU v (eF bs).ay (eF bs).aF.toNat fuel x0 x1 x2 x3 x4 x5 x6 x7
theorem Xx(w:World)(C:Nat)(bs:List UInt8)(ht:takes bs=true)(hC:xU w C (eF bs))(v:Vw)(ar af aa:Option Addr)(nr cr nf cf na ca:Nat)(x0 x1 x2 x3 x4 x5 x6 x7 fuel:Int)
 (hv:ru w.heap.size w ar af aa nr nf na v)(hT:mZ w)(hone:1<w.heap.size)(hx:∀x∈[x0,x1,x2,x3,x4,x5,x6,x7],aZ x)(hfm:fuel<=9223372036854775807):
 Calls prog 16 #[Pt C 0,.agg #[.slice ar nr cr,.slice af nf cf,.slice aa na ca],.agg #[Im x0,Im x1,Im x2,Im x3,Im x4,Im x5,Im x6,Im x7],Im fuel] w fun e w'=>
  ∃va,e=.returned (qV (uQ v bs fuel x0 x1 x2 x3 x4 x5 x6 x7).status va (uQ v bs fuel x0 x1 x2 x3 x4 x5 x6 x7).bG)/\
   w'.ownsRow w.heap.size 76 2 va (uQ v bs fuel x0 x1 x2 x3 x4 x5 x6 x7).aY.length (kZ (uQ v bs fuel x0 x1 x2 x3 x4 x5 x6 x7).aY)/\Below w.heap.size w w':=by
 obtain⟨hl,hb⟩:=Yo ht;have hf:=Hx.VH bs hl hb;obtain⟨sb,cap,hc⟩:=hC.code;have e:(((eF bs).aF.toNat:Nat):Int)=(eF bs).aF:=by have:=hf.aF;omega
 exact ag7 w C 0 sb 0 cap (eF bs).aF.toNat (eF bs).ay v ar af aa nr cr nf cf na ca x0 x1 x2 x3 x4 x5 x6 x7 fuel hf.sound.fits (by have:=hf.aF;omega) (by have:=hf.aF;omega) hc (by rw[e];exact hC.aF) hv hT hone hx hfm
def rC:Vw:=⟨[⟨3,0,0,0,false⟩],[⟨9,0,0⟩],[]⟩
theorem Vy:takes vV.data.toList=true:=by decide+kernel
theorem adX:(eF vV.data.toList).need=7:=by decide+kernel
theorem ad1:(uQ rC vV.data.toList 7 0 0 0 0 0 0 0 0).status=0:=by decide+kernel
theorem adV:(uQ rC vV.data.toList 7 0 0 0 0 0 0 0 0).aY=[(3,9)]:=by decide+kernel
theorem adY:(uQ rC vV.data.toList 7 0 0 0 0 0 0 0 0).bG.take 8=[0,2,0,0,0,0,0,0]:=by decide+kernel
theorem Below.Bj(h:w.grownBy w' none):Below w.heap.size w w':=⟨h.os,h.tape,h.output,h.size,fun k hk=>h.block k hk (by simp)⟩
structure zo(w W:World)(o0 o1 o2:Obj):Prop where
 below:Below w.heap.size w W
 b0:W.heap[w.heap.size]? =some o0
 b1:W.heap[w.heap.size+1]? =some o1
 b2:W.heap[w.heap.size+2]? =some o2
theorem SX(w:World)(o0 o1 o2:Obj):zo w (((w.alloc o0).alloc o1).alloc o2) o0 o1 o2:=by
 have e:(((w.alloc o0).alloc o1).alloc o2).heap=((w.heap.push o0).push o1).push o2:=rfl;have g:w.grownBy (((w.alloc o0).alloc o1).alloc o2) none:=((World.grownBy_alloc w _ none).trans (World.grownBy_alloc _ _ none)).trans (World.grownBy_alloc _ _ none);refine⟨Below.Bj g,?_,?_,?_⟩;all_goals
  rw[e];simp only[Array.getElem?_push,Array.size_push];repeat (rw[if_neg (by omega)])
  exact if_pos trivial
theorem zo.lt{W:World}{o0 o1 o2:Obj}(h:zo w W o0 o1 o2):w.heap.size+2<W.heap.size:=dS h.b2
theorem zo.later{W y:World}{o0 o1 o2:Obj}(h:zo w W o0 o1 o2)(hb:Below W.heap.size W y):zo w y o0 o1 o2:=by
 have:=h.lt;exact⟨h.below.trans (hb.mono (by omega)),(hb.block _ (by omega)).trans h.b0,(hb.block _ (by omega)).trans h.b1,(hb.block _ (by omega)).trans h.b2⟩
theorem agF(tmps:Array Value)(w:World)(g:Nat)(v0 v1 v2 v3 v4 v5 v6 v7 v8 v9 b:Value)(h8:tmps[8]? =some (Pt g 0))(h9:tmps[9]? =some b)(h:w.heap[g]? =some (.cells #[v0,v1,v2,v3,v4,v5,v6,v7,v8,v9] 35)):
 (results Tryz.f26 tmps).run prog w=.ok (.tuple #[.agg #[v0,v1,v2,v3,v4,v5,v6,v7,v8,v9],b]) w:=by
 have q0:w.cell? (Ad g 0)=some v0:=aA h;have q1:w.cell? (Ad g 1)=some v1:=aA h;have q2:w.cell? (Ad g 2)=some v2:=aA h;have q3:w.cell? (Ad g 3)=some v3:=aA h;have q4:w.cell? (Ad g 4)=some v4:=aA h;have q5:w.cell? (Ad g 5)=some v5:=aA h;have q6:w.cell? (Ad g 6)=some v6:=aA h;have q7:w.cell? (Ad g 7)=some v7:=aA h;have q8:w.cell? (Ad g 8)=some v8:=aA h;have q9:w.cell? (Ad g 9)=some v9:=aA h;simp[results,Tryz.results26,go_sem,h8,h9,q0,q1,q2,q3,q4,q5,q6,q7,q8,q9]
theorem ahI(w:World)(g:Nat)(T:TypeId)(a0 a1 a2 a3 a4 a5 a6 a7 a8 a9 v0 v1 v2 v3 v4 v5 v6 v7 v8 v9:Value)(h:w.heap[g]? =some (.cells #[a0,a1,a2,a3,a4,a5,a6,a7,a8,a9] T)):
 ((((((((((w.setCell (Ad g 0) v0).setCell (Ad g 1) v1).setCell (Ad g 2) v2).setCell (Ad g 3) v3).setCell (Ad g 4) v4).setCell (Ad g 5) v5).setCell (Ad g 6) v6).setCell (Ad g 7) v7).setCell (Ad g 8) v8).setCell (Ad g 9) v9).heap[g]? =some (.cells #[v0,v1,v2,v3,v4,v5,v6,v7,v8,v9] T)/\w.grownBy ((((((((((w.setCell (Ad g 0) v0).setCell (Ad g 1) v1).setCell (Ad g 2) v2).setCell (Ad g 3) v3).setCell (Ad g 4) v4).setCell (Ad g 5) v5).setCell (Ad g 6) v6).setCell (Ad g 7) v7).setCell (Ad g 8) v8).setCell (Ad g 9) v9) (some g):=by
 have h0:(w.setCell (Ad g 0) v0).heap[g]? =some (.cells #[v0,a1,a2,a3,a4,a5,a6,a7,a8,a9] T):=heap_setCell_same _ _ _ _ _ _ h;have g0:w.grownBy (w.setCell (Ad g 0) v0) (some g):=dV w g 0 v0;have h1:((w.setCell (Ad g 0) v0).setCell (Ad g 1) v1).heap[g]? =some (.cells #[v0,v1,a2,a3,a4,a5,a6,a7,a8,a9] T):=heap_setCell_same _ _ _ _ _ _ h0;have g1:w.grownBy ((w.setCell (Ad g 0) v0).setCell (Ad g 1) v1) (some g):=g0.trans (dV _ g 1 v1);have h2:(((w.setCell (Ad g 0) v0).setCell (Ad g 1) v1).setCell (Ad g 2) v2).heap[g]? =some (.cells #[v0,v1,v2,a3,a4,a5,a6,a7,a8,a9] T):=heap_setCell_same _ _ _ _ _ _ h1;have g2:w.grownBy (((w.setCell (Ad g 0) v0).setCell (Ad g 1) v1).setCell (Ad g 2) v2) (some g):=g1.trans (dV _ g 2 v2);have h3:((((w.setCell (Ad g 0) v0).setCell (Ad g 1) v1).setCell (Ad g 2) v2).setCell (Ad g 3) v3).heap[g]? =some (.cells #[v0,v1,v2,v3,a4,a5,a6,a7,a8,a9] T):=heap_setCell_same _ _ _ _ _ _ h2;have g3:w.grownBy ((((w.setCell (Ad g 0) v0).setCell (Ad g 1) v1).setCell (Ad g 2) v2).setCell (Ad g 3) v3) (some g):=g2.trans (dV _ g 3 v3);have h4:(((((w.setCell (Ad g 0) v0).setCell (Ad g 1) v1).setCell (Ad g 2) v2).setCell (Ad g 3) v3).setCell (Ad g 4) v4).heap[g]? =some (.cells #[v0,v1,v2,v3,v4,a5,a6,a7,a8,a9] T):=heap_setCell_same _ _ _ _ _ _ h3;have g4:w.grownBy (((((w.setCell (Ad g 0) v0).setCell (Ad g 1) v1).setCell (Ad g 2) v2).setCell (Ad g 3) v3).setCell (Ad g 4) v4) (some g):=g3.trans (dV _ g 4 v4)
 have h5:((((((w.setCell (Ad g 0) v0).setCell (Ad g 1) v1).setCell (Ad g 2) v2).setCell (Ad g 3) v3).setCell (Ad g 4) v4).setCell (Ad g 5) v5).heap[g]? =some (.cells #[v0,v1,v2,v3,v4,v5,a6,a7,a8,a9] T):=heap_setCell_same _ _ _ _ _ _ h4;have g5:w.grownBy ((((((w.setCell (Ad g 0) v0).setCell (Ad g 1) v1).setCell (Ad g 2) v2).setCell (Ad g 3) v3).setCell (Ad g 4) v4).setCell (Ad g 5) v5) (some g):=g4.trans (dV _ g 5 v5);have h6:(((((((w.setCell (Ad g 0) v0).setCell (Ad g 1) v1).setCell (Ad g 2) v2).setCell (Ad g 3) v3).setCell (Ad g 4) v4).setCell (Ad g 5) v5).setCell (Ad g 6) v6).heap[g]? =some (.cells #[v0,v1,v2,v3,v4,v5,v6,a7,a8,a9] T):=heap_setCell_same _ _ _ _ _ _ h5;have g6:w.grownBy (((((((w.setCell (Ad g 0) v0).setCell (Ad g 1) v1).setCell (Ad g 2) v2).setCell (Ad g 3) v3).setCell (Ad g 4) v4).setCell (Ad g 5) v5).setCell (Ad g 6) v6) (some g):=g5.trans (dV _ g 6 v6);have h7:((((((((w.setCell (Ad g 0) v0).setCell (Ad g 1) v1).setCell (Ad g 2) v2).setCell (Ad g 3) v3).setCell (Ad g 4) v4).setCell (Ad g 5) v5).setCell (Ad g 6) v6).setCell (Ad g 7) v7).heap[g]? =some (.cells #[v0,v1,v2,v3,v4,v5,v6,v7,a8,a9] T):=heap_setCell_same _ _ _ _ _ _ h6;have g7:w.grownBy ((((((((w.setCell (Ad g 0) v0).setCell (Ad g 1) v1).setCell (Ad g 2) v2).setCell (Ad g 3) v3).setCell (Ad g 4) v4).setCell (Ad g 5) v5).setCell (Ad g 6) v6).setCell (Ad g 7) v7) (some g):=g6.trans (dV _ g 7 v7)
 have h8:(((((((((w.setCell (Ad g 0) v0).setCell (Ad g 1) v1).setCell (Ad g 2) v2).setCell (Ad g 3) v3).setCell (Ad g 4) v4).setCell (Ad g 5) v5).setCell (Ad g 6) v6).setCell (Ad g 7) v7).setCell (Ad g 8) v8).heap[g]? =some (.cells #[v0,v1,v2,v3,v4,v5,v6,v7,v8,a9] T):=heap_setCell_same _ _ _ _ _ _ h7;have g8:w.grownBy (((((((((w.setCell (Ad g 0) v0).setCell (Ad g 1) v1).setCell (Ad g 2) v2).setCell (Ad g 3) v3).setCell (Ad g 4) v4).setCell (Ad g 5) v5).setCell (Ad g 6) v6).setCell (Ad g 7) v7).setCell (Ad g 8) v8) (some g):=g7.trans (dV _ g 8 v8);have h9:((((((((((w.setCell (Ad g 0) v0).setCell (Ad g 1) v1).setCell (Ad g 2) v2).setCell (Ad g 3) v3).setCell (Ad g 4) v4).setCell (Ad g 5) v5).setCell (Ad g 6) v6).setCell (Ad g 7) v7).setCell (Ad g 8) v8).setCell (Ad g 9) v9).heap[g]? =some (.cells #[v0,v1,v2,v3,v4,v5,v6,v7,v8,v9] T):=heap_setCell_same _ _ _ _ _ _ h8;have g9:w.grownBy ((((((((((w.setCell (Ad g 0) v0).setCell (Ad g 1) v1).setCell (Ad g 2) v2).setCell (Ad g 3) v3).setCell (Ad g 4) v4).setCell (Ad g 5) v5).setCell (Ad g 6) v6).setCell (Ad g 7) v7).setCell (Ad g 8) v8).setCell (Ad g 9) v9) (some g):=g8.trans (dV _ g 9 v9);exact⟨h9,g9⟩
theorem aiG{l:List Int}(h:l.take 8=[0,2,0,0,0,0,0,0]):l.getD 0 0=0/\l.getD 1 0=2/\l.getD 2 0=0/\l.getD 3 0=0/\l.getD 4 0=0/\l.getD 5 0=0/\l.getD 6 0=0/\l.getD 7 0=0:=by
 have k:∀i,i<8->l[i]? =([0,2,0,0,0,0,0,0]:List Int)[i]? :=fun i hi=>by rw[<-h,List.getElem?_take_of_lt hi]
 simp[List.getD,k]
theorem adZ(va:Value):qV (uQ rC vV.data.toList 7 0 0 0 0 0 0 0 0).status va (uQ rC vV.data.toList 7 0 0 0 0 0 0 0 0).bG=.agg #[.int .u8 0,va,Im 0,Im 2,Im 0,Im 0,Im 0,Im 0,Im 0,Im 0]:=by
 obtain⟨h0,h1,h2,h3,h4,h5,h6,h7⟩:=aiG adY;rw[qV,ad1,h0,h1,h2,h3,h4,h5,h6,h7]
theorem agE(ar af aa:Option Addr)(nr cr nf cf na ca:Nat)(hv:ru w.heap.size w ar af aa nr nf na rC)(hT:mZ w)(hone:1<w.heap.size):
 Calls prog 26 #[.string KY,.bool false,.agg #[.slice ar nr cr,.slice af nf cf,.slice aa na ca],.agg #[Im 0,Im 0,Im 0,Im 0,Im 0,Im 0,Im 0,Im 0]] w fun e w'=>∃a c,e=.returned (.tuple #[.agg #[.int .u8 0,.slice a 1 c,Im 0,Im 2,Im 0,Im 0,Im 0,Im 0,Im 0,Im 0],.bool true])/\
  w'.ownsRow w.heap.size 76 2 (.slice a 1 c) 1 [Im 3,Im 9]/\Below w.heap.size w w':=by
 go_enter func26,ntmps26;go_wp2_with fail;refine(aa0 _).mono ?_;rintro e w1 ⟨rfl,g1⟩;have b1:=(SX w _ _ _).later (Below.Bj g1);clear g1;have HB1:=b1;go_wp2_with fail;refine(Po w1 vV).mono ?_;rintro e w2 ⟨hb2,h⟩;obtain⟨C,uH,rfl,hcd⟩:∃C,w1.heap.size<=C/\e=.returned (.tuple #[Pt C 0,Im 0])/\xU w2 C (eF vV.data.toList):=by
  rcases h with⟨_,C,h1,h2,h3⟩|⟨ht,_⟩
  .exact⟨C,h1,h2,h3⟩
  .rw[Vy]at ht;cases ht
 have b2:=b1.later hb2;have v0:w2.cell? (Ad w.heap.size 0)=some (.slice ar nr cr):=aA b2.b0;have v1:w2.cell? (Ad w.heap.size 1)=some (.slice af nf cf):=aA b2.b0;have v2:w2.cell? (Ad w.heap.size 2)=some (.slice aa na ca):=aA b2.b0;have z:∀j,j<8->w2.cell? (Ad (w.heap.size+1) j)=some (Im 0):=fun j hj=>by
  rw[aA b2.b1]
  match j,hj with
  |0,_=>rfl
  |1,_=>rfl
  |2,_=>rfl
  |3,_=>rfl
  |4,_=>rfl
  |5,_=>rfl
  |6,_=>rfl
  |7,_=>rfl
 have z0:=z 0 (by omega);have z1:=z 1 (by omega);have z2:=z 2 (by omega);have z3:=z 3 (by omega);have z4:=z 4 (by omega);have z5:=z 5 (by omega);have z6:=z 6 (by omega);have z7:=z 7 (by omega);have HN:Hid (∀n,Calls prog 17 #[Pt C 0] (w2.drewN n) fun e w'=>e=.returned (Im 7)/\w'=w2.drewN n):=fun n=>by
  have:=ER (w:=w2.drewN n) (C:=C) (n:=7) (by rw[World.cell?_drewN,<-adX];exact hcd.need);exact this
 have hbw:Below w.heap.size w w2:=b2.below;have HR:Hid (∀n,Calls prog 16 #[Pt C 0,.agg #[.slice ar nr cr,.slice af nf cf,.slice aa na ca],.agg #[Im 0,Im 0,Im 0,Im 0,Im 0,Im 0,Im 0,Im 0],Im 7] (w2.drewN n) fun e w'=>∃a c,e=.returned (.agg #[.int .u8 0,.slice a 1 c,Im 0,Im 2,Im 0,Im 0,Im 0,Im 0,Im 0,Im 0])/\w'.ownsRow w2.heap.size 76 2 (.slice a 1 c) 1 [Im 3,Im 9]/\Below w2.heap.size w2 w'):=fun n=>by
  have hd:Below w2.heap.size w2 (w2.drewN n):=⟨rfl,rfl,rfl,Nat.le_refl _,fun _ _=>rfl⟩;have hlt:=b2.lt;refine(Xx (w2.drewN n) C vV.data.toList Vy (hcd.later hd) rC ar af aa nr cr nf cf na ca 0 0 0 0 0 0 0 0 7 (hv.later (hbw.trans (hd.mono (by omega))) (by show _<=w2.heap.size;omega)) (hT.later (hbw.trans (hd.mono (by omega))) hone) (by show 1<w2.heap.size;omega) (by simp[aZ]) (by omega)).mono ?_;rintro e w' ⟨va,h1,h2,h3⟩;rw[adV]at h2;rw[adZ]at h1;obtain⟨a,c,rfl⟩:=wJ h2;exact⟨a,c,h1,by simpa [kZ]using h2,hd.trans h3⟩
 have HB2:Hid (zo w w2 _ _ _):=b2;clear hb2 h hcd b2 b1 HB1 hbw hv hT z;go_wp2_with fail;refine fC 5 (by kernel_rfl) (by kernel_rfl) ?_;simp only[List.take_succ_cons,List.take_zero,List.drop_succ_cons,List.drop_zero];repeat (go_big_quiet_step ((go_at_call 17;exact Calls.quiet_of_same (HN.out _))))
 refine wpQuiet_nil ?_;intro _ hw';obtain⟨k3,hw''⟩:=hw';subst hw'';go_wp2_with fail;refine(HR.out _).mono ?_;rintro e w3 ⟨a,c,rfl,hrow,hb3⟩;have b3:=HB2.out.later hb3;have hf:∀j,w3.frozen? (Ad (w.heap.size+1+1) j)=false:=fun j=>eu b3.b2;have hc:∀j,w3.cell? (Ad (w.heap.size+1+1) j)=_:=fun j=>aA b3.b2;have r0:=hc 0;have r1:=hc 1;have r2:=hc 2;have r3:=hc 3;have r4:=hc 4;have r5:=hc 5;have r6:=hc 6;have r7:=hc 7;have r8:=hc 8;have r9:=hc 9;have HB3:Hid (zo w w3 _ _ _):=b3;have HS:Hid (w.heap.size+2<w2.heap.size):=HB2.out.lt;have HW:Hid (w3.ownsRow w2.heap.size 76 2 (.slice a 1 c) 1 [Im 3,Im 9]):=hrow;clear b3 hb3 hc hrow HB2 HR HN;go_wp2_with fail;obtain⟨k1,k2⟩:=ahI w3 (w.heap.size+1+1) 35 _ _ _ _ _ _ _ _ _ _ (.int .u8 0) (.slice a 1 c) (Im 0) (Im 2) (Im 0) (Im 0) (Im 0) (Im 0) (Im 0) (Im 0) HB3.out.b2;refine bodyPost_ret (v:=.tuple #[.agg #[.int .u8 0,.slice a 1 c,Im 0,Im 2,Im 0,Im 0,Im 0,Im 0,Im 0,Im 0],.bool true]) ?_ rfl ?_
 .exact agF _ _ (w.heap.size+1+1) _ _ _ _ _ _ _ _ _ _ _ rfl rfl k1
 .refine⟨a,c,rfl,?_,?_⟩
  .have hs:=HS.out;exact(LG HW.out (by omega)).kept k2 (afD HW.out (by omega))
  .exact HB3.out.below.trans ⟨k2.os,k2.tape,k2.output,k2.size,fun k hk=>k2.block k (by have:=HB3.out.lt;omega) (by simp;omega)⟩
theorem ad2{W:World}{o2:Obj}(h:zo w W (.cells #[Im 3,Im 0,Im 0,Im 0,.bool false] 74) (.cells #[Im 9,Im 0,Im 0] 72) o2):
 ru W.heap.size W (some (Ad w.heap.size 0)) (some (Ad (w.heap.size+1) 0)) none 1 1 0 rC:=by
 have hl:=h.lt;refine⟨fun i r hr=>?_,fun i r hr=>?_,fun i r hr=>by simp[rC]at hr,rfl,rfl,rfl,⟨?_,?_,?_⟩⟩
 .match i,hr with
  |0,hr=>
   simp[rC]at hr;subst hr;exact⟨w.heap.size,0,rfl,by omega,w.heap.size,0,rfl,aA h.b0,aA h.b0,aA h.b0,aA h.b0,aA h.b0⟩
  |i+1,hr=>simp[rC]at hr
 .match i,hr with
  |0,hr=>
   simp[rC]at hr;subst hr;exact⟨w.heap.size+1,0,rfl,by omega,w.heap.size+1,0,rfl,aA h.b1,aA h.b1,aA h.b1⟩
  |i+1,hr=>simp[rC]at hr
 .intro r hr;simp[rC]at hr;subst hr;simp[aZ]
 .intro r hr;simp[rC]at hr;subst hr;simp[aZ]
 .intro r hr;simp[rC]at hr
theorem ad3(hT:mZ w)(hone:1<w.heap.size):
 Calls prog 30 #[] w fun e w'=>e=.returned (.bool true)/\Below w.heap.size w w':=by
 go_enter func30,ntmps30;go_wp2_with fail;have hx:=SX w (.cells #[Im 3,Im 0,Im 0,Im 0,.bool false] 74) (.cells #[Im 9,Im 0,Im 0] 72) (.cells #[.slice (some (Ad w.heap.size 0)) 1 1,.slice (some (Ad (w.heap.size+1) 0)) 1 1,Nl] 25);refine(agE _ _ _ _ _ _ _ _ _ (ad2 hx) (hT.later hx.below hone) (by have:=hx.lt;omega)).mono ?_;rintro e w1 ⟨a,c,rfl,hrow,hb⟩;have hlt:=hx.lt;obtain⟨g,rfl,hg1,hg2,hcs⟩:=yT hrow (j:=0) (u:=Im 3) rfl;have k0:=hcs 0 _ rfl;have k1:=hcs 1 _ rfl;have HB:Hid (∀o,Below w.heap.size w (w1.alloc o)):=fun o=>(hx.below.trans (hb.mono (by omega))).alloc (by have:=hb.size;omega) o;have n1:¬g=w1.heap.size:=by omega
 have e8:=fun w=>abl w 0 2 0 0 0 0 0 0;clear hrow hb hx hlt hcs hT hg1;go_wp2_with fail;go_ret;exact⟨rfl,HB.out _⟩
end
end
namespace Hx
open Go.RowKit
theorem Ui{Q:Int->Prop}{l:List Int}(h:∀k,Q (l.getD k 0)){x:Int}(hx:Q x)(i:Nat):∀k,Q ((l.set i x).getD k 0):=fun k=>by
 rw[List.getD_eq_getElem?_getD,List.getElem?_set];split
 .split
  .exact hx
  .rename_i e1 e2;have:=h l.length;rw[List.getD_eq_getElem?_getD,List.getElem?_eq_none (Nat.le_refl _)]at this;exact this
 .have:=h k;rw[List.getD_eq_getElem?_getD]at this;exact this
structure ny(m:Mc):Prop where
 aF:∀k,aZ (m.aF.getD k 0)
 left:∀k,0<=m.left.getD k 0/\m.left.getD k 0<18446744073709551616
theorem ny.put{m:Mc}(h:ny m)(i:Int){x:Int}(hx:aZ x):ny (m.put i x):=⟨Ui h.aF hx _,h.left⟩
theorem ny.pX{m:Mc}(h:ny m)(i:Int){x:Int}(hx:0<=x/\x<18446744073709551616):ny (m.pX i x):=⟨h.aF,Ui (Q:=fun x=>0<=x/\x<18446744073709551616) h.left hx _⟩
theorem ny.get{m:Mc}(h:ny m)(i:Int):aZ (m.get i):=h.aF _
theorem ny.turn{m:Mc}(h:ny m)(s:St)(l:Int):ny (turn s l m).1:=by
 unfold Hx.turn;split
 .exact h
 .have hl:=h.left s.depth.toNat;have ht:=QO (m.zZ s.depth) hl.1 hl.2;exact(h.put s.b (x:=tz (m.zZ s.depth)) (by unfold aZ;omega)).pX _ (adM _ _)
theorem ny.choose{m:Mc}(h:ny m)(s:St)(b:Bool):ny (choose s b m):=by
 unfold Hx.choose;split
 .exact(h.put _ (h.get _)).put _ (h.get _)
 .exact h
theorem acZ(v:Vw)(l:Int):aZ (v.all l):=by
 unfold Vw.all zF;repeat' split
 all_goals exact Ho _
theorem ny.work{m:Mc}(h:ny m){v:Vw}(hv:v.yL)(s:St)(hb:aZ s.b):ny (work v s m):=by
 unfold Hx.work;repeat' split
 all_goals first|exact h.put _ hb|exact h.put _ (acZ _ _)|exact h.put _ (EJ _ _ _)|exact h.choose _ _|exact h.put _ (U7 hv _ _ _ (h.get _))
theorem ny.push{m m':Mc}(h:ny m){v:Vw}{i j:Int}(e:push v i j m=some m'):ny m':=by
 unfold Hx.push at e;split at e
 .split at e
  .cases e
  .cases e;exact⟨h.aF,h.left⟩
 .cases e;exact h
theorem aip{v:Vw}(hv:v.yL){S:List St}{n:Nat}(hf:Fits S n)(bG:List Int)(hr:∀k,aZ (bG.getD k 0))(k:Nat)(s:St)(hs:S[k]? =some s)(m:Mc)(h:ny m):
 (∀o,step v S bG k s m=.inl o->∀j,aZ (o.bG.getD j 0))/\(∀k' m',step v S bG k s m=.inr (k',m')->ny m'):=by
 have hw:=(hf.each k s hs).DV;unfold step;split
 .exact⟨fun o e=>by cases e;exact h.aF,fun k' m' e=>by cases e⟩
 split
 .exact⟨fun o e=>(by cases e),fun k' m' e=>by cases e;exact h⟩
 split
 .exact⟨fun o e=>(by cases e),fun k' m' e=>by cases e;exact h⟩
 split
 .exact⟨fun o e=>(by cases e),fun k' m' e=>by cases e;exact(h.pX _ (I4 _)).turn _ _⟩
 split
 .split
  .split
   .exact⟨fun o e=>(by cases e),fun k' m' e=>by cases e;exact h.turn _ _⟩
   .exact⟨fun o e=>by cases e;exact hr,fun k' m' e=>by cases e⟩
  .exact⟨fun o e=>(by cases e),fun k' m' e=>by cases e;exact h⟩
 split
 .split
  .exact⟨fun o e=>(by cases e),fun k' m' e=>by cases e;exact h.turn _ _⟩
  .exact⟨fun o e=>by cases e;exact hr,fun k' m' e=>by cases e⟩
 split
 .split
  .exact⟨fun o e=>by cases e;exact hr,fun k' m' e=>by cases e⟩
  .rename_i m1 hm1;exact⟨fun o e=>(by cases e),fun k' m' e=>by cases e;exact h.push hm1⟩
 .rename_i h1 h2 h3 h4 h5 h0 J9;exact⟨fun o e=>(by cases e),fun k' m' e=>by cases e;exact h.work hv s (hw h1 h2 h3 h4 h5 h0 J9).1⟩
theorem Xz{v:Vw}(hv:v.yL){S:List St}{n:Nat}(hf:Fits S n)(bG:List Int)(hr:∀k,aZ (bG.getD k 0)):∀(f:Nat)(k:Int)(m:Mc),ny m->∀j,aZ ((runs v S bG f k m).bG.getD j 0)
 |0,_,_,_=>hr
 |f+1,k,m,h=>by
  unfold runs;split
  .exact hr
  .rename_i s hs;obtain⟨k1,k2⟩:=aip hv hf bG hr _ s hs m h;split
   .rename_i o ho;exact k1 o ho
   .rename_i k' m' ho;exact Xz hv hf bG hr f k' m' (k2 k' m' ho)
end Hx
section
open Go.RowKit Hx
section
variable {s:aO}
theorem Xq{x0 x1 x2 x3 x4 x5 x6 x7:Int}(hx:∀x∈[x0,x1,x2,x3,x4,x5,x6,x7],aZ x)(l:List Int)(hl:∀x∈l,aZ x):∀k,aZ (([x0,x1,x2,x3,x4,x5,x6,x7]++l).getD k 0):=fun k=>by
 rw[List.getD_eq_getElem?_getD];cases hk:([x0,x1,x2,x3,x4,x5,x6,x7]++l)[k]?with
 |none=>exact tq
 |some y=>
  rcases List.mem_append.1 (List.mem_of_getElem? hk)with e|e
  .exact hx y e
  .exact hl y e
theorem WC{v:Vw}(hv:v.yL)(bs:List UInt8)(ht:takes bs=true){x0 x1 x2 x3 x4 x5 x6 x7:Int}(hx:∀x∈[x0,x1,x2,x3,x4,x5,x6,x7],aZ x)(fuel:Int):
 (uQ v bs fuel x0 x1 x2 x3 x4 x5 x6 x7).aY.length<=256/\∀j,aZ ((uQ v bs fuel x0 x1 x2 x3 x4 x5 x6 x7).bG.getD j 0):=by
 have h0:=Xq hx [] (fun x h=>absurd h List.not_mem_nil);rw[List.append_nil]at h0;obtain⟨hl,hb⟩:=Yo ht;unfold uQ yU;split
 .refine⟨?_,Hx.Xz hv (Hx.VH bs hl hb).sound.fits _ h0 _ _ _ ⟨?_,?_⟩⟩
  .rcases Hx.XA v (eF bs).ay [x0,x1,x2,x3,x4,x5,x6,x7] fuel.toNat 0 (qP x0 x1 x2 x3 x4 x5 x6 x7 (eF bs).aF.toNat) (Hx.ZJ v)with h|h
   .exact h.2.len
   .rw[h.2.2];decide
  .exact Xq hx _ fun x h=>by
    rw[List.mem_replicate]at h;rw[h.2];exact tq
  .intro k;show 0<=(List.replicate 8 (0:Int)).getD k 0/\(List.replicate 8 (0:Int)).getD k 0<18446744073709551616;have:(List.replicate 8 (0:Int)).getD k 0=0:=by
    rw[List.getD_eq_getElem?_getD,List.getElem?_replicate];split<;>rfl
   rw[this];omega
 .exact⟨Nat.zero_le _,h0⟩
def Hx.xI(l:List Lr)(n:Nat):List Rd:=(List.range n).map fun(i:Nat)=>⟨(i:Int),(10 * (i+1):Int),((l.getD i lT).cO:Int),((l.getD i lT).out:Int),(l.getD i lT).nX⟩
def Hx.tN(all:List Lp)(l:List Nat):List Pk:=l.map fun(q:Nat)=>⟨(q:Int),(all.getD q ⟨0,0⟩).size,(all.getD q ⟨0,0⟩).on⟩
def Hx.aO.vw(s:aO):Vw:=⟨xI s.ah s.ah.length,tN s.all s.aG,tN s.all s.aJ⟩
theorem seen_cells(l:List Lr)(n:Nat):uU (xI l n)=seenCells l n:=by
 unfold uU xI seenCells LZ;rw[List.flatMap_map]
theorem QJ(all:List Lp)(l:List Nat):wB (tN all l)=kX all l:=by
 unfold wB tN kX wE;rw[List.flatMap_map]
theorem Xm(l:List Lr)(n:Nat):(xI l n).length=n:=by unfold xI;simp
theorem LP(all:List Lp)(l:List Nat):(tN all l).length=l.length:=by unfold tN;simp
structure Ir(s:aO):Prop where
 all:∀p∈s.all,aZ p.size/\aZ p.on
 bG:∀x∈[s.r0,s.r1,s.r2,s.r3,s.r4,s.r5,s.r6,s.r7],aZ x
theorem Ir.same(h:Ir s){s':aO}(h1:s'.all=s.all)(h2:s'.r0=s.r0/\s'.r1=s.r1/\s'.r2=s.r2/\s'.r3=s.r3/\s'.r4=s.r4/\s'.r5=s.r5/\s'.r6=s.r6/\s'.r7=s.r7):Ir s':=by
 obtain⟨e0,e1,e2,e3,e4,e5,e6,e7⟩:=h2;exact⟨by rw[h1];exact h.all,by rw[e0,e1,e2,e3,e4,e5,e6,e7];exact h.bG⟩
theorem Ir.with(h:Ir s){a:List Lp}(ha:∀p∈a,aZ p.size/\aZ p.on){s':aO}(h1:s'.all=a)(h2:s'.r0=s.r0/\s'.r1=s.r1/\s'.r2=s.r2/\s'.r3=s.r3/\s'.r4=s.r4/\s'.r5=s.r5/\s'.r6=s.r6/\s'.r7=s.r7):Ir s':=by
 obtain⟨e0,e1,e2,e3,e4,e5,e6,e7⟩:=h2;exact⟨by rw[h1];exact ha,by rw[e0,e1,e2,e3,e4,e5,e6,e7];exact h.bG⟩
theorem Ir.getD(h:Ir s)(q:Nat):aZ (s.all.getD q ⟨0,0⟩).size/\aZ (s.all.getD q ⟨0,0⟩).on:=by
 rw[List.getD_eq_getElem?_getD];cases hk:s.all[q]?with
 |none=>exact⟨tq,tq⟩
 |some p=>exact h.all p (List.mem_of_getElem? hk)
theorem Ir.write(h:Ir s)(size:Int):Ir (s.write size).1:=by
 unfold aO.write;split
 .exact h
 .rename_i hn;split
  .exact h
  .refine h.with (a:=s.all++[⟨size,0⟩]) (fun p hp=>?_) rfl ⟨rfl,rfl,rfl,rfl,rfl,rfl,rfl,rfl⟩;rcases List.mem_append.1 hp with e|e
   .exact h.all p e
   .rw[List.mem_singleton]at e;subst e;exact⟨by show aZ size;unfold aZ;omega,tq⟩
theorem Ir.send(h:Ir s)(q i:Nat):Ir (s.send q i):=by
 refine h.with (a:=s.all.set q {s.all.getD q ⟨0,0⟩with on:=Af (s.all.getD q ⟨0,0⟩).on i}) (fun p hp=>?_) rfl ⟨rfl,rfl,rfl,rfl,rfl,rfl,rfl,rfl⟩;rcases List.mem_or_eq_of_mem_set hp with e|e
 .exact h.all p e
 .subst e;refine⟨(h.getD q).1,?_⟩;show aZ (Af (s.all.getD q ⟨0,0⟩).on i);unfold Af;exact EJ _ _ _
theorem Ir.act(h:Ir s)(id seq:Int):Ir (s.act id seq):=by
 unfold aO.act;split
 .split
  .split
   .exact h.same rfl ⟨rfl,rfl,rfl,rfl,rfl,rfl,rfl,rfl⟩
   .exact h.send _ _
  .exact h
 .exact h.same rfl ⟨rfl,rfl,rfl,rfl,rfl,rfl,rfl,rfl⟩
theorem Ir.aY:∀(l:List (Int×Int)){s:aO},Ir s->Ir (s.aY l)
 |[],_,h=>h
 |a::l,s,h=>by rw[Ny];exact Ir.aY l (h.act a.1 a.2)
theorem Ir.mD(h:Ir s):Ir s.mD:=by
 unfold aO.mD;split
 .exact h
 .exact(h.send _ _).same rfl ⟨rfl,rfl,rfl,rfl,rfl,rfl,rfl,rfl⟩
theorem Ir.fA(h:Ir s):Ir s.fA.1:=by
 unfold Hx.aO.fA;split<;>exact h.same rfl ⟨rfl,rfl,rfl,rfl,rfl,rfl,rfl,rfl⟩
theorem Ir.watch(h:Ir s):Ir s.watch:=by
 unfold Hx.aO.watch;split
 .exact h.fA.mD
 .exact h.fA
theorem Ir.lZ(h:Ir s)(aK k:Int):Ir (s.lZ aK k).1:=by
 unfold aO.lZ;repeat' split
 all_goals first|exact h|exact h.same rfl ⟨rfl,rfl,rfl,rfl,rfl,rfl,rfl,rfl⟩
theorem Ir.fU(h:Ir s)(aK:Int):Ir (s.fU aK).1:=by
 unfold Hx.aO.fU;repeat' split
 all_goals first|exact h|exact h.same rfl ⟨rfl,rfl,rfl,rfl,rfl,rfl,rfl,rfl⟩
theorem Ir.lu(h:Ir s)(aK k:Int):Ir (s.lu aK k).1:=by
 unfold aO.lu;repeat' split
 all_goals first|exact h|exact h.same rfl ⟨rfl,rfl,rfl,rfl,rfl,rfl,rfl,rfl⟩
def Hx.aO.out(s:aO)(bs:List UInt8):Out:=uQ s.vw bs (eF bs).need s.r0 s.r1 s.r2 s.r3 s.r4 s.r5 s.r6 s.r7
def Hx.aO.told(s:aO)(o:Out):aO:=s.bG (o.bG.getD 0 0) (o.bG.getD 1 0) (o.bG.getD 2 0) (o.bG.getD 3 0) (o.bG.getD 4 0) (o.bG.getD 5 0) (o.bG.getD 6 0) (o.bG.getD 7 0)
def Hx.aO.kW(s:aO)(bs:List UInt8):aO:=if (s.out bs).status=0 then (s.told (s.out bs)).aY (s.out bs).aY else s
def Hx.aO.tick(s:aO)(bs:List UInt8):aO:=(s.kW bs).watch
theorem QY(h:Ir s)(hk:zC s)(hs:Small s):s.vw.yL:=by
 have hp:∀l:List Nat,(∀q∈l,q<s.all.length)->∀p∈tN s.all l,aZ p.seq/\aZ p.size/\aZ p.on:=fun l hl p hp=>by
  unfold tN at hp;obtain⟨q,hq,rfl⟩:=List.mem_map.1 hp;have h1:=hl q hq;have h2:=hs.all;exact⟨by show aZ (q:Int);unfold aZ;omega,h.getD q⟩
 refine⟨fun r hr=>?_,hp _ hk.aG,hp _ hk.aJ⟩;have hr':r∈xI s.ah s.ah.length:=hr;unfold xI at hr';obtain⟨i,hi,rfl⟩:=List.mem_map.1 hr';have hi':=List.mem_range.1 hi;have h4:=hk.ah;have hget:s.ah[i]? =some s.ah[i]:=List.getElem?_eq_getElem hi';obtain⟨_,_,_,b1,b2⟩:=hs.aK i _ hget;have e:s.ah.getD i lT=s.ah[i]:=by rw[List.getD_eq_getElem?_getD,hget];rfl
 refine⟨?_,?_,?_,?_⟩
 .show aZ (i:Int);unfold aZ;omega
 .show aZ (10 * ((i:Int)+1));unfold aZ;omega
 .show aZ ((s.ah.getD i lT).cO:Int);rw[e];unfold aZ;omega
 .show aZ ((s.ah.getD i lT).out:Int);rw[e];unfold aZ;omega
theorem Ir.told(h:Ir s){o:Out}(ho:∀j,aZ (o.bG.getD j 0)):Ir (s.told o):=
 ⟨h.all,fun x hx=>by
   have hx':x∈[o.bG.getD 0 0,o.bG.getD 1 0,o.bG.getD 2 0,o.bG.getD 3 0,o.bG.getD 4 0,o.bG.getD 5 0,o.bG.getD 6 0,o.bG.getD 7 0]:=hx;simp only[List.mem_cons,List.not_mem_nil,or_false]at hx';rcases hx' with e|e|e|e|e|e|e|e<;>(rw[e];exact ho _)⟩
structure lF(s:aO)(g a w c:Nat):Prop where
 sn:Sn s
 bd:Bd s g a w c
 ir:Ir s
theorem Bd.told{g a w c:Nat}(h:Bd s g a w c)(o:Out):Bd (s.told o) g a w c:=⟨h.aK,h.dN,h.acc⟩
theorem lF.kW{g a w c:Nat}(h:lF s g a w c){bs:List UInt8}(hk:zC s)(hs:Small s)(ht:takes bs=true):lF (s.kW bs) g a (w+256) c/\over (s.kW bs).ah<=over s.ah/\(s.kW bs).quiet=s.quiet:=by
 obtain⟨h1,h2⟩:=WC (QY h.ir hk hs) bs ht h.ir.bG (eF bs).need;unfold Hx.aO.kW;split
 .have hn:=h.sn.bG ((s.out bs).bG.getD 0 0) ((s.out bs).bG.getD 1 0) ((s.out bs).bG.getD 2 0) ((s.out bs).bG.getD 3 0) ((s.out bs).bG.getD 4 0) ((s.out bs).bG.getD 5 0) ((s.out bs).bG.getD 6 0) ((s.out bs).bG.getD 7 0);obtain⟨k1,k2,k3⟩:=Sn.aY (s.out bs).aY hn;have h1':(s.out bs).aY.length<=256:=h1;exact⟨⟨k1,((h.bd.told (s.out bs)).aY (s.out bs).aY hn).mono (Nat.le_refl _) (Nat.le_refl _) (by omega) (Nat.le_refl _),Ir.aY _ (h.ir.told h2)⟩,k2,k3⟩
 .exact⟨⟨h.sn,h.bd.mono (Nat.le_refl _) (Nat.le_refl _) (by omega) (Nat.le_refl _),h.ir⟩,Nat.le_refl _,rfl⟩
theorem lF.tick{g a w c:Nat}(h:lF s g a w c){bs:List UInt8}(hk:zC s)(hs:Small s)(ht:takes bs=true){p t:Nat}(ho:over s.ah<=p)(hp:8 * p+s.quiet.toNat<=t):lF (s.tick bs) (g+1) a (w+256) c/\∃p',over (s.tick bs).ah<=p'/\8 * p'+(s.tick bs).quiet.toNat<=t+1:=by
 obtain⟨h1,h2,h3⟩:=h.kW hk hs ht;obtain⟨k1,k2⟩:=h1.sn.watch (p:=p) (t:=t) (by omega) (by rw[h3];exact hp);exact⟨⟨k1,h1.bd.watch h1.sn,h1.ir.watch⟩,k2⟩
end
end
end Go.Proofs.YthllhabjfchgiaaGreatDoor
