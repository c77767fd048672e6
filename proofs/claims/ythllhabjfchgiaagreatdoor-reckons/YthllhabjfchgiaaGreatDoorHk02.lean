import Derived.Test.YthllhabjfchgiaaGreatDoorHk01
import Derived.Laws.IdiomCopy
import Derived.Deep.Slices
import Derived.Deep.Fields
import Derived.Deep.Strs
import Derived.OpenShut
set_option maxRecDepth 100000
set_option maxHeartbeats 8000000
set_option linter.unusedSimpArgs false
namespace Go.Proofs.YthllhabjfchgiaaGreatDoor
open _root_.Go.Proofs.Tryz
section
abbrev bF:=@Go.wpQuiet_nil
abbrev bH:=@Go.World.cell?_drewN
abbrev dK:=@Go.RowKit.Below.refl
abbrev fK:=@Go.World.ownsRow_nil
abbrev fQ:=@Go.World.cell?_alloc_at
abbrev gB:=@Go.World.cell?_alloc_past
abbrev jo:=@Go.TypeId
end
section
open Go.RowKit
open Hx (Rd Pk Vw St Mc jJ)
section
variable {B C:Nat}{w:jk}{M SB:Nat}{v:Vw}{m:Mc}
theorem acj:(prog.info? 3).map (λi=>(i.zero,i.size,i.bytes))=some (some (Im 0),1,8):=by kernel_rfl
theorem ar0(n:Nat)(hn:n<=100000)(w:jk):
 (Instr.makeSlice 91 (Im (n:Int)) (Im (n:Int))).run prog w=.ok (.slice (some (Ad w.heap.size 0)) n n) (w.alloc (.cells (madeCells #[Im 0] n) 3)):=by
 obtain⟨i0,hi0,hz0,hz1,hz2⟩:=info_parts acj;have:=run_makeSlice (P:=prog) w 91 3 i0 (Im 0) Tryz.underlying91 hi0 hz0 .i64 .i64 n n (by omega) (by omega) (by rw[hz1];simp;omega) (by rw[hz2];omega) (by omega);rw[this,hz1];simp[Value.cells]
def wo(x0 x1 x2 x3 x4 x5 x6 x7:Int):List jm:=[Im x0,Im x1,Im x2,Im x3,Im x4,Im x5,Im x6,Im x7]
def vT(w:jk)(ar af aa:Option Addr)(nr cr nf cf na ca:Nat)(x0 x1 x2 x3 x4 x5 x6 x7:Int)(n:Nat)(zs:Array jm):jk:=
 (((w.alloc (Obj.cells #[.slice ar nr cr,.slice af nf cf,.slice aa na ca] 25)).alloc
   (Obj.cells #[Im x0,Im x1,Im x2,Im x3,Im x4,Im x5,Im x6,Im x7] 26)).alloc
   (Obj.cells zs 3)).alloc
   (Obj.cells #[.slice ar nr cr,.slice af nf cf,.slice aa na ca,.slice (some (Ad (w.heap.size+1+1) 0)) n n,.int .u64 0,.int .u64 0,.int .u64 0,.int .u64 0,.int .u64 0,.int .u64 0,.int .u64 0,.int .u64 0,Nl] 130)
section
variable (w:jk)(ar af aa:Option Addr)(nr cr nf cf na ca:Nat)(x0 x1 x2 x3 x4 x5 x6 x7:Int)(n:Nat)(zs:Array jm)
theorem aol:(vT w ar af aa nr cr nf cf na ca x0 x1 x2 x3 x4 x5 x6 x7 n zs).heap.size=w.heap.size+4:=by simp[vT]
theorem adH(k:Nat):(vT w ar af aa nr cr nf cf na ca x0 x1 x2 x3 x4 x5 x6 x7 n zs).cell? (Ad (w.heap.size+1+1+1) k)=#[Value.slice ar nr cr,.slice af nf cf,.slice aa na ca,.slice (some (Ad (w.heap.size+1+1) 0)) n n,.int .u64 0,.int .u64 0,.int .u64 0,.int .u64 0,.int .u64 0,.int .u64 0,.int .u64 0,.int .u64 0,Nl][k]? :=
 fQ _ _ _ _ (by simp)
theorem aoj(k:Nat):(vT w ar af aa nr cr nf cf na ca x0 x1 x2 x3 x4 x5 x6 x7 n zs).frozen? (Ad (w.heap.size+1+1+1) k)=false:=
 World.frozen?_alloc_at _ _ _ _ (by simp)
theorem adJ(k:Nat):(vT w ar af aa nr cr nf cf na ca x0 x1 x2 x3 x4 x5 x6 x7 n zs).cell? (Ad (w.heap.size+1+1) k)=zs[k]? :=by
 unfold vT;rw[gB _ _ _ (by simp)];exact fQ _ _ _ _ (by simp)
theorem adK(k:Nat):(vT w ar af aa nr cr nf cf na ca x0 x1 x2 x3 x4 x5 x6 x7 n zs).frozen? (Ad (w.heap.size+1+1) k)=false:=by
 unfold vT;rw[World.frozen?_alloc_past _ _ _ (by simp)];exact World.frozen?_alloc_at _ _ _ _ (by simp)
theorem aok(k:Nat):(vT w ar af aa nr cr nf cf na ca x0 x1 x2 x3 x4 x5 x6 x7 n zs).cell? (Ad (w.heap.size+1) k)=(wo x0 x1 x2 x3 x4 x5 x6 x7)[k]? :=by
 unfold vT;rw[gB _ _ _ (by simp),gB _ _ _ (by simp)];rw[fQ _ _ _ _ (by simp)];simp[wo]
theorem adI:w.grownBy (vT w ar af aa nr cr nf cf na ca x0 x1 x2 x3 x4 x5 x6 x7 n zs) none:=by
 unfold vT;have h1:=ah w (Obj.cells #[Value.slice ar nr cr,.slice af nf cf,.slice aa na ca] 25) none;exact((h1.trans (ah _ _ none)).trans (ah _ _ none)).trans (ah _ _ none)
end
theorem aon(ar af aa:Option Addr)(nr cr nf cf na ca:Nat)(x0 x1 x2 x3 x4 x5 x6 x7:Int)(n:Nat)(w:jk)(hn:n<=100000)(h8:8<=n):
 Calls prog 49 #[.agg #[.slice ar nr cr,.slice af nf cf,.slice aa na ca],.agg #[Im x0,Im x1,Im x2,Im x3,Im x4,Im x5,Im x6,Im x7],Im n] w λe w'=>
  e=.returned (Pt (w.heap.size+1+1+1) 0)/\∃k,w'=((vT w ar af aa nr cr nf cf na ca x0 x1 x2 x3 x4 x5 x6 x7 n (madeCells #[Im 0] n)).drewN k).setCells (w.heap.size+1+1) 0 (wo x0 x1 x2 x3 x4 x5 x6 x7):=by
 have km:=λ(w:jk)=>ar0 n hn w;have hz:(madeCells #[Im 0] n).size=n:=size_madeCells _ _;generalize madeCells #[Im 0] n=zs at *;have h3:=adH w ar af aa nr cr nf cf na ca x0 x1 x2 x3 x4 x5 x6 x7 n zs 3;have kc:=λ(ty:jo)(k:Nat)=>run_copy_cells (P:=prog) ((vT w ar af aa nr cr nf cf na ca x0 x1 x2 x3 x4 x5 x6 x7 n zs).drewN k) 91 91 ty 3 (w.heap.size+1+1) 0 n n (Ad (w.heap.size+1) 0) 8 8 (wo x0 x1 x2 x3 x4 x5 x6 x7)
  Tryz.underlying91 (by kernel_rfl) (by show 8=min 8 n;omega)
  (by
    intro j u hj;have e:((Ad (w.heap.size+1) 0):Addr).add j=(Ad (w.heap.size+1) j):=by unfold Addr.add;split<;>simp_all
    rw[e,bH,aok];exact hj)
  (by
    intro j hj;have:j<8:=by simpa [wo]using hj
    rw[bH,gW,adJ];simp;omega)
  (by intro j _;rw[World.frozen?_drewN];exact adK w ar af aa nr cr nf cf na ca x0 x1 x2 x3 x4 x5 x6 x7 n zs _)
  (by simp[wo,Value.oneCell'])
 simp only[List.getElem?_toArray,iY,dw]at h3;go_enter func49,ntmps49;go_wp2_with fail;go_region_held3 (λw'=>w'.cell? (Ad w.heap.size 0)=some (.slice ar nr cr)/\w'.cell? (Ad w.heap.size 1)=some (.slice af nf cf)/\w'.cell? (Ad w.heap.size 2)=some (.slice aa na ca)) (go_keep) (fail);go_wp2_with fail;rename_i alj kk hkk;clear alj;rw[show((((w.alloc (Obj.cells #[.slice ar nr cr,.slice af nf cf,.slice aa na ca] 25)).alloc
  (Obj.cells #[Im x0,Im x1,Im x2,Im x3,Im x4,Im x5,Im x6,Im x7] 26)).alloc
  (Obj.cells zs 3)).alloc
  (Obj.cells #[.slice ar nr cr,.slice af nf cf,.slice aa na ca,.slice (some (Ad (w.heap.size+1+1) 0)) n n,.int .u64 0,.int .u64 0,.int .u64 0,.int .u64 0,.int .u64 0,.int .u64 0,.int .u64 0,.int .u64 0,Nl] 130))=vT w ar af aa nr cr nf cf na ca x0 x1 x2 x3 x4 x5 x6 x7 n zs from rfl]
 generalize hW:vT w ar af aa nr cr nf cf na ca x0 x1 x2 x3 x4 x5 x6 x7 n zs=W at *;have HW:=jA hW;clear hW;refine CO (w:=W) (k:=1) 5 (by kernel_rfl) (by kernel_rfl) ?_;simp only[aC,aO,aG,aQ];repeat (go_big_quiet_step (fail))
 refine bF ?_;intro _ hw';obtain⟨n3,hw''⟩:=hw';subst hw'';go_wp2;go_ret;exact⟨rfl,n3,by rw[HW.out]⟩
structure yP(B:Nat)(w:jk)(ar af aa:Option Addr)(nr nf na:Nat)(v:Vw):Prop where
 pW:IU B w ar v.pW
 qK:Ob B w af v.qK
 qJ:Ob B w aa v.qJ
 MZ:nr=v.pW.length
 MW:nf=v.qK.length
 MV:na=v.qJ.length
 Ij:v.Dt
structure Good(v:Vw):Prop where
 JF:v.pW.length<=8
 JE:v.qK.length<=16
 JD:v.qJ.length<=16
 ids:∀r∈v.pW,0<=r.id/\r.id<8
def sH(x0 x1 x2 x3 x4 x5 x6 x7:Int)(n:Nat):Mc:=⟨[x0,x1,x2,x3,x4,x5,x6,x7]++List.replicate (n-8) 0,List.replicate 8 0,[]⟩
theorem adq(n k:Nat)(hk:k<n):(madeCells #[Im 0] n)[k]? =some (Im 0):=by
 have:=toList_madeCells_one (Im 0) n;rw[<-Array.getElem?_toList,this];simp[hk]
theorem afa(x0 x1 x2 x3 x4 x5 x6 x7:Int):∀j (h:j<(wo x0 x1 x2 x3 x4 x5 x6 x7).length),(wo x0 x1 x2 x3 x4 x5 x6 x7)[j]=Im ([x0,x1,x2,x3,x4,x5,x6,x7].getD j 0)
 |0,_=>rfl
 |1,_=>rfl
 |2,_=>rfl
 |3,_=>rfl
 |4,_=>rfl
 |5,_=>rfl
 |6,_=>rfl
 |7,_=>rfl
theorem left_at(a b c d e:jm):∀j,j<8->#[a,b,c,d,Value.int .u64 0,.int .u64 0,.int .u64 0,.int .u64 0,.int .u64 0,.int .u64 0,.int .u64 0,.int .u64 0,e][4+j]? =some (.int .u64 0)
 |0,_=>rfl
 |1,_=>rfl
 |2,_=>rfl
 |3,_=>rfl
 |4,_=>rfl
 |5,_=>rfl
 |6,_=>rfl
 |7,_=>rfl
theorem ahi(j:Nat)(n:Nat):(List.replicate n (0:Int)).getD j 0=0:=by
 simp only[aU,List.getElem?_replicate];split<;>simp
theorem aoi(hB:1<B)(hBw:B<=w.heap.size)(hT:vJ w){ar af aa:Option Addr}{nr cr nf cf na ca:Nat}(hv:yP B w ar af aa nr nf na v)(hg:Good v)(x0 x1 x2 x3 x4 x5 x6 x7:Int)(n:Nat)(h8:8<=n)
 (hx:∀x∈[x0,x1,x2,x3,x4,x5,x6,x7],jJ x)(k:Nat):
 kQ B (w.heap.size+4) (((vT w ar af aa nr cr nf cf na ca x0 x1 x2 x3 x4 x5 x6 x7 n (madeCells #[Im 0] n)).drewN k).setCells (w.heap.size+1+1) 0 (wo x0 x1 x2 x3 x4 x5 x6 x7)) (w.heap.size+1+1+1) (w.heap.size+1+1) v (sH x0 x1 x2 x3 x4 x5 x6 x7 n):=by
 generalize hW:vT w ar af aa nr cr nf cf na ca x0 x1 x2 x3 x4 x5 x6 x7 n (madeCells #[Im 0] n)=W;have hsz:W.heap.size=w.heap.size+4:=by rw[<-hW];exact aol ..
 have alz:∀k,W.cell? (Ad (w.heap.size+1+1+1) k)=#[Value.slice ar nr cr,.slice af nf cf,.slice aa na ca,.slice (some (Ad (w.heap.size+1+1) 0)) n n,.int .u64 0,.int .u64 0,.int .u64 0,.int .u64 0,.int .u64 0,.int .u64 0,.int .u64 0,.int .u64 0,Nl][k]? :=λk=>by rw[<-hW];exact adH ..
 have abW:∀k,W.frozen? (Ad (w.heap.size+1+1+1) k)=false:=λk=>by rw[<-hW];exact aoj ..
 have MJ:∀k,W.cell? (Ad (w.heap.size+1+1) k)=(madeCells #[Im 0] n)[k]? :=λk=>by rw[<-hW];exact adJ ..
 have alK:∀k,W.frozen? (Ad (w.heap.size+1+1) k)=false:=λk=>by rw[<-hW];exact adK ..
 have hold:w.grownBy W none:=by rw[<-hW];exact adI ..
 clear hW;have Ui:(wo x0 x1 x2 x3 x4 x5 x6 x7).length=8:=rfl;have Po:∀x:Addr,¬x.block=w.heap.size+1+1->((W.drewN k).setCells (w.heap.size+1+1) 0 (wo x0 x1 x2 x3 x4 x5 x6 x7)).cell? x=W.cell? x:=λx hx=>by
  rw[World.cell?_setCells_out _ _ _ _ _ (λe=>jl e hx),bH]
 have hfr:∀x:Addr,((W.drewN k).setCells (w.heap.size+1+1) 0 (wo x0 x1 x2 x3 x4 x5 x6 x7)).frozen? x=W.frozen? x:=λx=>by
  rw[World.frozen?_setCells,World.frozen?_drewN]
 have O8:∀x:Addr,x.block<w.heap.size->((W.drewN k).setCells (w.heap.size+1+1) 0 (wo x0 x1 x2 x3 x4 x5 x6 x7)).cell? x=w.cell? x:=λx hx=>by
  rw[Po x (by omega)];exact bQ (hold.block _ hx (by simp))
 have hM:∀k',((W.drewN k).setCells (w.heap.size+1+1) 0 (wo x0 x1 x2 x3 x4 x5 x6 x7)).cell? (Ad (w.heap.size+1+1+1) k')=#[Value.slice ar nr cr,.slice af nf cf,.slice aa na ca,.slice (some (Ad (w.heap.size+1+1) 0)) n n,.int .u64 0,.int .u64 0,.int .u64 0,.int .u64 0,.int .u64 0,.int .u64 0,.int .u64 0,.int .u64 0,Nl][k']? :=λk'=>by
  rw[Po _ (by show¬w.heap.size+1+1+1=_;omega)];exact alz k'
 have hlen:(sH x0 x1 x2 x3 x4 x5 x6 x7 n).jD.length=n:=by simp[sH];omega
 have hget:∀j,j<n->(sH x0 x1 x2 x3 x4 x5 x6 x7 n).jD.getD j 0=[x0,x1,x2,x3,x4,x5,x6,x7].getD j 0:=λj hj=>by
  simp only[sH,aU];by_cases h:j<8
  .rw[aT (by simpa using h)]
  .rw[bW (by simp;omega)];simp[List.getElem?_replicate];split<;>simp_all
 have hsz2:((W.drewN k).setCells (w.heap.size+1+1) 0 (wo x0 x1 x2 x3 x4 x5 x6 x7)).heap.size=w.heap.size+4:=by
  simp[wo,World.setCells,hsz]
 refine⟨⟨?_,?_,?_,hg.JF,hg.JE,hg.JD,hg.ids,hv.Ij⟩,by omega,by omega,by omega,by omega,by omega,by omega,?_,?_,?_,?_,?_,by simp[sH],?_,?_,?_,?_,?_,hB⟩
 .refine⟨ar,cr,by rw[hM 0,<-hv.MZ];rfl,λi r hr=>?_⟩;obtain⟨b,o,e,hb,hp⟩:=hv.pW i r hr;exact⟨b,o,e,hb,hp.keep hb (λx hx=>O8 x (by omega))⟩
 .refine⟨af,cf,by rw[hM 1,<-hv.MW];rfl,λi r hr=>?_⟩;obtain⟨b,o,e,hb,hp⟩:=hv.qK i r hr;exact⟨b,o,e,hb,hp.keep hb (λx hx=>O8 x (by omega))⟩
 .refine⟨aa,ca,by rw[hM 2,<-hv.MV];rfl,λi r hr=>?_⟩;obtain⟨b,o,e,hb,hp⟩:=hv.qJ i r hr;exact⟨b,o,e,hb,hp.keep hb (λx hx=>O8 x (by omega))⟩
 .rw[hM 3,hlen];rfl
 .intro j hj;rw[hlen]at hj;rw[hget j hj];by_cases h:j<8
  .have:=World.cell?_setCells_in (w.heap.size+1+1) (wo x0 x1 x2 x3 x4 x5 x6 x7) 0 (W.drewN k) (λj' hj'=>by
    rw[Ui]at hj';rw[bH,gW,MJ,adq n j' (by omega)];rfl) j (by rw[Ui];exact h)
   rw[gW]at this;rw[this,afa]
  .rw[World.cell?_setCells_out _ _ _ _ _ (λ_ _=>je (by rw[Ui];show 0+8<=j;omega)),bH,MJ,adq n j hj];simp[aU,bV (show[x0,x1,x2,x3,x4,x5,x6,x7].length<=j by simp;omega)]
 .intro j _;rw[hfr];exact alK j
 .intro j hj;rw[hM,left_at _ _ _ _ _ j hj];exact congrArg (λz=>some (Value.int .u64 z)) (ahi j 8).symm
 .intro j _;rw[hfr];exact abW _
 .exact⟨Nl,by rw[hM];rfl,fK _ _ _ _⟩
 .rw[hfr];exact abW _
 .intro j;by_cases h:j<n
  .rw[hget j h,aU];cases hq:[x0,x1,x2,x3,x4,x5,x6,x7][j]?with
   |none=>exact Hx.Dw
   |some y=>exact hx y (bT hq)
  .rw[aU,bV (by omega)];exact Hx.Dw
 .intro j;have:(sH x0 x1 x2 x3 x4 x5 x6 x7 n).left.getD j 0=0:=ahi j 8;rw[this];omega
 .intro j hj;rw[O8 _ (by show 1<_;omega)];exact hT j hj
theorem aom(ar af aa:Option Addr)(nr cr nf cf na ca:Nat)(x0 x1 x2 x3 x4 x5 x6 x7:Int)(n:Nat)(w:jk)(hn:n<=100000)(h8:8<=n):
 Calls prog 49 #[.agg #[.slice ar nr cr,.slice af nf cf,.slice aa na ca],.agg #[Im x0,Im x1,Im x2,Im x3,Im x4,Im x5,Im x6,Im x7],Im n] w λe w'=>
  e=.returned (Pt (w.heap.size+1+1+1) 0)/\Below w.heap.size w w'/\
  (∀B v,1<B->B<=w.heap.size->vJ w->yP B w ar af aa nr nf na v->Good v->(∀x∈[x0,x1,x2,x3,x4,x5,x6,x7],jJ x)->
    kQ B (w.heap.size+4) w' (w.heap.size+1+1+1) (w.heap.size+1+1) v (sH x0 x1 x2 x3 x4 x5 x6 x7 n)):=by
 refine(aon ar af aa nr cr nf cf na ca x0 x1 x2 x3 x4 x5 x6 x7 n w hn h8).mono ?_;rintro e w' ⟨rfl,k,rfl⟩;refine⟨rfl,?_,λB v h1 h2 h3 h4 h5 h6=>aoi h1 h2 h3 h4 h5 x0 x1 x2 x3 x4 x5 x6 x7 n h8 h6 k⟩;have h1:Below w.heap.size w (vT w ar af aa nr cr nf cf na ca x0 x1 x2 x3 x4 x5 x6 x7 n (madeCells #[Im 0] n)):=(dK _ _).grown (adI ..) (aj _) (by simp);have h2:=below_drewN h1 k;simp only[wo,World.setCells];repeat (refine Below.setCell ?_ (by show w.heap.size<=w.heap.size+1+1;omega) _)
 exact h2
end
end
section
open Go.ChangeShapes Go.WideShapes Go.Deep
section
section
variable {H:Type}{enc:jo×jm->H}{P:Program}{w:jk}{base:Nat}{spare:Nat->Bool}{held:Bool}
theorem Ux{n:Int}(h:(Lit.int .i64 n).wf=true):Hx.jJ n:=bounds_i64 h
end
end
end
namespace Hx
open Go.RowKit
def push(v:Vw)(i j:Int)(m:Mc):Option Mc:=
 match v.sN i,v.uM j with
 |some r,some p=>if m.jO.length=256 then none else some {m with jO:=m.jO++[(r.id,p.seq)]}
 |_,_=>some m
structure Out where
 status:Int
 jF:List Int
 jO:List (Int×Int)
def step(v:Vw)(jB:List St)(jF:List Int)(k:Nat)(s:St)(m:Mc):Out⊕(Int×Mc):=
 if s.op=1 then .inl ⟨0,m.jD,m.jO⟩
 else if s.op=2 then .inr (if m.get s.a=0 then s.jY else k+1,m)
 else if s.op=3 then .inr (s.jY,m)
 else if s.op=4 then .inr ((kS s k (rP v s m)).2,(kS s k (rP v s m)).1)
 else if s.op=5 then (if m.get s.a=0 then match jB[s.jY.toNat]?with
  |some l=>.inr ((kS l s.jY m).2,(kS l s.jY m).1)
  |none=>.inl ⟨2,jF,[]⟩
  else .inr (k+1,m))
 else if s.op=0 then match jB[s.jY.toNat]?with
  |some l=>.inr ((kS l s.jY m).2,(kS l s.jY m).1)
  |none=>.inl ⟨2,jF,[]⟩
 else if s.op=36 then match push v (m.get s.a) (m.get s.b) m with
  |none=>.inl ⟨1,jF,[]⟩
  |some m'=>.inr (k+1,m')
 else .inr (k+1,work v s m)
def runs(v:Vw)(jB:List St)(jF:List Int):Nat->Int->Mc->Out
 |0,_,_=>⟨2,jF,[]⟩
 |f+1,k,m=>match jB[k.toNat]?with
  |none=>⟨2,jF,[]⟩
  |some s=>match step v jB jF k.toNat s m with
   | .inl o=>o
   | .inr (k',m')=>runs v jB jF f k' m'
def UF(jB:List St)(n:Nat)(x:Int):Prop:=
 ∃l,0<=x/\jB[x.toNat]? =some l/\x+1<jB.length/\0<=l.jY/\l.jY<jB.length/\St.slot n l.b/\0<=l.depth/\l.depth<8
structure St.fits(jB:List St)(n:Nat)(k:Nat)(s:St):Prop where
 u8:0<=s.op/\s.op<=255
 next:¬s.op=1->¬s.op=3->¬s.op=0->k+1<jB.length
 ifs:s.op=2->St.slot n s.a/\0<=s.jY/\s.jY<jB.length
 aaO:s.op=3->0<=s.jY/\s.jY<jB.length
 jV:s.op=4->0<=s.jY/\s.jY<jB.length/\St.slot n s.b/\St.slot n s.c/\0<=s.depth/\s.depth<8
 Iq:s.op=5->St.slot n s.a/\UF jB n s.jY
 ends:s.op=0->UF jB n s.jY
 Ie:s.op=36->St.slot n s.a/\St.slot n s.b
 works:¬s.op=1->¬s.op=2->¬s.op=3->¬s.op=4->¬s.op=5->¬s.op=0->¬s.op=36->s.Rw n
structure Fits(jB:List St)(n:Nat):Prop where
 pos:0<jB.length
 len:jB.length<=1000000
 each:∀(k:Nat)(s:St),jB[k]? =some s->s.fits jB n k
def shape(o:Int):List UInt8:=
 if o=0\/o=1\/o=3 then []else if o=2\/o=5 then [115]else if o=6 then [115,110]else if o=21 then [115,108]
 else if o=7\/o=8\/o=9\/o=22\/o=23\/o=24\/o=27\/o=28\/o=29\/o=30\/o=31\/o=32\/o=33\/o=34\/o=36 then [115,115]
 else if o=4 then [108,115,115]
 else if o=10\/o=11\/o=12\/o=13\/o=14\/o=15\/o=16\/o=17\/o=18\/o=19\/o=20\/o=35 then [115,115,115]
 else if o=25\/o=26 then [115,115,115,115]else []
def Ew(o:Int):Bool:=decide (0<=o/\o<=36)
def signed(x:Int):Int:=if bits .and .u64 x 1==1 then bits .xor .i64 (-1) (x/2)else x/2
def um(s:List UInt8)(p:Nat):Nat->Nat->Int->Int×Int
 |0,_,_=>(0,0)
 |r+1,i,acc=>
  if i=9/\1<(s.getD (p+i) 0).toNat then (0,0)
  else if (s.getD (p+i) 0).toNat<128 then (signed (bits .or .u64 acc (IntKind.u64.wrap (((s.getD (p+i) 0).toNat%128:Nat) * 2^(i * 7)))),i+1)
  else um s p r (i+1) (bits .or .u64 acc (IntKind.u64.wrap (((s.getD (p+i) 0).toNat%128:Nat) * 2^(i * 7))))
def read(s:List UInt8)(p:Nat):Int×Int:=um s p (min (s.length-p) 10) 0 0
def kR(l:Int):Int:=if l=0 then 8 else 16
structure Bk where
 opener:Int
 other:Int
 jC:Int
 before:Int
structure Ls where
 pos:Int
 jB:List St
 jH:List Bk
 jV:List Int
 jD:Int
 jC:Int
 bad:Bool
def Ls.top(l:Ls):Bk:=l.jH.getLastD ⟨0,0,0,0⟩
def Ls.count(l:Ls)(more:Int):Ls:=
 {l with jH:=l.jH.dropLast++[{l.top with jC:=wrap64 (l.top.jC+more)}],bad:=l.bad||decide (40000040<wrap64 (l.top.jC+more))}
end Hx
section
open Go.RowKit
open Hx (St Bk Ls jJ)
def mM(l:Ls)(st:St):Ls:=Hx.Ls.count {l with jB:=l.jB++[st]} 1
def xA(l:Ls)(st:St):Ls:={mM l st with jH:=(mM l st).jH++[⟨l.jB.length,0,0,0⟩]}
theorem La(l:Ls)(st:St):(mM l st).jB=l.jB++[st]:=rfl
theorem Oh(l:Ls)(st:St)(hne:l.jH≠[]):(mM l st).jH.length=l.jH.length:=by
 have:0<l.jH.length:=List.length_pos_iff.2 hne;simp[mM,Hx.Ls.count];omega
def Ip(l:Ls)(st:St):Ls:=if l.jV=[]then {l with bad:=true}else mM l {st with jY:=l.jV.getLastD 0}
def Hy(l:Ls)(st:St):Ls:={xA l {st with depth:=l.jV.length}with jV:=l.jV++[(l.jB.length:Int)]}
def tX(l:Ls)(p:Nat)(st:St)(init:List Bk)(b:Bk):Ls:=Hx.Ls.count {l with jB:=l.jB.set p {st with jY:=l.jB.length},jH:=init} (max b.jC b.before)
def Am(l:Ls):Ls:={mM l ⟨1,0,0,0,0,0,0⟩with jC:=(mM l ⟨1,0,0,0,0,0,0⟩).top.jC,jH:=[]}
def FD(l1:Ls)(p:Nat)(sp:St):Ls:=
 Hx.Ls.count {l1 with jH:=l1.jH.dropLast,jV:=l1.jV.dropLast,jB:=l1.jB.set p {sp with jY:=l1.jB.length}} (wrap64 (Hx.kR sp.a * l1.top.jC))
def Ap(l:Ls)(st:St)(p:Nat)(sp:St):Ls:=FD (mM l {st with jY:=p}) p sp
def FC(l1:Ls)(ns p:Nat)(sp:St):Ls:=
 {l1 with jH:=l1.jH.dropLast++[⟨l1.top.opener,ns,0,l1.top.jC⟩],jB:=l1.jB.set p {sp with jY:=l1.jB.length}}
def Ec(l:Ls)(st:St)(p:Nat)(sp:St):Ls:=FC (mM l st) l.jB.length p sp
theorem ah0(l:Ls)(st:St):(mM l st).top={l.top with jC:=wrap64 (l.top.jC+1)}:=by
 simp[mM,Hx.Ls.count,Hx.Ls.top]
def lH(l:Ls)(s:St):Ls:=
 if s.op=2 then xA l s
 else if s.op=4 then (if l.jV.length=8 then {l with bad:=true}else Hy l s)
 else if s.op=3 then
  (if l.jH.length=1\/0<l.top.other then {l with bad:=true}else match l.jB[l.top.opener.toNat]?with
    |none=>{l with bad:=true}
    |some sp=>if sp.op=2 then Ec l s l.top.opener.toNat sp else {l with bad:=true})
 else if s.op=0 then
  (if l.jH.length=1 then Am l else match l.jB[l.top.opener.toNat]?with
    |none=>{l with bad:=true}
    |some sp=>
     if sp.op=4 then Ap l s l.top.opener.toNat sp
     else if 0<l.top.other then match l.jB[l.top.other.toNat]?with
      |none=>{l with bad:=true}
      |some sr=>tX l l.top.other.toNat sr l.jH.dropLast l.top
     else tX l l.top.opener.toNat sp l.jH.dropLast l.top)
 else if s.op=5 then Ip l s
 else mM l s
def wP(bs:List UInt8):List UInt8->Nat->Int->Option (List Int×Nat×Int)
 |[],p,sl=>some ([],p,sl)
 |c::cs,p,sl=>
  if (Hx.read bs p).2=0 then none
  else if c=115/\((Hx.read bs p).1<0\/2008<=(Hx.read bs p).1)then none
  else if c=108/\¬(0<=(Hx.read bs p).1/\(Hx.read bs p).1<3)then none
  else (wP bs cs (p+(Hx.read bs p).2.toNat) (if c=115 then max sl ((Hx.read bs p).1+1)else sl)).map λr=>((Hx.read bs p).1::r.1,r.2)
def xH(bs:List UInt8)(l:Ls):Option (St×Ls):=
 match bs[l.pos.toNat]?with
 |none=>none
 |some o=>if Hx.Ew o.toNat then match wP bs (Hx.shape o.toNat) (l.pos.toNat+1) l.jD with
   |none=>none
   |some (ns,p,sl)=>some (⟨o.toNat,ns.getD 0 0,ns.getD 1 0,ns.getD 2 0,ns.getD 3 0,0,0⟩,{l with pos:=p,jD:=sl})
  else none
def tY:Ls:=⟨0,[],[⟨0,0,0,0⟩],[],8,0,false⟩
def uX(bs:List UInt8):Nat->Ls->Ls
 |0,l=>l
 |f+1,l=>if l.jH=[]\/l.bad=true then l else match xH bs l with
  |none=>{l with bad:=true}
  |some (s,l')=>uX bs f (lH l' s)
def mG(bs:List UInt8):Ls:=uX bs (bs.length+1) tY
def wU(bs:List UInt8):Bool:=decide (bs.length<=100000)&& !(mG bs).bad&&decide ((mG bs).pos=bs.length)
end
section
open Go.RowKit
theorem EF{a a' b b':jm}(h1:a=a')(h2:b=b'):Ending.returned (.tuple #[a,b])=.returned (.tuple #[a',b']):=by rw[h1,h2]
theorem amQ(l:Int)(w:jk):
 Calls prog 210 #[Im l] w λe w'=>e=.returned (Im (Hx.kR l))/\w'=w:=by
 by_cases h:l=0
 .subst h;go_enter func210,ntmps210;go_wp2;go_ret;exact⟨rfl,rfl⟩
 .have h':(l==0)=false:=by simpa using h
  go_enter func210,ntmps210;go_wp2;go_ret;exact⟨zi (by simp[Hx.kR,h]),rfl⟩
theorem asB(o:Int)(w:jk)(h0:0<=o):
 Calls prog 165 #[.int .u8 o] w λe w'=>e=.returned (.tuple #[.string ⟨(Hx.shape o).toArray⟩,.bool (Hx.Ew o)])/\w'=w:=by
 go_enter func165,ntmps165;go_wp2;all_goals (go_ret2;refine⟨EF ?_ ?_,rfl⟩)
 all_goals (simp only[beq_iff_eq,beq_eq_false_iff_ne,ne_eq]at *)
 all_goals first|(subst_vars;rfl)|skip
 .simp[Hx.shape, *]
 .have e:Hx.Ew o=false:=by
   simp only[Hx.Ew,decide_eq_false_iff_not];omega
  rw[e]
  rfl
theorem Q5(x:Int)(w:jk)(h0:0<=x)(h1:x<18446744073709551616):
 Calls prog 209 #[.int .u64 x] w λe w'=>e=.returned (Im (Hx.signed x))/\w'=w:=by
 unfold Hx.signed;generalize hz:(bits .and .u64 x 1==1)=z;cases z with
 |false=>
  go_enter func209,ntmps209;go_wp2;go_ret;exact⟨rfl,rfl⟩
 |true=>
  go_enter func209,ntmps209;go_wp2;go_ret;exact⟨rfl,rfl⟩
theorem AV(x y:Int):0<=bits .or .u64 x y/\bits .or .u64 x y<18446744073709551616:=⟨bits_lo_u64 _ _ _,by have:=bits_hi_u64 .or x y;omega⟩
theorem aqB(s:ji)(p r:Nat)(out:Int×Int)(w:jk)(hs:s.size<=100000)(a1:(r:Int)<=(s.size:Int)-(p:Int))(a2:(s.size:Int)-(p:Int)<=(r:Int))(a3:(s.size:Int)-(p:Int)<=10)
 (HR:Hid (out=Hx.um s.data.toList p r 0 0)):
 Calls prog 166 #[.string s,Im p] w λe w'=>e=.returned (.tuple #[Im out.1,Im out.2])/\w'=w:=by
 go_enter func166,ntmps166;go_wp2;go_loop [6,14] (λacc i=>∃(k:Nat)(x:Int),k<=r/\i=Im k/\acc=.int .u64 x/\0<=x/\x<18446744073709551616/\Hid (out=Hx.um s.data.toList p (r-k) k x)) (λ_ i=>r-(intOf i).toNat)
 case atStart=>exact⟨0,0,bD _,rfl,rfl,by omega,by omega,HR⟩
 case round=>
  obtain⟨k,x,hk,rfl,rfl,hx0,hx1,HE⟩:=hrel;clear HR;by_cases hlt:k<r
  .obtain⟨q,hqe⟩:∃q,p+k=q:=⟨_,rfl⟩;have hq:q<s.size:=by omega
   have hpk:(p:Int)+(k:Int)=(q:Int):=by omega
   have hq0:(0:Int)<=(q:Int):=by omega
   have hq1:(q:Int)<(s.size:Int):=by omega
   have HN:Hid (out=if k=9/\1<s[q].toNat then (0,0)
    else if s[q].toNat<128 then (Hx.signed (bits .or .u64 x (IntKind.u64.wrap ((s[q].toNat%128:Nat) * 2^(k * 7)))),(k:Int)+1)
    else Hx.um s.data.toList p (r-(k+1)) (k+1) (bits .or .u64 x (IntKind.u64.wrap ((s[q].toNat%128:Nat) * 2^(k * 7))))):=by
    show out=_;have hb:s.data.toList.getD (p+k) 0=s[q]:=by
     subst hqe;have:(p+k)<s.data.toList.length:=by simpa using hq
     rw[aU,bU this]
     rfl
    obtain⟨r',hr'⟩:∃r',r-k=r'+1:=⟨r-k-1,by omega⟩;rw[HE.out,hr',Hx.um,hb,show r-(k+1)=r' by omega]
   clear HE hqe;have hdk:decide ((k:Int)<(s.size:Int)-(p:Int))=true:=by simp;omega
   go_wp2_with fail
   .have e1:out=(0,0):=by
     rw[HN.out,jh ⟨by omega,by omega⟩]
    go_ret2;exact⟨EF (by rw[e1];rfl) (by rw[e1];rfl),rfl⟩
   .have k9:k=9:=by omega
    have e1:out=(Hx.signed (bits .or .u64 x ((s[q].toNat:Int)%128 * 9223372036854775808)),10):=by
     rw[HN.out,jg (by omega),jh (by omega)];have e2:IntKind.u64.wrap (((s[q].toNat%128:Nat):Int) * 2^(k * 7))=(s[q].toNat:Int)%128 * 9223372036854775808:=by
      rw[k9,IntKind.wrap_u64];omega
     rw[e2,k9]
     rfl
    refine(Q5 _ _ (AV _ _).1 (AV _ _).2).mono ?_;rintro e w' ⟨rfl,rfl⟩;go_wp2;go_ret2;exact⟨EF (by rw[e1];rfl) (by rw[e1];rfl),rfl⟩
   .have e1:out=(Hx.signed (bits .or .u64 x (IntKind.u64.wrap ((s[q].toNat:Int)%128 * 2^(k * 7)))),(k:Int)+1):=by
     rw[HN.out,jg (by omega),jh (by omega)]
     rfl
    refine(Q5 _ _ (AV _ _).1 (AV _ _).2).mono ?_;rintro e w' ⟨rfl,rfl⟩;go_wp2;go_ret2;exact⟨EF (by rw[e1];rfl) (by rw[e1];rfl),rfl⟩
   .have HE2:Hid (out=Hx.um s.data.toList p (r-(k+1)) (k+1) (bits .or .u64 x (IntKind.u64.wrap ((s[q].toNat:Int)%128 * 2^(k * 7))))):=by
     show out=_;rw[HN.out,jg (by omega),jg (by omega)]
     rfl
    refine⟨⟨k+1,_,by omega,by go_num,rfl,(AV _ _).1,(AV _ _).2,HE2⟩,?_⟩;simp[intOf];omega
  .have HF:Hid (out=(0,0)):=by
    show out=_;rw[HE.out,show r-k=0 by omega];rfl
   have hdk:decide ((k:Int)<(s.size:Int)-(p:Int))=false:=by simp;omega
   clear HE;go_wp2;go_ret2;exact⟨EF (by rw[HF.out];rfl) (by rw[HF.out];rfl),rfl⟩
theorem aqy(s:ji)(p:Nat)(out:Int×Int)(w:jk)(hs:s.size<=100000)(a1:10<(s.size:Int)-(p:Int))
 (HR:Hid (out=Hx.um s.data.toList p 10 0 0)):
 Calls prog 166 #[.string s,Im p] w λe w'=>e=.returned (.tuple #[Im out.1,Im out.2])/\w'=w:=by
 go_enter func166,ntmps166;go_wp2;go_loop [6,14] (λacc i=>∃(k:Nat)(x:Int),k<=10/\i=Im k/\acc=.int .u64 x/\0<=x/\x<18446744073709551616/\Hid (out=Hx.um s.data.toList p (10-k) k x)) (λ_ i=>10-(intOf i).toNat)
 case atStart=>exact⟨0,0,bD _,rfl,rfl,by omega,by omega,HR⟩
 case round=>
  obtain⟨k,x,hk,rfl,rfl,hx0,hx1,HE⟩:=hrel;clear HR;by_cases hlt:k<10
  .obtain⟨q,hqe⟩:∃q,p+k=q:=⟨_,rfl⟩;have hq:q<s.size:=by omega
   have hpk:(p:Int)+(k:Int)=(q:Int):=by omega
   have hq0:(0:Int)<=(q:Int):=by omega
   have hq1:(q:Int)<(s.size:Int):=by omega
   have HN:Hid (out=if k=9/\1<s[q].toNat then (0,0)
    else if s[q].toNat<128 then (Hx.signed (bits .or .u64 x (IntKind.u64.wrap ((s[q].toNat%128:Nat) * 2^(k * 7)))),(k:Int)+1)
    else Hx.um s.data.toList p (10-(k+1)) (k+1) (bits .or .u64 x (IntKind.u64.wrap ((s[q].toNat%128:Nat) * 2^(k * 7))))):=by
    show out=_;have hb:s.data.toList.getD (p+k) 0=s[q]:=by
     subst hqe;have:(p+k)<s.data.toList.length:=by simpa using hq
     rw[aU,bU this]
     rfl
    obtain⟨r',hr'⟩:∃r',10-k=r'+1:=⟨10-k-1,by omega⟩;rw[HE.out,hr',Hx.um,hb,show 10-(k+1)=r' by omega]
   clear HE hqe;have hdk:decide ((k:Int)<10)=true:=by simp;omega
   go_wp2_with fail
   .have e1:out=(0,0):=by
     rw[HN.out,jh ⟨by omega,by omega⟩]
    go_ret2;exact⟨EF (by rw[e1];rfl) (by rw[e1];rfl),rfl⟩
   .have k9:k=9:=by omega
    have e1:out=(Hx.signed (bits .or .u64 x ((s[q].toNat:Int)%128 * 9223372036854775808)),10):=by
     rw[HN.out,jg (by omega),jh (by omega)];have e2:IntKind.u64.wrap (((s[q].toNat%128:Nat):Int) * 2^(k * 7))=(s[q].toNat:Int)%128 * 9223372036854775808:=by
      rw[k9,IntKind.wrap_u64];omega
     rw[e2,k9]
     rfl
    refine(Q5 _ _ (AV _ _).1 (AV _ _).2).mono ?_;rintro e w' ⟨rfl,rfl⟩;go_wp2;go_ret2;exact⟨EF (by rw[e1];rfl) (by rw[e1];rfl),rfl⟩
   .have e1:out=(Hx.signed (bits .or .u64 x (IntKind.u64.wrap ((s[q].toNat:Int)%128 * 2^(k * 7)))),(k:Int)+1):=by
     rw[HN.out,jg (by omega),jh (by omega)]
     rfl
    refine(Q5 _ _ (AV _ _).1 (AV _ _).2).mono ?_;rintro e w' ⟨rfl,rfl⟩;go_wp2;go_ret2;exact⟨EF (by rw[e1];rfl) (by rw[e1];rfl),rfl⟩
   .have HE2:Hid (out=Hx.um s.data.toList p (10-(k+1)) (k+1) (bits .or .u64 x (IntKind.u64.wrap ((s[q].toNat:Int)%128 * 2^(k * 7))))):=by
     show out=_;rw[HN.out,jg (by omega),jg (by omega)]
     rfl
    refine⟨⟨k+1,_,by omega,by go_num,rfl,(AV _ _).1,(AV _ _).2,HE2⟩,?_⟩;simp[intOf];omega
  .have HF:Hid (out=(0,0)):=by
    show out=_;rw[HE.out,show 10-k=0 by omega];rfl
   have hdk:decide ((k:Int)<10)=false:=by simp;omega
   clear HE;go_wp2;go_ret2;exact⟨EF (by rw[HF.out];rfl) (by rw[HF.out];rfl),rfl⟩
theorem aqw(s:ji)(p:Nat)(w:jk)(hs:s.size<=100000)(hp:p<=s.size):
 Calls prog 166 #[.string s,Im p] w λe w'=>e=.returned (.tuple #[Im (Hx.read s.data.toList p).1,Im (Hx.read s.data.toList p).2])/\w'=w:=by
 have hlen:s.data.toList.length=s.size:=by simp
 by_cases h10:s.size-p<=10
 .exact aqB s p (s.size-p) _ w hs (by omega) (by omega) (by omega) (by show _=_;unfold Hx.read;rw[hlen,Nat.min_eq_left h10])
 .exact aqy s p _ w hs (by omega) (by show _=_;unfold Hx.read;rw[hlen,Nat.min_eq_right (by omega)])
end
section
abbrev dX:=@Go.World.frozen?_setCell
end
section
open Go.RowKit
open Hx (St Bk Ls jJ)
section
def wS(s:St):List jm:=[.int .u8 s.op,Im s.a,Im s.b,Im s.c,Im s.d,Im s.depth,Im s.jY]
def rQ(b:Bk):List jm:=[Im b.opener,Im b.other,Im b.jC,Im b.before]
structure jS(B:Nat)(w:jk)(L:Nat)(s:ji)(l:Ls)(vs vb vl:jm):Prop where
 bL:B<=L
 c0:w.cell? (Ad L 0)=some (.string s)
 c1:w.cell? (Ad L 1)=some (Im l.pos)
 c2:w.cell? (Ad L 2)=some vs
 c3:w.cell? (Ad L 3)=some vb
 c4:w.cell? (Ad L 4)=some vl
 c5:w.cell? (Ad L 5)=some (Im l.jD)
 c6:w.cell? (Ad L 6)=some (Im l.jC)
 c7:w.cell? (Ad L 7)=some (.bool l.bad)
 fr:∀j,w.frozen? (Ad L j)=false
 jB:w.ownsRow B 125 7 vs l.jB.length (l.jB.flatMap wS)
 jH:w.ownsRow B 226 4 vb l.jH.length (l.jH.flatMap rQ)
 jV:w.ownsRow B 3 1 vl l.jV.length (l.jV.map (Value.int .i64))
 ns:vs.ownBlock≠some L
 nb:vb.ownBlock≠some L
 nl:vl.ownBlock≠some L
 sb:vs.ownBlock=none\/vs.ownBlock≠vb.ownBlock
 sl:vs.ownBlock=none\/vs.ownBlock≠vl.ownBlock
 bl:vb.ownBlock=none\/vb.ownBlock≠vl.ownBlock
structure jT(L:Nat)(w:jk)(vs vb vl:jm)(w':jk)(vs' kL lC:jm):Prop where
 os:w'.os=w.os
 tape:w'.tape=w.tape
 output:w'.output=w.output
 size:w.heap.size<=w'.heap.size
 block:∀k,k<w.heap.size->k≠L->some k≠vs.ownBlock->some k≠vb.ownBlock->some k≠vl.ownBlock->w'.heap[k]? =w.heap[k]?
 fs:∀g,vs'.ownBlock=some g->vs.ownBlock=some g\/w.heap.size<=g
 fb:∀g,kL.ownBlock=some g->vb.ownBlock=some g\/w.heap.size<=g
 fl:∀g,lC.ownBlock=some g->vl.ownBlock=some g\/w.heap.size<=g
theorem jT.refl(L:Nat)(w:jk)(vs vb vl:jm):jT L w vs vb vl w vs vb vl:=
 ⟨rfl,rfl,rfl,aj _,λ_ _ _ _ _ _=>rfl,λ_ h=>jf h,λ_ h=>jf h,λ_ h=>jf h⟩
theorem jT.trans{L:Nat}{w w1 w2:jk}{vs vb vl vs1 vb1 vl1 vs2 vb2 vl2:jm}(h:jT L w vs vb vl w1 vs1 vb1 vl1)(k:jT L w1 vs1 vb1 vl1 w2 vs2 vb2 vl2):jT L w vs vb vl w2 vs2 vb2 vl2:=by
 have aux:∀{v v1:jm},(∀g,v1.ownBlock=some g->v.ownBlock=some g\/w.heap.size<=g)->∀j,j<w.heap.size->some j≠v.ownBlock->some j≠v1.ownBlock:=λhf j hj hn e=>by
  rcases hf j e.symm with h1|h1
  .exact hn h1.symm
  .omega
 have aux2:∀{v v1 v2:jm},(∀g,v1.ownBlock=some g->v.ownBlock=some g\/w.heap.size<=g)->(∀g,v2.ownBlock=some g->v1.ownBlock=some g\/w1.heap.size<=g)->∀g,v2.ownBlock=some g->v.ownBlock=some g\/w.heap.size<=g:=λh1 h2 g hg=>by
  rcases h2 g hg with h3|h3
  .exact h1 g h3
  .exact je (dH h.size h3)
 refine⟨k.os.trans h.os,k.tape.trans h.tape,k.output.trans h.output,dH h.size k.size,λj hj hL h1 h2 h3=>?_,aux2 h.fs k.fs,aux2 h.fb k.fb,aux2 h.fl k.fl⟩;rw[k.block j (Nat.lt_of_lt_of_le hj h.size) hL (aux h.fs j hj h1) (aux h.fb j hj h2) (aux h.fl j hj h3)];exact h.block j hj hL h1 h2 h3
variable {B:Nat}{w:jk}{L:Nat}{s:ji}{l:Ls}{vs vb vl:jm}
theorem jS.lt(h:jS B w L s l vs vb vl):L<w.heap.size:=World.block_lt_of_cell? w _ h.c0
theorem jS.grow(h:jS B w L s l vs vb vl){w':jk}(hg:w.grownBy w' none):jS B w' L s l vs vb vl:=by
 have hb:=hg.block L h.lt (by simp);have hc:∀j,w'.cell? (Ad L j)=w.cell? (Ad L j):=λj=>bQ hb;have hf:∀j,w'.frozen? (Ad L j)=w.frozen? (Ad L j):=λj=>dZ hb;have hk:∀v:jm,v.ownBlock=none\/v.ownBlock≠none:=λv=>by cases v.ownBlock<;>simp
 exact⟨h.bL,by rw[hc];exact h.c0,by rw[hc];exact h.c1,by rw[hc];exact h.c2,by rw[hc];exact h.c3,by rw[hc];exact h.c4,by rw[hc];exact h.c5,by rw[hc];exact h.c6,by rw[hc];exact h.c7,
  λj=>by rw[hf];exact h.fr j,h.jB.kept hg (hk vs),h.jH.kept hg (hk vb),h.jV.kept hg (hk vl),h.ns,h.nb,h.nl,h.sb,h.sl,h.bl⟩
theorem jS.alloc(h:jS B w L s l vs vb vl)(o:Obj):jS B (w.alloc o) L s l vs vb vl:=h.grow (ah w o none)
theorem jS.drewN(h:jS B w L s l vs vb vl)(n:Nat):jS B (w.drewN n) L s l vs vb vl:=h.grow ⟨rfl,rfl,rfl,aj _,λ_ _ _=>rfl⟩
theorem jT.grow(L:Nat)(w:jk)(vs vb vl:jm){w':jk}(hg:w.grownBy w' none):jT L w vs vb vl w' vs vb vl:=
 ⟨hg.os,hg.tape,hg.output,hg.size,λk hk _ _ _ _=>hg.block k hk (by simp),λ_ h=>jf h,λ_ h=>jf h,λ_ h=>jf h⟩
theorem jS.put(h:jS B w L s l vs vb vl)(j:Nat)(u:jm)(l':Ls)(vs' kL lC:jm)
 (h1:(w.setCell (Ad L j) u).cell? (Ad L 1)=some (Im l'.pos))(h2:(w.setCell (Ad L j) u).cell? (Ad L 2)=some vs')(h3:(w.setCell (Ad L j) u).cell? (Ad L 3)=some kL)
 (h4:(w.setCell (Ad L j) u).cell? (Ad L 4)=some lC)(h5:(w.setCell (Ad L j) u).cell? (Ad L 5)=some (Im l'.jD))(h6:(w.setCell (Ad L j) u).cell? (Ad L 6)=some (Im l'.jC))
 (h7:(w.setCell (Ad L j) u).cell? (Ad L 7)=some (.bool l'.bad))(h0:¬j=0)
 (hs:w.ownsRow B 125 7 vs' l'.jB.length (l'.jB.flatMap wS))(hb:w.ownsRow B 226 4 kL l'.jH.length (l'.jH.flatMap rQ))(hl:w.ownsRow B 3 1 lC l'.jV.length (l'.jV.map (Value.int .i64)))
 (ns:vs'.ownBlock≠some L)(nb:kL.ownBlock≠some L)(nl:lC.ownBlock≠some L)(sb:vs'.ownBlock=none\/vs'.ownBlock≠kL.ownBlock)(sl:vs'.ownBlock=none\/vs'.ownBlock≠lC.ownBlock)(bl:kL.ownBlock=none\/kL.ownBlock≠lC.ownBlock):
 jS B (w.setCell (Ad L j) u) L s l' vs' kL lC:=by
 have hg:=vO w (Ad L j) u;exact⟨h.bL,by rw[bG _ _ _ _ (by intro e;cases e;exact h0 rfl)];exact h.c0,h1,h2,h3,h4,h5,h6,h7,λj'=>by rw[dX];exact h.fr j',
  hs.kept hg (je ns),hb.kept hg (je nb),hl.kept hg (je nl),ns,nb,nl,sb,sl,bl⟩
theorem jT.own(L:Nat)(w:jk)(vs vb vl:jm)(j:Nat)(u:jm):jT L w vs vb vl (w.setCell (Ad L j) u) vs vb vl:=
 ⟨rfl,rfl,rfl,by simp,λk _ hL _ _ _=>bC _ _ _ _ hL,λ_ h=>jf h,λ_ h=>jf h,λ_ h=>jf h⟩
end
section
variable {B:Nat}{w:jk}{L:Nat}{s:ji}{l:Ls}{vs vb vl:jm}
theorem jS.ap6(h:jS B w L s l vs vb vl)(x:Int):jS B (w.setCell (Ad L 5) (Im x)) L s {l with jD:=x} vs vb vl:=by
 have hc:∀k,¬k=5->(w.setCell (Ad L 5) (Im x)).cell? (Ad L k)=w.cell? (Ad L k):=λk hk=>bG _ _ _ _ (by intro e;cases e;exact hk rfl);exact h.put 5 _ _ vs vb vl (by rw[hc 1 (by omega)];exact h.c1) (by rw[hc 2 (by omega)];exact h.c2) (by rw[hc 3 (by omega)];exact h.c3) (by rw[hc 4 (by omega)];exact h.c4) (dB _ _ _ h.c5) (by rw[hc 6 (by omega)];exact h.c6) (by rw[hc 7 (by omega)];exact h.c7) (by omega) h.jB h.jH h.jV h.ns h.nb h.nl h.sb h.sl h.bl
theorem jS.Ig(h:jS B w L s l vs vb vl):jS B (w.setCell (Ad L 7) (.bool true)) L s {l with bad:=true} vs vb vl:=by
 have hc:∀k,¬k=7->(w.setCell (Ad L 7) (.bool true)).cell? (Ad L k)=w.cell? (Ad L k):=λk hk=>bG _ _ _ _ (by intro e;cases e;exact hk rfl);exact h.put 7 _ _ vs vb vl (by rw[hc 1 (by omega)];exact h.c1) (by rw[hc 2 (by omega)];exact h.c2) (by rw[hc 3 (by omega)];exact h.c3) (by rw[hc 4 (by omega)];exact h.c4) (by rw[hc 5 (by omega)];exact h.c5) (by rw[hc 6 (by omega)];exact h.c6) (dB _ _ _ h.c7) (by omega) h.jB h.jH h.jV h.ns h.nb h.nl h.sb h.sl h.bl
theorem ato(h:jS B w L s l vs vb vl)(n:Int)(h0:0<=n)(h1:n<2008):
 Calls prog 167 #[Pt L 0,.int .i32 115,Im n] w λe w'=>e=.returned (.bool true)/\jS B w' L s {l with jD:=max l.jD (n+1)} vs vb vl/\jT L w vs vb vl w' vs vb vl:=by
 have c5:=h.c5;have f5:=h.fr 5;have d1:decide (n<0)=false:=by simpa using h0
 have d2:decide (2008<=n)=false:=by simpa using h1
 have HP:Hid (∀x,x=max l.jD (n+1)->jS B (w.setCell (Ad L 5) (Im x)) L s {l with jD:=max l.jD (n+1)} vs vb vl/\jT L w vs vb vl (w.setCell (Ad L 5) (Im x)) vs vb vl):=by
  intro x hx;refine⟨?_,jT.own _ _ _ _ _ _ _⟩;rw[<-hx];exact h.ap6 _
 generalize hl':({l with jD:=max l.jD (n+1)}:Ls)=l' at *;clear hl';generalize l.jD=sl at *;clear h;go_enter func167,ntmps167;go_wp2;all_goals (go_ret;exact⟨rfl,HP.out _ (by omega)⟩)
theorem atm(h:jS B w L s l vs vb vl)(n:Int)(hn:n<0\/2008<=n):
 Calls prog 167 #[Pt L 0,.int .i32 115,Im n] w λe w'=>e=.returned (.bool false)/\w'=w:=by
 have _h:=h.c5;clear _h h;by_cases h0:n<0
 .have d1:decide (n<0)=true:=by simpa using h0
  go_enter func167,ntmps167;go_wp2;go_ret;exact⟨rfl,rfl⟩
 .have d1:decide (n<0)=false:=by simpa using h0
  have d2:decide (2008<=n)=true:=by simp;omega
  go_enter func167,ntmps167;go_wp2;go_ret;exact⟨rfl,rfl⟩
theorem atn(n:Int)(w:jk)(L:Nat):
 Calls prog 167 #[Pt L 0,.int .i32 108,Im n] w λe w'=>e=.returned (.bool (decide (0<=n/\n<3)))/\w'=w:=by
 by_cases h0:0<=n
 .have d1:decide (0<=n)=true:=by simpa using h0
  go_enter func167,ntmps167;go_wp2;go_ret;exact⟨Ba (by simp[h0]),rfl⟩
 .have d1:decide (0<=n)=false:=by simpa using h0
  go_enter func167,ntmps167;go_wp2;go_ret;exact⟨Ba (by simp),rfl⟩
theorem atl(c n:Int)(w:jk)(L:Nat)(h1:(c==115)=false)(h2:(c==108)=false):
 Calls prog 167 #[Pt L 0,.int .i32 c,Im n] w λe w'=>e=.returned (.bool true)/\w'=w:=by
 go_enter func167,ntmps167;go_wp2;go_ret;exact⟨rfl,rfl⟩
end
section
variable {B:Nat}{w:jk}{L:Nat}{s:ji}{l:Ls}{vs vb vl:jm}{aS:Option Addr}{nS cS g n cap:Nat}
theorem GN(bs:List Bk):(bs.flatMap rQ).length=4 * bs.length:=by
 induction bs with
 |nil=>rfl
 |cons b bs ih=>simp only[c8,aA,ih,aF,rQ,bg];omega
theorem jS.inner(h:jS B w L s l vs vb vl)(hne:l.jH≠[]):
 ∃g cap init b,vb=.slice (some (Ad g 0)) l.jH.length cap/\l.jH=init++[b]/\l.top=b/\¬g=L/\B<=g/\g<w.heap.size/\some g≠vs.ownBlock/\some g≠vl.ownBlock/\
  w.cell? (Ad g (init.length * 4))=some (Im b.opener)/\w.cell? (Ad g (init.length * 4+1))=some (Im b.other)/\
  w.cell? (Ad g (init.length * 4+2))=some (Im b.jC)/\w.cell? (Ad g (init.length * 4+3))=some (Im b.before)/\(∀j,w.frozen? (Ad g j)=false):=by
 obtain⟨init,b,hb⟩:∃init b,l.jH=init++[b]:=⟨_,_,(List.dropLast_concat_getLast hne).symm⟩;have hrow:=h.jH;rcases hrow.2 with⟨h1,h2⟩|⟨g,cap,cur,h1,h2,h3⟩
 .rw[hb]at h2;simp at h2
 .have hlt:=hrow.lt g (by rw[h1];rfl);have hnb:=h.nb;have hsb:=h.sb;have hbl:=h.bl;rw[h1]at hrow hnb hsb hbl;have hcell:∀j,j<4->w.cell? (Ad g (init.length * 4+j))=(rQ b)[j]? :=λj hj=>by
   rw[hrow.cellAt _ (by rw[hb];simp;omega),hb];simp only[gu,c8,dJ,aX];rw[bW (by rw[GN];omega),GN]
   congr 1
   omega
  refine⟨g,cap,init,b,h1,hb,by simp[Hx.Ls.top,hb],λe=>hnb (by rw[<-e];rfl),h2,hlt.2,?_,?_,hcell 0 (by omega),hcell 1 (by omega),hcell 2 (by omega),hcell 3 (by omega),λj=>hrow.frozenAt j⟩
  .rcases hsb with e|e
   .rw[e];simp
   .exactλe'=>e e'.symm
  .rcases hbl with e|e
   .cases e
   .exact e
theorem BX(L g n cap:Nat)(w:jk)(hc:w.cell? (Ad L 3)=some (.slice (some (Ad g 0)) (n+1) cap))(hn:n<=1000000):
 Calls prog 168 #[Pt L 0] w λe w'=>e=.returned (Pt g (n * 4))/\∃k,w'=w.drewN k:=by
 go_enter func168,ntmps168;go_wp2_with fail;go_quiet (fail);go_wp2;go_ret;exact⟨rfl,_,rfl⟩
theorem ajk(init:List Bk)(b:Bk)(x:Int):((init++[b]).flatMap rQ).set (init.length * 4+2) (Im x)=(init++[{b with jC:=x}]).flatMap rQ:=by
 simp only[gu,c8,dJ,aX];rw[iw _ _ (by rw[GN];omega),GN,show init.length * 4+2-4 * init.length=2 by omega]
 rfl
theorem jS.ap4(h:jS B w L s l vs (.slice (some (Ad g 0)) n cap) vl){init:List Bk}{b:Bk}(hb:l.jH=init++[b])(hn:n=l.jH.length)(x:Int):
 jS B (w.setCell (Ad g (init.length * 4+2)) (Im x)) L s {l with jH:=init++[{b with jC:=x}]} vs (.slice (some (Ad g 0)) n cap) vl/\
 jT L w vs (.slice (some (Ad g 0)) n cap) vl (w.setCell (Ad g (init.length * 4+2)) (Im x)) vs (.slice (some (Ad g 0)) n cap) vl:=by
 have uT:¬g=L:=λe=>h.nb (by rw[<-e];rfl);have hc:∀k,(w.setCell (Ad g (init.length * 4+2)) (Im x)).cell? (Ad L k)=w.cell? (Ad L k):=λk=>bG _ _ _ _ (by intro e;cases e;exact uT rfl);have hrow:=h.jH;subst hn;have hst:=hrow.stored (init.length * 4+2) (Im x);rw[show(l.jH.flatMap rQ).set (init.length * 4+2) (Im x)=(init++[{b with jC:=x}]).flatMap rQ by rw[hb];exact ajk init b x]at hst;have hlen:l.jH.length=(init++[{b with jC:=x}]).length:=by rw[hb];simp
 refine⟨⟨h.bL,by rw[hc];exact h.c0,by rw[hc];exact h.c1,by rw[hc];exact h.c2,by rw[hc];exact h.c3,by rw[hc];exact h.c4,by rw[hc];exact h.c5,by rw[hc];exact h.c6,by rw[hc];exact h.c7,λj=>by rw[dX];exact h.fr j,
  h.jB.kept hst.2 (by rcases h.sb with e|e
                      .exact jf e
                      .exact je e),?_,h.jV.kept hst.2 ?_,h.ns,h.nb,h.nl,h.sb,h.sl,h.bl⟩,?_⟩
 .have:=hst.1;rw[hlen]at this⊢;exact this
 .rcases h.bl with e|e
  .cases e
  .exact je (λe'=>e e'.symm)
 .exact⟨rfl,rfl,rfl,by simp,λk _ _ _ h2 _=>bC _ _ _ _ (λe=>h2 (by rw[e];rfl)),λ_ h=>jf h,λ_ h=>jf h,λ_ h=>jf h⟩
theorem OD(h:jS B w L s l vs vb vl)(hne:l.jH≠[])(hlen:l.jH.length<=1000000)(more:Int):
 Calls prog 172 #[Pt L 0,Im more] w λe w'=>e=.returned (.tuple #[])/\jS B w' L s (l.count more) vs vb vl/\jT L w vs vb vl w' vs vb vl:=by
 obtain⟨g,cap,init,b,rfl,hb,htop,uT,hBg,hgw,hgs,hgl,b0,b1,b2,b3,hf⟩:=h.inner hne;have hn:l.jH.length=init.length+1:=by rw[hb];simp
 have HI:Hid (Calls prog 168 #[Pt L 0] w λe w'=>e=.returned (Pt g (init.length * 4))/\∃k,w'=w.drewN k):=
  BX L g init.length cap w (by rw[h.c3,hn]) (by omega)
 have HP:Hid (∀k,jS B ((w.drewN k).setCell (Ad g (init.length * 4+2)) (Im (wrap64 (b.jC+more)))) L s {l with jH:=init++[{b with jC:=wrap64 (b.jC+more)}]} vs (.slice (some (Ad g 0)) l.jH.length cap) vl/\
  jT L w vs (.slice (some (Ad g 0)) l.jH.length cap) vl ((w.drewN k).setCell (Ad g (init.length * 4+2)) (Im (wrap64 (b.jC+more)))) vs (.slice (some (Ad g 0)) l.jH.length cap) vl):=λk=>by
  obtain⟨h1,h2⟩:=(h.drewN k).ap4 hb rfl (wrap64 (b.jC+more));exact⟨h1,(jT.grow L w _ _ _ (w':=w.drewN k) ⟨rfl,rfl,rfl,aj _,λ_ _ _=>rfl⟩).trans h2⟩
 have HC:Hid (l.count more={l with jH:=init++[{b with jC:=wrap64 (b.jC+more)}],bad:=l.bad||decide (40000040<wrap64 (b.jC+more))}):=by
  show l.count more=_;simp[Hx.Ls.count,htop,hb]
 have c7:=h.c7;have f7:=h.fr 7;have f2:=hf (init.length * 4+2);have abM:¬L=g:=λe=>uT e.symm;clear h hne hb htop b0 b1 b3 hf hn hlen;generalize init.length * 4=p at *;by_cases hbad:40000040<wrap64 (b.jC+more)
 .have hd:decide (40000040<wrap64 (b.jC+more))=true:=by simpa using hbad
  have HD:=jA hd;clear hbad;go_enter func172,ntmps172;go_wp2_with fail;refine(HI.out).mono ?_;rintro e w1 ⟨rfl,k,rfl⟩;go_wp2;go_end0;obtain⟨h1,h2⟩:=HP.out k;refine⟨rfl,?_,h2.trans (jT.own _ _ _ _ _ _ _)⟩;rw[HC.out,HD.out];have:=h1.Ig;simpa using this
 .have hd:decide (40000040<wrap64 (b.jC+more))=false:=by simpa using hbad
  have HD:=jA hd;clear hbad;go_enter func172,ntmps172;go_wp2_with fail;refine(HI.out).mono ?_;rintro e w1 ⟨rfl,k,rfl⟩;go_wp2;go_end0;obtain⟨h1,h2⟩:=HP.out k;refine⟨rfl,?_,h2⟩;rw[HC.out,HD.out];simpa using h1
end
end
end Go.Proofs.YthllhabjfchgiaaGreatDoor
