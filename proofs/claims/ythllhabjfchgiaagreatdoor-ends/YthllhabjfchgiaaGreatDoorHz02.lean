import Derived.Test.YthllhabjfchgiaaGreatDoorHz01
import Derived.Laws.IdiomCopy
import Derived.Deep.Slices
import Derived.Deep.Fields
import Derived.Deep.Strs
import Derived.OpenShut
set_option maxRecDepth 100000
set_option maxHeartbeats 8000000
namespace Go.Proofs.YthllhabjfchgiaaGreatDoor
open _root_.Go.Proofs.Tryz
section
open Go.RowKit
open Hx (Rd Pk Vw St Mc aZ)
section
variable {B C:Nat}{w:World}{M SB:Nat}{v:Vw}{m:Mc}
theorem Vb:(prog.info? 3).map (fun i=>(i.zero,i.size,i.bytes))=some (some (Im 0),1,8):=by kernel_rfl
theorem ahd(n:Nat)(hn:n<=100000)(w:World):
 (Instr.makeSlice 91 (Im (n:Int)) (Im (n:Int))).run prog w=.ok (.slice (some (Ad w.heap.size 0)) n n) (w.alloc (.cells (madeCells #[Im 0] n) 3)):=by
 obtain⟨i0,hi0,hz0,hz1,hz2⟩:=info_parts Vb;have:=run_makeSlice (P:=prog) w 91 3 i0 (Im 0) Tryz.underlying91 hi0 hz0 .i64 .i64 n n (by omega) (by omega) (by rw[hz1];simp;omega) (by rw[hz2];omega) (by omega);rw[this,hz1];simp[Value.cells]
def qc(x0 x1 x2 x3 x4 x5 x6 x7:Int):List Value:=[Im x0,Im x1,Im x2,Im x3,Im x4,Im x5,Im x6,Im x7]
def oU(w:World)(ar af aa:Option Addr)(nr cr nf cf na ca:Nat)(x0 x1 x2 x3 x4 x5 x6 x7:Int)(n:Nat)(zs:Array Value):World:=
 (((w.alloc (Obj.cells #[.slice ar nr cr,.slice af nf cf,.slice aa na ca] 25)).alloc
   (Obj.cells #[Im x0,Im x1,Im x2,Im x3,Im x4,Im x5,Im x6,Im x7] 26)).alloc
   (Obj.cells zs 3)).alloc
   (Obj.cells #[.slice ar nr cr,.slice af nf cf,.slice aa na ca,.slice (some (Ad (w.heap.size+1+1) 0)) n n,.int .u64 0,.int .u64 0,.int .u64 0,.int .u64 0,.int .u64 0,.int .u64 0,.int .u64 0,.int .u64 0,Nl] 130)
section
variable (w:World)(ar af aa:Option Addr)(nr cr nf cf na ca:Nat)(x0 x1 x2 x3 x4 x5 x6 x7:Int)(n:Nat)(zs:Array Value)
theorem aeL:(oU w ar af aa nr cr nf cf na ca x0 x1 x2 x3 x4 x5 x6 x7 n zs).heap.size=w.heap.size+4:=by simp[oU]
theorem VZ(k:Nat):(oU w ar af aa nr cr nf cf na ca x0 x1 x2 x3 x4 x5 x6 x7 n zs).cell? (Ad (w.heap.size+1+1+1) k)=#[Value.slice ar nr cr,.slice af nf cf,.slice aa na ca,.slice (some (Ad (w.heap.size+1+1) 0)) n n,.int .u64 0,.int .u64 0,.int .u64 0,.int .u64 0,.int .u64 0,.int .u64 0,.int .u64 0,.int .u64 0,Nl][k]? :=
 World.cell?_alloc_at _ _ _ _ (by simp)
theorem aeJ(k:Nat):(oU w ar af aa nr cr nf cf na ca x0 x1 x2 x3 x4 x5 x6 x7 n zs).frozen? (Ad (w.heap.size+1+1+1) k)=false:=
 World.frozen?_alloc_at _ _ _ _ (by simp)
theorem V4(k:Nat):(oU w ar af aa nr cr nf cf na ca x0 x1 x2 x3 x4 x5 x6 x7 n zs).cell? (Ad (w.heap.size+1+1) k)=zs[k]? :=by
 unfold oU;rw[World.cell?_alloc_past _ _ _ (by simp)];exact World.cell?_alloc_at _ _ _ _ (by simp)
theorem V5(k:Nat):(oU w ar af aa nr cr nf cf na ca x0 x1 x2 x3 x4 x5 x6 x7 n zs).frozen? (Ad (w.heap.size+1+1) k)=false:=by
 unfold oU;rw[World.frozen?_alloc_past _ _ _ (by simp)];exact World.frozen?_alloc_at _ _ _ _ (by simp)
theorem aeK(k:Nat):(oU w ar af aa nr cr nf cf na ca x0 x1 x2 x3 x4 x5 x6 x7 n zs).cell? (Ad (w.heap.size+1) k)=(qc x0 x1 x2 x3 x4 x5 x6 x7)[k]? :=by
 unfold oU;rw[World.cell?_alloc_past _ _ _ (by simp),World.cell?_alloc_past _ _ _ (by simp)];rw[World.cell?_alloc_at _ _ _ _ (by simp)];simp[qc]
theorem V3:w.grownBy (oU w ar af aa nr cr nf cf na ca x0 x1 x2 x3 x4 x5 x6 x7 n zs) none:=by
 unfold oU;have h1:=World.grownBy_alloc w (Obj.cells #[Value.slice ar nr cr,.slice af nf cf,.slice aa na ca] 25) none;exact((h1.trans (World.grownBy_alloc _ _ none)).trans (World.grownBy_alloc _ _ none)).trans (World.grownBy_alloc _ _ none)
end
theorem aeO(ar af aa:Option Addr)(nr cr nf cf na ca:Nat)(x0 x1 x2 x3 x4 x5 x6 x7:Int)(n:Nat)(w:World)(hn:n<=100000)(h8:8<=n):
 Calls prog 49 #[.agg #[.slice ar nr cr,.slice af nf cf,.slice aa na ca],.agg #[Im x0,Im x1,Im x2,Im x3,Im x4,Im x5,Im x6,Im x7],Im n] w fun e w'=>
  e=.returned (Pt (w.heap.size+1+1+1) 0)/\∃k,w'=((oU w ar af aa nr cr nf cf na ca x0 x1 x2 x3 x4 x5 x6 x7 n (madeCells #[Im 0] n)).drewN k).setCells (w.heap.size+1+1) 0 (qc x0 x1 x2 x3 x4 x5 x6 x7):=by
 have km:=fun(w:World)=>ahd n hn w;have hz:(madeCells #[Im 0] n).size=n:=size_madeCells _ _;generalize madeCells #[Im 0] n=zs at *;have h3:=VZ w ar af aa nr cr nf cf na ca x0 x1 x2 x3 x4 x5 x6 x7 n zs 3;have kc:=fun(ty:TypeId)(k:Nat)=>run_copy_cells (P:=prog) ((oU w ar af aa nr cr nf cf na ca x0 x1 x2 x3 x4 x5 x6 x7 n zs).drewN k) 91 91 ty 3 (w.heap.size+1+1) 0 n n (Ad (w.heap.size+1) 0) 8 8 (qc x0 x1 x2 x3 x4 x5 x6 x7)
  Tryz.underlying91 (by kernel_rfl) (by show 8=min 8 n;omega)
  (by
    intro j u hj;have e:((Ad (w.heap.size+1) 0):Addr).add j=(Ad (w.heap.size+1) j):=by unfold Addr.add;split<;>simp_all
    rw[e,World.cell?_drewN,aeK];exact hj)
  (by
    intro j hj;have:j<8:=by simpa [qc]using hj
    rw[World.cell?_drewN,Nat.zero_add,V4];simp;omega)
  (by intro j _;rw[World.frozen?_drewN];exact V5 w ar af aa nr cr nf cf na ca x0 x1 x2 x3 x4 x5 x6 x7 n zs _)
  (by simp[qc,Value.oneCell'])
 simp only[List.getElem?_toArray,List.getElem?_cons_succ,List.getElem?_cons_zero]at h3;go_enter func49,ntmps49;go_wp2_with fail;go_region_held3 (fun w'=>w'.cell? (Ad w.heap.size 0)=some (.slice ar nr cr)/\w'.cell? (Ad w.heap.size 1)=some (.slice af nf cf)/\w'.cell? (Ad w.heap.size 2)=some (.slice aa na ca)) (go_keep) (fail);go_wp2_with fail;rename_i aci kk hkk;clear aci;rw[show((((w.alloc (Obj.cells #[.slice ar nr cr,.slice af nf cf,.slice aa na ca] 25)).alloc
  (Obj.cells #[Im x0,Im x1,Im x2,Im x3,Im x4,Im x5,Im x6,Im x7] 26)).alloc
  (Obj.cells zs 3)).alloc
  (Obj.cells #[.slice ar nr cr,.slice af nf cf,.slice aa na ca,.slice (some (Ad (w.heap.size+1+1) 0)) n n,.int .u64 0,.int .u64 0,.int .u64 0,.int .u64 0,.int .u64 0,.int .u64 0,.int .u64 0,.int .u64 0,Nl] 130))=oU w ar af aa nr cr nf cf na ca x0 x1 x2 x3 x4 x5 x6 x7 n zs from rfl]
 generalize hW:oU w ar af aa nr cr nf cf na ca x0 x1 x2 x3 x4 x5 x6 x7 n zs=W at *;have HW:Hid (oU w ar af aa nr cr nf cf na ca x0 x1 x2 x3 x4 x5 x6 x7 n zs=W):=hW;clear hW;refine xR (w:=W) (k:=1) 5 (by kernel_rfl) (by kernel_rfl) ?_;simp only[List.take_succ_cons,List.take_zero,List.drop_succ_cons,List.drop_zero];repeat (go_big_quiet_step (fail))
 refine wpQuiet_nil ?_;intro _ hw';obtain⟨n3,hw''⟩:=hw';subst hw'';go_wp2;go_ret;exact⟨rfl,n3,by rw[HW.out]⟩
structure ru(B:Nat)(w:World)(ar af aa:Option Addr)(nr nf na:Nat)(v:Vw):Prop where
 ah:Ce B w ar v.ah
 aG:BX B w af v.aG
 aJ:BX B w aa v.aJ
 H8:nr=v.ah.length
 H7:nf=v.aG.length
 H6:na=v.aJ.length
 DC:v.yL
structure Good(v:Vw):Prop where
 Le:v.ah.length<=8
 Ld:v.aG.length<=16
 Lc:v.aJ.length<=16
 ids:∀r∈v.ah,0<=r.id/\r.id<8
def qP(x0 x1 x2 x3 x4 x5 x6 x7:Int)(n:Nat):Mc:=⟨[x0,x1,x2,x3,x4,x5,x6,x7]++List.replicate (n-8) 0,List.replicate 8 0,[]⟩
theorem VK(n k:Nat)(hk:k<n):(madeCells #[Im 0] n)[k]? =some (Im 0):=by
 have:=toList_madeCells_one (Im 0) n;rw[<-Array.getElem?_toList,this];simp[hk]
theorem Xo(x0 x1 x2 x3 x4 x5 x6 x7:Int):∀j (h:j<(qc x0 x1 x2 x3 x4 x5 x6 x7).length),(qc x0 x1 x2 x3 x4 x5 x6 x7)[j]=Im ([x0,x1,x2,x3,x4,x5,x6,x7].getD j 0)
 |0,_=>rfl
 |1,_=>rfl
 |2,_=>rfl
 |3,_=>rfl
 |4,_=>rfl
 |5,_=>rfl
 |6,_=>rfl
 |7,_=>rfl
theorem left_at(a b c d e:Value):∀j,j<8->#[a,b,c,d,Value.int .u64 0,.int .u64 0,.int .u64 0,.int .u64 0,.int .u64 0,.int .u64 0,.int .u64 0,.int .u64 0,e][4+j]? =some (.int .u64 0)
 |0,_=>rfl
 |1,_=>rfl
 |2,_=>rfl
 |3,_=>rfl
 |4,_=>rfl
 |5,_=>rfl
 |6,_=>rfl
 |7,_=>rfl
theorem YN(j:Nat)(n:Nat):(List.replicate n (0:Int)).getD j 0=0:=by
 simp only[List.getD_eq_getElem?_getD,List.getElem?_replicate];split<;>simp
theorem aeI(hB:1<B)(hBw:B<=w.heap.size)(hT:mZ w){ar af aa:Option Addr}{nr cr nf cf na ca:Nat}(hv:ru B w ar af aa nr nf na v)(hg:Good v)(x0 x1 x2 x3 x4 x5 x6 x7:Int)(n:Nat)(h8:8<=n)
 (hx:∀x∈[x0,x1,x2,x3,x4,x5,x6,x7],aZ x)(k:Nat):
 cu B (w.heap.size+4) (((oU w ar af aa nr cr nf cf na ca x0 x1 x2 x3 x4 x5 x6 x7 n (madeCells #[Im 0] n)).drewN k).setCells (w.heap.size+1+1) 0 (qc x0 x1 x2 x3 x4 x5 x6 x7)) (w.heap.size+1+1+1) (w.heap.size+1+1) v (qP x0 x1 x2 x3 x4 x5 x6 x7 n):=by
 generalize hW:oU w ar af aa nr cr nf cf na ca x0 x1 x2 x3 x4 x5 x6 x7 n (madeCells #[Im 0] n)=W;have hsz:W.heap.size=w.heap.size+4:=by rw[<-hW];exact aeL ..
 have acz:∀k,W.cell? (Ad (w.heap.size+1+1+1) k)=#[Value.slice ar nr cr,.slice af nf cf,.slice aa na ca,.slice (some (Ad (w.heap.size+1+1) 0)) n n,.int .u64 0,.int .u64 0,.int .u64 0,.int .u64 0,.int .u64 0,.int .u64 0,.int .u64 0,.int .u64 0,Nl][k]? :=fun k=>by rw[<-hW];exact VZ ..
 have UL:∀k,W.frozen? (Ad (w.heap.size+1+1+1) k)=false:=fun k=>by rw[<-hW];exact aeJ ..
 have UU:∀k,W.cell? (Ad (w.heap.size+1+1) k)=(madeCells #[Im 0] n)[k]? :=fun k=>by rw[<-hW];exact V4 ..
 have acK:∀k,W.frozen? (Ad (w.heap.size+1+1) k)=false:=fun k=>by rw[<-hW];exact V5 ..
 have hold:w.grownBy W none:=by rw[<-hW];exact V3 ..
 clear hW;have Oz:(qc x0 x1 x2 x3 x4 x5 x6 x7).length=8:=rfl;have Kz:∀x:Addr,¬x.block=w.heap.size+1+1->((W.drewN k).setCells (w.heap.size+1+1) 0 (qc x0 x1 x2 x3 x4 x5 x6 x7)).cell? x=W.cell? x:=fun x hx=>by
  rw[World.cell?_setCells_out _ _ _ _ _ (fun e=>absurd e hx),World.cell?_drewN]
 have hfr:∀x:Addr,((W.drewN k).setCells (w.heap.size+1+1) 0 (qc x0 x1 x2 x3 x4 x5 x6 x7)).frozen? x=W.frozen? x:=fun x=>by
  rw[World.frozen?_setCells,World.frozen?_drewN]
 have Ko:∀x:Addr,x.block<w.heap.size->((W.drewN k).setCells (w.heap.size+1+1) 0 (qc x0 x1 x2 x3 x4 x5 x6 x7)).cell? x=w.cell? x:=fun x hx=>by
  rw[Kz x (by omega)];exact World.cell?_of_block (hold.block _ hx (by simp))
 have hM:∀k',((W.drewN k).setCells (w.heap.size+1+1) 0 (qc x0 x1 x2 x3 x4 x5 x6 x7)).cell? (Ad (w.heap.size+1+1+1) k')=#[Value.slice ar nr cr,.slice af nf cf,.slice aa na ca,.slice (some (Ad (w.heap.size+1+1) 0)) n n,.int .u64 0,.int .u64 0,.int .u64 0,.int .u64 0,.int .u64 0,.int .u64 0,.int .u64 0,.int .u64 0,Nl][k']? :=fun k'=>by
  rw[Kz _ (by show¬w.heap.size+1+1+1=_;omega)];exact acz k'
 have hlen:(qP x0 x1 x2 x3 x4 x5 x6 x7 n).aF.length=n:=by simp[qP];omega
 have hget:∀j,j<n->(qP x0 x1 x2 x3 x4 x5 x6 x7 n).aF.getD j 0=[x0,x1,x2,x3,x4,x5,x6,x7].getD j 0:=fun j hj=>by
  simp only[qP,List.getD_eq_getElem?_getD];by_cases h:j<8
  .rw[List.getElem?_append_left (by simpa using h)]
  .rw[List.getElem?_append_right (by simp;omega)];simp[List.getElem?_replicate];split<;>simp_all
 have hsz2:((W.drewN k).setCells (w.heap.size+1+1) 0 (qc x0 x1 x2 x3 x4 x5 x6 x7)).heap.size=w.heap.size+4:=by
  simp[qc,World.setCells,hsz]
 refine⟨⟨?_,?_,?_,hg.Le,hg.Ld,hg.Lc,hg.ids,hv.DC⟩,by omega,by omega,by omega,by omega,by omega,by omega,?_,?_,?_,?_,?_,by simp[qP],?_,?_,?_,?_,?_,hB⟩
 .refine⟨ar,cr,by rw[hM 0,<-hv.H8];rfl,fun i r hr=>?_⟩;obtain⟨b,o,e,hb,hp⟩:=hv.ah i r hr;exact⟨b,o,e,hb,hp.aN hb (fun x hx=>Ko x (by omega))⟩
 .refine⟨af,cf,by rw[hM 1,<-hv.H7];rfl,fun i r hr=>?_⟩;obtain⟨b,o,e,hb,hp⟩:=hv.aG i r hr;exact⟨b,o,e,hb,hp.aN hb (fun x hx=>Ko x (by omega))⟩
 .refine⟨aa,ca,by rw[hM 2,<-hv.H6];rfl,fun i r hr=>?_⟩;obtain⟨b,o,e,hb,hp⟩:=hv.aJ i r hr;exact⟨b,o,e,hb,hp.aN hb (fun x hx=>Ko x (by omega))⟩
 .rw[hM 3,hlen];rfl
 .intro j hj;rw[hlen]at hj;rw[hget j hj];by_cases h:j<8
  .have:=World.cell?_setCells_in (w.heap.size+1+1) (qc x0 x1 x2 x3 x4 x5 x6 x7) 0 (W.drewN k) (fun j' hj'=>by
    rw[Oz]at hj';rw[World.cell?_drewN,Nat.zero_add,UU,VK n j' (by omega)];rfl) j (by rw[Oz];exact h)
   rw[Nat.zero_add]at this;rw[this,Xo]
  .rw[World.cell?_setCells_out _ _ _ _ _ (fun _ _=>Or.inr (by rw[Oz];show 0+8<=j;omega)),World.cell?_drewN,UU,VK n j hj];simp[List.getD_eq_getElem?_getD,List.getElem?_eq_none (show[x0,x1,x2,x3,x4,x5,x6,x7].length<=j by simp;omega)]
 .intro j _;rw[hfr];exact acK j
 .intro j hj;rw[hM,left_at _ _ _ _ _ j hj];exact congrArg (fun z=>some (Value.int .u64 z)) (YN j 8).symm
 .intro j _;rw[hfr];exact UL _
 .exact⟨Nl,by rw[hM];rfl,World.ownsRow_nil _ _ _ _⟩
 .rw[hfr];exact UL _
 .intro j;by_cases h:j<n
  .rw[hget j h,List.getD_eq_getElem?_getD];cases hq:[x0,x1,x2,x3,x4,x5,x6,x7][j]?with
   |none=>exact Hx.tq
   |some y=>exact hx y (List.mem_of_getElem? hq)
  .rw[List.getD_eq_getElem?_getD,List.getElem?_eq_none (by omega)];exact Hx.tq
 .intro j;have:(qP x0 x1 x2 x3 x4 x5 x6 x7 n).left.getD j 0=0:=YN j 8;rw[this];omega
 .intro j hj;rw[Ko _ (by show 1<_;omega)];exact hT j hj
theorem aeM(ar af aa:Option Addr)(nr cr nf cf na ca:Nat)(x0 x1 x2 x3 x4 x5 x6 x7:Int)(n:Nat)(w:World)(hn:n<=100000)(h8:8<=n):
 Calls prog 49 #[.agg #[.slice ar nr cr,.slice af nf cf,.slice aa na ca],.agg #[Im x0,Im x1,Im x2,Im x3,Im x4,Im x5,Im x6,Im x7],Im n] w fun e w'=>
  e=.returned (Pt (w.heap.size+1+1+1) 0)/\Below w.heap.size w w'/\
  (∀B v,1<B->B<=w.heap.size->mZ w->ru B w ar af aa nr nf na v->Good v->(∀x∈[x0,x1,x2,x3,x4,x5,x6,x7],aZ x)->
    cu B (w.heap.size+4) w' (w.heap.size+1+1+1) (w.heap.size+1+1) v (qP x0 x1 x2 x3 x4 x5 x6 x7 n)):=by
 refine(aeO ar af aa nr cr nf cf na ca x0 x1 x2 x3 x4 x5 x6 x7 n w hn h8).mono ?_;rintro e w' ⟨rfl,k,rfl⟩;refine⟨rfl,?_,fun B v h1 h2 h3 h4 h5 h6=>aeI h1 h2 h3 h4 h5 x0 x1 x2 x3 x4 x5 x6 x7 n h8 h6 k⟩;have h1:Below w.heap.size w (oU w ar af aa nr cr nf cf na ca x0 x1 x2 x3 x4 x5 x6 x7 n (madeCells #[Im 0] n)):=(Below.refl _ _).grown (V3 ..) (Nat.le_refl _) (by simp);have h2:=below_drewN h1 k;simp only[qc,World.setCells];repeat (refine Below.setCell ?_ (by show w.heap.size<=w.heap.size+1+1;omega) _)
 exact h2
end
end
section
open Go.ChangeShapes Go.WideShapes Go.Deep
section
section
variable {H:Type}{enc:TypeId×Value->H}{P:Program}{w:World}{base:Nat}{spare:Nat->Bool}{held:Bool}
theorem aiB{t e:TypeId}{fs:Array Field}{fuel:Nat}{cs:List Value}{x:DataW H×List MemPlace}(ht:P.underlying t=some (.slice e))(he:P.underlying e=some (.struct fs))
 (hone:∀(i:Nat)(f:Field),fs[i]? =some f->f.offset=i/\P.cellsOf f.type=1)(ce:P.cellsOf e=fs.size)(h:DataW.trod enc P w base spare held fuel t cs=some x):
 cs=[Nl]\/∃(a:Addr)(len cap:Nat),cs=[.slice (some a) len cap]/\len<=cap/\cap<=maxLen/\
  ∀i,i<len->∀(j:Nat)(f:Field),fs[j]? =some f->∃v y n,w.cell? (a.add (i * fs.size+j))=some v/\DataW.trod enc P w base spare held n f.type [v]=some y:=by
 rcases open_slice ht h with⟨h0,_⟩|⟨a,len,cap,m,n,D,Pl,rfl,hb,hl,hm,hmm,rfl,hx⟩
 .exact Or.inl h0
 refine Or.inr ⟨a,len,cap,rfl,hl,hm,fun i hi j f hf=>?_⟩;have hlm:len<=m:=by rw[hmm];split<;>omega
 obtain⟨cs',h1,h2⟩:=hx i (by omega);rw[ce]at h1;obtain⟨_,hlen,hcell⟩:=World.cells?_some h1;obtain⟨xs,k,hk,hxy,_,hxl,hg⟩:=DataW.trod_struct he h2;obtain⟨o1,c1⟩:=hone j f hf;have hj:j<fs.size:=(Array.getElem?_eq_some_iff.1 hf).1;have g:=hg j f hf;rw[o1,c1,take1_drop cs' j (.bool false) (by omega),List.getElem?_eq_getElem (by omega)]at g;have e1:=hcell j (by omega);rw[add_add,List.getElem?_eq_getElem (by omega)]at e1;refine⟨cs'.getD j (.bool false),xs[j],k,?_,g⟩;rw[e1];simp[List.getD,List.getElem?_eq_getElem (show j<cs'.length by omega)]
theorem KJ{n:Int}(h:(Lit.int .i64 n).wf=true):Hx.aZ n:=bounds_i64 h
theorem afI{t e:TypeId}{f0 f1 f2:Field}{fuel:Nat}{cs:List Value}{x:DataW H×List MemPlace}(ht:P.underlying t=some (.slice e))(he:P.underlying e=some (.struct #[f0,f1,f2]))
 (hone:oneCellFields P #[f0,f1,f2]=true)(ce:P.cellsOf e=3)(i0:P.underlying f0.type=some (.int .i64))(i1:P.underlying f1.type=some (.int .i64))(i2:P.underlying f2.type=some (.int .i64))
 (h:DataW.trod enc P w base spare held fuel t cs=some x):
 ∃(a:Option Addr)(len cap:Nat)(rs:List Hx.Pk),cs=[.slice a len cap]/\len<=maxLen/\rs.length=len/\BX w.heap.size w a rs/\∀r∈rs,Hx.aZ r.seq/\Hx.aZ r.size/\Hx.aZ r.on:=by
 rcases aiB ht he (hone_of hone) ce h with rfl|⟨a,len,cap,rfl,hl,hm,hx⟩
 .exact⟨none,0,0,[],rfl,Nat.zero_le _,rfl,fun i r hr=>by simp at hr,fun r hr=>by simp at hr⟩
 have each:∀i,i<len->∃r:Hx.Pk,(w.cell? (a.add (i * 3))=some (Im r.seq)/\w.cell? (a.add (i * 3+1))=some (Im r.size)/\w.cell? (a.add (i * 3+2))=some (Im r.on))/\
  Hx.aZ r.seq/\Hx.aZ r.size/\Hx.aZ r.on:=by
  intro i hi;obtain⟨v0,y0,n0,c0,t0⟩:=hx i hi 0 f0 rfl;obtain⟨v1,y1,n1,c1,t1⟩:=hx i hi 1 f1 rfl;obtain⟨v2,y2,n2,c2,t2⟩:=hx i hi 2 f2 rfl;obtain⟨z0,e0,_,r0⟩:=DataW.trod_int i0 t0;obtain⟨z1,e1,_,r1⟩:=DataW.trod_int i1 t1;obtain⟨z2,e2,_,r2⟩:=DataW.trod_int i2 t2;cases e0;cases e1;cases e2;exact⟨⟨z0,z1,z2⟩,⟨c0,c1,c2⟩,KJ r0,KJ r1,KJ r2⟩
 haveI:Inhabited Hx.Pk:=⟨⟨0,0,0⟩⟩
 obtain⟨g,hg⟩:=choose_lt each;refine⟨some a,len,cap,(List.range len).map g,rfl,by omega,by simp,?_,?_⟩
 .intro i r hr;simp only[List.getElem?_map,Option.map_eq_some_iff]at hr;obtain⟨k,hk,rfl⟩:=hr;obtain⟨hi,rfl⟩:i<len/\i=k:=by
   obtain⟨h1,h2⟩:=List.getElem?_eq_some_iff.1 hk;simp at h1 h2;exact⟨h1,h2⟩
  obtain⟨⟨c0,c1,c2⟩,_⟩:=hg i hi;obtain⟨b,o,spot⟩:=a;have hspot:spot=none:=by simpa [Addr.add]using World.cell?_spot (hg 0 (by omega)).1.1
  subst hspot;have hb:=World.block_lt_of_cell? w _ c0;rw[add_plain]at c0 c1 c2 hb;exact⟨b,o,rfl,hb,_,_,rfl,c0,by simpa [Nat.add_assoc]using c1,by simpa [Nat.add_assoc]using c2⟩
 .intro r hr;obtain⟨k,hk,rfl⟩:=List.mem_map.1 hr;exact(hg k (List.mem_range.1 hk)).2
end
end
end
namespace Hx
open Go.RowKit
def push(v:Vw)(i j:Int)(m:Mc):Option Mc:=
 match v.aK i,v.pW j with
 |some r,some p=>if m.aY.length=256 then none else some {m with aY:=m.aY++[(r.id,p.seq)]}
 |_,_=>some m
structure Out where
 status:Int
 bG:List Int
 aY:List (Int×Int)
def step(v:Vw)(ay:List St)(bG:List Int)(k:Nat)(s:St)(m:Mc):Out⊕(Int×Mc):=
 if s.op=1 then .inl ⟨0,m.aF,m.aY⟩
 else if s.op=2 then .inr (if m.get s.a=0 then s.to else k+1,m)
 else if s.op=3 then .inr (s.to,m)
 else if s.op=4 then .inr ((turn s k (qp v s m)).2,(turn s k (qp v s m)).1)
 else if s.op=5 then (if m.get s.a=0 then match ay[s.to.toNat]?with
  |some l=>.inr ((turn l s.to m).2,(turn l s.to m).1)
  |none=>.inl ⟨2,bG,[]⟩
  else .inr (k+1,m))
 else if s.op=0 then match ay[s.to.toNat]?with
  |some l=>.inr ((turn l s.to m).2,(turn l s.to m).1)
  |none=>.inl ⟨2,bG,[]⟩
 else if s.op=36 then match push v (m.get s.a) (m.get s.b) m with
  |none=>.inl ⟨1,bG,[]⟩
  |some m'=>.inr (k+1,m')
 else .inr (k+1,work v s m)
def runs(v:Vw)(ay:List St)(bG:List Int):Nat->Int->Mc->Out
 |0,_,_=>⟨2,bG,[]⟩
 |f+1,k,m=>match ay[k.toNat]?with
  |none=>⟨2,bG,[]⟩
  |some s=>match step v ay bG k.toNat s m with
   | .inl o=>o
   | .inr (k',m')=>runs v ay bG f k' m'
def O4(ay:List St)(n:Nat)(x:Int):Prop:=
 ∃l,0<=x/\ay[x.toNat]? =some l/\x+1<ay.length/\0<=l.to/\l.to<ay.length/\St.slot n l.b/\0<=l.depth/\l.depth<8
structure St.fits(ay:List St)(n:Nat)(k:Nat)(s:St):Prop where
 u8:0<=s.op/\s.op<=255
 next:¬s.op=1->¬s.op=3->¬s.op=0->k+1<ay.length
 ifs:s.op=2->St.slot n s.a/\0<=s.to/\s.to<ay.length
 aa9:s.op=3->0<=s.to/\s.to<ay.length
 bH:s.op=4->0<=s.to/\s.to<ay.length/\St.slot n s.b/\St.slot n s.c/\0<=s.depth/\s.depth<8
 FB:s.op=5->St.slot n s.a/\O4 ay n s.to
 ends:s.op=0->O4 ay n s.to
 Dw:s.op=36->St.slot n s.a/\St.slot n s.b
 DV:¬s.op=1->¬s.op=2->¬s.op=3->¬s.op=4->¬s.op=5->¬s.op=0->¬s.op=36->s.ML n
structure Fits(ay:List St)(n:Nat):Prop where
 pos:0<ay.length
 len:ay.length<=1000000
 each:∀(k:Nat)(s:St),ay[k]? =some s->s.fits ay n k
def shape(o:Int):List UInt8:=
 if o=0\/o=1\/o=3 then []else if o=2\/o=5 then [115]else if o=6 then [115,110]else if o=21 then [115,108]
 else if o=7\/o=8\/o=9\/o=22\/o=23\/o=24\/o=27\/o=28\/o=29\/o=30\/o=31\/o=32\/o=33\/o=34\/o=36 then [115,115]
 else if o=4 then [108,115,115]
 else if o=10\/o=11\/o=12\/o=13\/o=14\/o=15\/o=16\/o=17\/o=18\/o=19\/o=20\/o=35 then [115,115,115]
 else if o=25\/o=26 then [115,115,115,115]else []
def Bf(o:Int):Bool:=decide (0<=o/\o<=36)
def signed(x:Int):Int:=if bits .and .u64 x 1==1 then bits .xor .i64 (-1) (x/2)else x/2
def qE(s:List UInt8)(p:Nat):Nat->Nat->Int->Int×Int
 |0,_,_=>(0,0)
 |r+1,i,acc=>
  if i=9/\1<(s.getD (p+i) 0).toNat then (0,0)
  else if (s.getD (p+i) 0).toNat<128 then (signed (bits .or .u64 acc (IntKind.u64.wrap (((s.getD (p+i) 0).toNat%128:Nat) * 2^(i * 7)))),i+1)
  else qE s p r (i+1) (bits .or .u64 acc (IntKind.u64.wrap (((s.getD (p+i) 0).toNat%128:Nat) * 2^(i * 7))))
def read(s:List UInt8)(p:Nat):Int×Int:=qE s p (min (s.length-p) 10) 0 0
def oQ(l:Int):Int:=if l=0 then 8 else 16
structure Bk where
 kQ:Int
 other:Int
 need:Int
 before:Int
structure Ls where
 pos:Int
 ay:List St
 aI:List Bk
 bH:List Int
 aF:Int
 need:Int
 bad:Bool
def Ls.dM(l:Ls):Bk:=l.aI.getLastD ⟨0,0,0,0⟩
def Ls.count(l:Ls)(more:Int):Ls:=
 {l with aI:=l.aI.dropLast++[{l.dM with need:=wrap64 (l.dM.need+more)}],bad:=l.bad||decide (40000040<wrap64 (l.dM.need+more))}
end Hx
section
open Go.RowKit
open Hx (St Bk Ls aZ)
def fE(l:Ls)(st:St):Ls:=Hx.Ls.count {l with ay:=l.ay++[st]} 1
def sD(l:Ls)(st:St):Ls:={fE l st with aI:=(fE l st).aI++[⟨l.ay.length,0,0,0⟩]}
theorem Gp(l:Ls)(st:St):(fE l st).ay=l.ay++[st]:=rfl
theorem Jz(l:Ls)(st:St)(hne:l.aI≠[]):(fE l st).aI.length=l.aI.length:=by
 have:0<l.aI.length:=List.length_pos_iff.2 hne;simp[fE,Hx.Ls.count];omega
def IQ(l:Ls)(st:St):Ls:=if l.bH=[]then {l with bad:=true}else fE l {st with to:=l.bH.getLastD 0}
def EO(l:Ls)(st:St):Ls:={sD l {st with depth:=l.bH.length}with bH:=l.bH++[(l.ay.length:Int)]}
def oP(l:Ls)(p:Nat)(st:St)(init:List Bk)(b:Bk):Ls:=Hx.Ls.count {l with ay:=l.ay.set p {st with to:=l.ay.length},aI:=init} (max b.need b.before)
def xk(l:Ls):Ls:={fE l ⟨1,0,0,0,0,0,0⟩with need:=(fE l ⟨1,0,0,0,0,0,0⟩).dM.need,aI:=[]}
def Ew(l1:Ls)(p:Nat)(sp:St):Ls:=
 Hx.Ls.count {l1 with aI:=l1.aI.dropLast,bH:=l1.bH.dropLast,ay:=l1.ay.set p {sp with to:=l1.ay.length}} (wrap64 (Hx.oQ sp.a * l1.dM.need))
def xq(l:Ls)(st:St)(p:Nat)(sp:St):Ls:=Ew (fE l {st with to:=p}) p sp
def Et(l1:Ls)(ns p:Nat)(sp:St):Ls:=
 {l1 with aI:=l1.aI.dropLast++[⟨l1.dM.kQ,ns,0,l1.dM.need⟩],ay:=l1.ay.set p {sp with to:=l1.ay.length}}
def AY(l:Ls)(st:St)(p:Nat)(sp:St):Ls:=Et (fE l st) l.ay.length p sp
theorem ZN(l:Ls)(st:St):(fE l st).dM={l.dM with need:=wrap64 (l.dM.need+1)}:=by
 simp[fE,Hx.Ls.count,Hx.Ls.dM]
def dH(l:Ls)(s:St):Ls:=
 if s.op=2 then sD l s
 else if s.op=4 then (if l.bH.length=8 then {l with bad:=true}else EO l s)
 else if s.op=3 then
  (if l.aI.length=1\/0<l.dM.other then {l with bad:=true}else match l.ay[l.dM.kQ.toNat]?with
    |none=>{l with bad:=true}
    |some sp=>if sp.op=2 then AY l s l.dM.kQ.toNat sp else {l with bad:=true})
 else if s.op=0 then
  (if l.aI.length=1 then xk l else match l.ay[l.dM.kQ.toNat]?with
    |none=>{l with bad:=true}
    |some sp=>
     if sp.op=4 then xq l s l.dM.kQ.toNat sp
     else if 0<l.dM.other then match l.ay[l.dM.other.toNat]?with
      |none=>{l with bad:=true}
      |some sr=>oP l l.dM.other.toNat sr l.aI.dropLast l.dM
     else oP l l.dM.kQ.toNat sp l.aI.dropLast l.dM)
 else if s.op=5 then IQ l s
 else fE l s
def rE(bs:List UInt8):List UInt8->Nat->Int->Option (List Int×Nat×Int)
 |[],p,sl=>some ([],p,sl)
 |c::cs,p,sl=>
  if (Hx.read bs p).2=0 then none
  else if c=115/\((Hx.read bs p).1<0\/2008<=(Hx.read bs p).1)then none
  else if c=108/\¬(0<=(Hx.read bs p).1/\(Hx.read bs p).1<3)then none
  else (rE bs cs (p+(Hx.read bs p).2.toNat) (if c=115 then max sl ((Hx.read bs p).1+1)else sl)).map fun r=>((Hx.read bs p).1::r.1,r.2)
def sG(bs:List UInt8)(l:Ls):Option (St×Ls):=
 match bs[l.pos.toNat]?with
 |none=>none
 |some o=>if Hx.Bf o.toNat then match rE bs (Hx.shape o.toNat) (l.pos.toNat+1) l.aF with
   |none=>none
   |some (ns,p,sl)=>some (⟨o.toNat,ns.getD 0 0,ns.getD 1 0,ns.getD 2 0,ns.getD 3 0,0,0⟩,{l with pos:=p,aF:=sl})
  else none
def pK:Ls:=⟨0,[],[⟨0,0,0,0⟩],[],8,0,false⟩
def su(bs:List UInt8):Nat->Ls->Ls
 |0,l=>l
 |f+1,l=>if l.aI=[]\/l.bad=true then l else match sG bs l with
  |none=>{l with bad:=true}
  |some (s,l')=>su bs f (dH l' s)
def eF(bs:List UInt8):Ls:=su bs (bs.length+1) pK
def takes(bs:List UInt8):Bool:=decide (bs.length<=100000)&& !(eF bs).bad&&decide ((eF bs).pos=bs.length)
end
section
open Go.RowKit
theorem Ai{a a' b b':Value}(h1:a=a')(h2:b=b'):Ending.returned (.tuple #[a,b])=.returned (.tuple #[a',b']):=by rw[h1,h2]
theorem adR(l:Int)(w:World):
 Calls prog 210 #[Im l] w fun e w'=>e=.returned (Im (Hx.oQ l))/\w'=w:=by
 by_cases h:l=0
 .subst h;go_enter func210,ntmps210;go_wp2;go_ret;exact⟨rfl,rfl⟩
 .have h':(l==0)=false:=by simpa using h
  go_enter func210,ntmps210;go_wp2;go_ret;exact⟨tX (by simp[Hx.oQ,h]),rfl⟩
theorem ahW(o:Int)(w:World)(h0:0<=o):
 Calls prog 165 #[.int .u8 o] w fun e w'=>e=.returned (.tuple #[.string ⟨(Hx.shape o).toArray⟩,.bool (Hx.Bf o)])/\w'=w:=by
 go_enter func165,ntmps165;go_wp2;all_goals (go_ret2;refine⟨Ai ?_ ?_,rfl⟩)
 all_goals (simp only[beq_iff_eq,beq_eq_false_iff_ne,ne_eq]at *)
 all_goals first|(subst_vars;rfl)|skip
 .simp[Hx.shape, *]
 .have e:Hx.Bf o=false:=by
   simp only[Hx.Bf,decide_eq_false_iff_not];omega
  rw[e]
  rfl
theorem Md(x:Int)(w:World)(h0:0<=x)(h1:x<18446744073709551616):
 Calls prog 209 #[.int .u64 x] w fun e w'=>e=.returned (Im (Hx.signed x))/\w'=w:=by
 unfold Hx.signed;generalize hz:(bits .and .u64 x 1==1)=z;cases z with
 |false=>
  go_enter func209,ntmps209;go_wp2;go_ret;exact⟨rfl,rfl⟩
 |true=>
  go_enter func209,ntmps209;go_wp2;go_ret;exact⟨rfl,rfl⟩
theorem wo(x y:Int):0<=bits .or .u64 x y/\bits .or .u64 x y<18446744073709551616:=⟨bits_lo_u64 _ _ _,by have:=bits_hi_u64 .or x y;omega⟩
theorem agM(s:ByteArray)(p r:Nat)(out:Int×Int)(w:World)(hs:s.size<=100000)(a1:(r:Int)<=(s.size:Int)-(p:Int))(a2:(s.size:Int)-(p:Int)<=(r:Int))(a3:(s.size:Int)-(p:Int)<=10)
 (HR:Hid (out=Hx.qE s.data.toList p r 0 0)):
 Calls prog 166 #[.string s,Im p] w fun e w'=>e=.returned (.tuple #[Im out.1,Im out.2])/\w'=w:=by
 go_enter func166,ntmps166;go_wp2;go_loop [6,14] (fun acc i=>∃(k:Nat)(x:Int),k<=r/\i=Im k/\acc=.int .u64 x/\0<=x/\x<18446744073709551616/\Hid (out=Hx.qE s.data.toList p (r-k) k x)) (fun _ i=>r-(intOf i).toNat)
 case atStart=>exact⟨0,0,Nat.zero_le _,rfl,rfl,by omega,by omega,HR⟩
 case round=>
  obtain⟨k,x,hk,rfl,rfl,hx0,hx1,HE⟩:=hrel;clear HR;by_cases hlt:k<r
  .obtain⟨q,hqe⟩:∃q,p+k=q:=⟨_,rfl⟩;have hq:q<s.size:=by omega
   have hpk:(p:Int)+(k:Int)=(q:Int):=by omega
   have hq0:(0:Int)<=(q:Int):=by omega
   have hq1:(q:Int)<(s.size:Int):=by omega
   have HN:Hid (out=if k=9/\1<s[q].toNat then (0,0)
    else if s[q].toNat<128 then (Hx.signed (bits .or .u64 x (IntKind.u64.wrap ((s[q].toNat%128:Nat) * 2^(k * 7)))),(k:Int)+1)
    else Hx.qE s.data.toList p (r-(k+1)) (k+1) (bits .or .u64 x (IntKind.u64.wrap ((s[q].toNat%128:Nat) * 2^(k * 7))))):=by
    show out=_;have hb:s.data.toList.getD (p+k) 0=s[q]:=by
     subst hqe;have:(p+k)<s.data.toList.length:=by simpa using hq
     rw[List.getD_eq_getElem?_getD,List.getElem?_eq_getElem this]
     rfl
    obtain⟨r',hr'⟩:∃r',r-k=r'+1:=⟨r-k-1,by omega⟩;rw[HE.out,hr',Hx.qE,hb,show r-(k+1)=r' by omega]
   clear HE hqe;have hdk:decide ((k:Int)<(s.size:Int)-(p:Int))=true:=by simp;omega
   go_wp2_with fail
   .have e1:out=(0,0):=by
     rw[HN.out,if_pos ⟨by omega,by omega⟩]
    go_ret2;exact⟨Ai (by rw[e1];rfl) (by rw[e1];rfl),rfl⟩
   .have k9:k=9:=by omega
    have e1:out=(Hx.signed (bits .or .u64 x ((s[q].toNat:Int)%128 * 9223372036854775808)),10):=by
     rw[HN.out,if_neg (by omega),if_pos (by omega)];have e2:IntKind.u64.wrap (((s[q].toNat%128:Nat):Int) * 2^(k * 7))=(s[q].toNat:Int)%128 * 9223372036854775808:=by
      rw[k9,IntKind.wrap_u64];omega
     rw[e2,k9]
     rfl
    refine(Md _ _ (wo _ _).1 (wo _ _).2).mono ?_;rintro e w' ⟨rfl,rfl⟩;go_wp2;go_ret2;exact⟨Ai (by rw[e1];rfl) (by rw[e1];rfl),rfl⟩
   .have e1:out=(Hx.signed (bits .or .u64 x (IntKind.u64.wrap ((s[q].toNat:Int)%128 * 2^(k * 7)))),(k:Int)+1):=by
     rw[HN.out,if_neg (by omega),if_pos (by omega)]
     rfl
    refine(Md _ _ (wo _ _).1 (wo _ _).2).mono ?_;rintro e w' ⟨rfl,rfl⟩;go_wp2;go_ret2;exact⟨Ai (by rw[e1];rfl) (by rw[e1];rfl),rfl⟩
   .have HE2:Hid (out=Hx.qE s.data.toList p (r-(k+1)) (k+1) (bits .or .u64 x (IntKind.u64.wrap ((s[q].toNat:Int)%128 * 2^(k * 7))))):=by
     show out=_;rw[HN.out,if_neg (by omega),if_neg (by omega)]
     rfl
    refine⟨⟨k+1,_,by omega,by go_num,rfl,(wo _ _).1,(wo _ _).2,HE2⟩,?_⟩;simp[intOf];omega
  .have HF:Hid (out=(0,0)):=by
    show out=_;rw[HE.out,show r-k=0 by omega];rfl
   have hdk:decide ((k:Int)<(s.size:Int)-(p:Int))=false:=by simp;omega
   clear HE;go_wp2;go_ret2;exact⟨Ai (by rw[HF.out];rfl) (by rw[HF.out];rfl),rfl⟩
theorem agK(s:ByteArray)(p:Nat)(out:Int×Int)(w:World)(hs:s.size<=100000)(a1:10<(s.size:Int)-(p:Int))
 (HR:Hid (out=Hx.qE s.data.toList p 10 0 0)):
 Calls prog 166 #[.string s,Im p] w fun e w'=>e=.returned (.tuple #[Im out.1,Im out.2])/\w'=w:=by
 go_enter func166,ntmps166;go_wp2;go_loop [6,14] (fun acc i=>∃(k:Nat)(x:Int),k<=10/\i=Im k/\acc=.int .u64 x/\0<=x/\x<18446744073709551616/\Hid (out=Hx.qE s.data.toList p (10-k) k x)) (fun _ i=>10-(intOf i).toNat)
 case atStart=>exact⟨0,0,Nat.zero_le _,rfl,rfl,by omega,by omega,HR⟩
 case round=>
  obtain⟨k,x,hk,rfl,rfl,hx0,hx1,HE⟩:=hrel;clear HR;by_cases hlt:k<10
  .obtain⟨q,hqe⟩:∃q,p+k=q:=⟨_,rfl⟩;have hq:q<s.size:=by omega
   have hpk:(p:Int)+(k:Int)=(q:Int):=by omega
   have hq0:(0:Int)<=(q:Int):=by omega
   have hq1:(q:Int)<(s.size:Int):=by omega
   have HN:Hid (out=if k=9/\1<s[q].toNat then (0,0)
    else if s[q].toNat<128 then (Hx.signed (bits .or .u64 x (IntKind.u64.wrap ((s[q].toNat%128:Nat) * 2^(k * 7)))),(k:Int)+1)
    else Hx.qE s.data.toList p (10-(k+1)) (k+1) (bits .or .u64 x (IntKind.u64.wrap ((s[q].toNat%128:Nat) * 2^(k * 7))))):=by
    show out=_;have hb:s.data.toList.getD (p+k) 0=s[q]:=by
     subst hqe;have:(p+k)<s.data.toList.length:=by simpa using hq
     rw[List.getD_eq_getElem?_getD,List.getElem?_eq_getElem this]
     rfl
    obtain⟨r',hr'⟩:∃r',10-k=r'+1:=⟨10-k-1,by omega⟩;rw[HE.out,hr',Hx.qE,hb,show 10-(k+1)=r' by omega]
   clear HE hqe;have hdk:decide ((k:Int)<10)=true:=by simp;omega
   go_wp2_with fail
   .have e1:out=(0,0):=by
     rw[HN.out,if_pos ⟨by omega,by omega⟩]
    go_ret2;exact⟨Ai (by rw[e1];rfl) (by rw[e1];rfl),rfl⟩
   .have k9:k=9:=by omega
    have e1:out=(Hx.signed (bits .or .u64 x ((s[q].toNat:Int)%128 * 9223372036854775808)),10):=by
     rw[HN.out,if_neg (by omega),if_pos (by omega)];have e2:IntKind.u64.wrap (((s[q].toNat%128:Nat):Int) * 2^(k * 7))=(s[q].toNat:Int)%128 * 9223372036854775808:=by
      rw[k9,IntKind.wrap_u64];omega
     rw[e2,k9]
     rfl
    refine(Md _ _ (wo _ _).1 (wo _ _).2).mono ?_;rintro e w' ⟨rfl,rfl⟩;go_wp2;go_ret2;exact⟨Ai (by rw[e1];rfl) (by rw[e1];rfl),rfl⟩
   .have e1:out=(Hx.signed (bits .or .u64 x (IntKind.u64.wrap ((s[q].toNat:Int)%128 * 2^(k * 7)))),(k:Int)+1):=by
     rw[HN.out,if_neg (by omega),if_pos (by omega)]
     rfl
    refine(Md _ _ (wo _ _).1 (wo _ _).2).mono ?_;rintro e w' ⟨rfl,rfl⟩;go_wp2;go_ret2;exact⟨Ai (by rw[e1];rfl) (by rw[e1];rfl),rfl⟩
   .have HE2:Hid (out=Hx.qE s.data.toList p (10-(k+1)) (k+1) (bits .or .u64 x (IntKind.u64.wrap ((s[q].toNat:Int)%128 * 2^(k * 7))))):=by
     show out=_;rw[HN.out,if_neg (by omega),if_neg (by omega)]
     rfl
    refine⟨⟨k+1,_,by omega,by go_num,rfl,(wo _ _).1,(wo _ _).2,HE2⟩,?_⟩;simp[intOf];omega
  .have HF:Hid (out=(0,0)):=by
    show out=_;rw[HE.out,show 10-k=0 by omega];rfl
   have hdk:decide ((k:Int)<10)=false:=by simp;omega
   clear HE;go_wp2;go_ret2;exact⟨Ai (by rw[HF.out];rfl) (by rw[HF.out];rfl),rfl⟩
theorem agI(s:ByteArray)(p:Nat)(w:World)(hs:s.size<=100000)(hp:p<=s.size):
 Calls prog 166 #[.string s,Im p] w fun e w'=>e=.returned (.tuple #[Im (Hx.read s.data.toList p).1,Im (Hx.read s.data.toList p).2])/\w'=w:=by
 have hlen:s.data.toList.length=s.size:=by simp
 by_cases h10:s.size-p<=10
 .exact agM s p (s.size-p) _ w hs (by omega) (by omega) (by omega) (by show _=_;unfold Hx.read;rw[hlen,Nat.min_eq_left h10])
 .exact agK s p _ w hs (by omega) (by show _=_;unfold Hx.read;rw[hlen,Nat.min_eq_right (by omega)])
end
section
open Go.RowKit
open Hx (St Bk Ls aZ)
section
def qh(s:St):List Value:=[.int .u8 s.op,Im s.a,Im s.b,Im s.c,Im s.d,Im s.depth,Im s.to]
def lV(b:Bk):List Value:=[Im b.kQ,Im b.other,Im b.need,Im b.before]
structure bn(B:Nat)(w:World)(L:Nat)(s:ByteArray)(l:Ls)(vs vb vl:Value):Prop where
 bL:B<=L
 c0:w.cell? (Ad L 0)=some (.string s)
 c1:w.cell? (Ad L 1)=some (Im l.pos)
 c2:w.cell? (Ad L 2)=some vs
 c3:w.cell? (Ad L 3)=some vb
 c4:w.cell? (Ad L 4)=some vl
 c5:w.cell? (Ad L 5)=some (Im l.aF)
 c6:w.cell? (Ad L 6)=some (Im l.need)
 c7:w.cell? (Ad L 7)=some (.bool l.bad)
 fr:∀j,w.frozen? (Ad L j)=false
 ay:w.ownsRow B 125 7 vs l.ay.length (l.ay.flatMap qh)
 aI:w.ownsRow B 226 4 vb l.aI.length (l.aI.flatMap lV)
 bH:w.ownsRow B 3 1 vl l.bH.length (l.bH.map (Value.int .i64))
 ns:vs.ownBlock≠some L
 nb:vb.ownBlock≠some L
 nl:vl.ownBlock≠some L
 sb:vs.ownBlock=none\/vs.ownBlock≠vb.ownBlock
 sl:vs.ownBlock=none\/vs.ownBlock≠vl.ownBlock
 bl:vb.ownBlock=none\/vb.ownBlock≠vl.ownBlock
structure bF(L:Nat)(w:World)(vs vb vl:Value)(w':World)(vs' bV dI:Value):Prop where
 os:w'.os=w.os
 tape:w'.tape=w.tape
 output:w'.output=w.output
 size:w.heap.size<=w'.heap.size
 block:∀k,k<w.heap.size->k≠L->some k≠vs.ownBlock->some k≠vb.ownBlock->some k≠vl.ownBlock->w'.heap[k]? =w.heap[k]?
 fs:∀g,vs'.ownBlock=some g->vs.ownBlock=some g\/w.heap.size<=g
 fb:∀g,bV.ownBlock=some g->vb.ownBlock=some g\/w.heap.size<=g
 fl:∀g,dI.ownBlock=some g->vl.ownBlock=some g\/w.heap.size<=g
theorem bF.refl(L:Nat)(w:World)(vs vb vl:Value):bF L w vs vb vl w vs vb vl:=
 ⟨rfl,rfl,rfl,Nat.le_refl _,fun _ _ _ _ _ _=>rfl,fun _ h=>Or.inl h,fun _ h=>Or.inl h,fun _ h=>Or.inl h⟩
theorem bF.trans{L:Nat}{w w1 w2:World}{vs vb vl vs1 vb1 YG vs2 YD YH:Value}(h:bF L w vs vb vl w1 vs1 vb1 YG)(k:bF L w1 vs1 vb1 YG w2 vs2 YD YH):bF L w vs vb vl w2 vs2 YD YH:=by
 have aux:∀{v v1:Value},(∀g,v1.ownBlock=some g->v.ownBlock=some g\/w.heap.size<=g)->∀j,j<w.heap.size->some j≠v.ownBlock->some j≠v1.ownBlock:=fun hf j hj hn e=>by
  rcases hf j e.symm with h1|h1
  .exact hn h1.symm
  .omega
 have aux2:∀{v v1 v2:Value},(∀g,v1.ownBlock=some g->v.ownBlock=some g\/w.heap.size<=g)->(∀g,v2.ownBlock=some g->v1.ownBlock=some g\/w1.heap.size<=g)->∀g,v2.ownBlock=some g->v.ownBlock=some g\/w.heap.size<=g:=fun h1 h2 g hg=>by
  rcases h2 g hg with h3|h3
  .exact h1 g h3
  .exact Or.inr (Nat.le_trans h.size h3)
 refine⟨k.os.trans h.os,k.tape.trans h.tape,k.output.trans h.output,Nat.le_trans h.size k.size,fun j hj hL h1 h2 h3=>?_,aux2 h.fs k.fs,aux2 h.fb k.fb,aux2 h.fl k.fl⟩;rw[k.block j (Nat.lt_of_lt_of_le hj h.size) hL (aux h.fs j hj h1) (aux h.fb j hj h2) (aux h.fl j hj h3)];exact h.block j hj hL h1 h2 h3
variable {B:Nat}{w:World}{L:Nat}{s:ByteArray}{l:Ls}{vs vb vl:Value}
theorem bn.lt(h:bn B w L s l vs vb vl):L<w.heap.size:=World.block_lt_of_cell? w _ h.c0
theorem bn.grow(h:bn B w L s l vs vb vl){w':World}(hg:w.grownBy w' none):bn B w' L s l vs vb vl:=by
 have hb:w'.heap[L]? =w.heap[L]? :=hg.block L h.lt (by simp);have hc:∀j,w'.cell? (Ad L j)=w.cell? (Ad L j):=fun j=>World.cell?_of_block hb;have hf:∀j,w'.frozen? (Ad L j)=w.frozen? (Ad L j):=fun j=>World.frozen?_of_block hb;have hk:∀v:Value,v.ownBlock=none\/v.ownBlock≠none:=fun v=>by cases v.ownBlock<;>simp
 exact⟨h.bL,by rw[hc];exact h.c0,by rw[hc];exact h.c1,by rw[hc];exact h.c2,by rw[hc];exact h.c3,by rw[hc];exact h.c4,by rw[hc];exact h.c5,by rw[hc];exact h.c6,by rw[hc];exact h.c7,
  fun j=>by rw[hf];exact h.fr j,h.ay.kept hg (hk vs),h.aI.kept hg (hk vb),h.bH.kept hg (hk vl),h.ns,h.nb,h.nl,h.sb,h.sl,h.bl⟩
theorem bn.alloc(h:bn B w L s l vs vb vl)(o:Obj):bn B (w.alloc o) L s l vs vb vl:=h.grow (World.grownBy_alloc w o none)
theorem bn.drewN(h:bn B w L s l vs vb vl)(n:Nat):bn B (w.drewN n) L s l vs vb vl:=h.grow ⟨rfl,rfl,rfl,Nat.le_refl _,fun _ _ _=>rfl⟩
theorem bF.grow(L:Nat)(w:World)(vs vb vl:Value){w':World}(hg:w.grownBy w' none):bF L w vs vb vl w' vs vb vl:=
 ⟨hg.os,hg.tape,hg.output,hg.size,fun k hk _ _ _ _=>hg.block k hk (by simp),fun _ h=>Or.inl h,fun _ h=>Or.inl h,fun _ h=>Or.inl h⟩
theorem bn.put(h:bn B w L s l vs vb vl)(j:Nat)(u:Value)(l':Ls)(vs' bV dI:Value)
 (h1:(w.setCell (Ad L j) u).cell? (Ad L 1)=some (Im l'.pos))(h2:(w.setCell (Ad L j) u).cell? (Ad L 2)=some vs')(h3:(w.setCell (Ad L j) u).cell? (Ad L 3)=some bV)
 (h4:(w.setCell (Ad L j) u).cell? (Ad L 4)=some dI)(h5:(w.setCell (Ad L j) u).cell? (Ad L 5)=some (Im l'.aF))(h6:(w.setCell (Ad L j) u).cell? (Ad L 6)=some (Im l'.need))
 (h7:(w.setCell (Ad L j) u).cell? (Ad L 7)=some (.bool l'.bad))(h0:¬j=0)
 (hs:w.ownsRow B 125 7 vs' l'.ay.length (l'.ay.flatMap qh))(hb:w.ownsRow B 226 4 bV l'.aI.length (l'.aI.flatMap lV))(hl:w.ownsRow B 3 1 dI l'.bH.length (l'.bH.map (Value.int .i64)))
 (ns:vs'.ownBlock≠some L)(nb:bV.ownBlock≠some L)(nl:dI.ownBlock≠some L)(sb:vs'.ownBlock=none\/vs'.ownBlock≠bV.ownBlock)(sl:vs'.ownBlock=none\/vs'.ownBlock≠dI.ownBlock)(bl:bV.ownBlock=none\/bV.ownBlock≠dI.ownBlock):
 bn B (w.setCell (Ad L j) u) L s l' vs' bV dI:=by
 have hg:=pO w (Ad L j) u;exact⟨h.bL,by rw[World.cell?_setCell_other _ _ _ _ (by intro e;cases e;exact h0 rfl)];exact h.c0,h1,h2,h3,h4,h5,h6,h7,fun j'=>by rw[World.frozen?_setCell];exact h.fr j',
  hs.kept hg (Or.inr ns),hb.kept hg (Or.inr nb),hl.kept hg (Or.inr nl),ns,nb,nl,sb,sl,bl⟩
theorem bF.own(L:Nat)(w:World)(vs vb vl:Value)(j:Nat)(u:Value):bF L w vs vb vl (w.setCell (Ad L j) u) vs vb vl:=
 ⟨rfl,rfl,rfl,by simp,fun k _ hL _ _ _=>Below.heap_setCell _ _ _ _ hL,fun _ h=>Or.inl h,fun _ h=>Or.inl h,fun _ h=>Or.inl h⟩
end
section
variable {B:Nat}{w:World}{L:Nat}{s:ByteArray}{l:Ls}{vs vb vl:Value}
theorem bn.agf(h:bn B w L s l vs vb vl)(x:Int):bn B (w.setCell (Ad L 5) (Im x)) L s {l with aF:=x} vs vb vl:=by
 have hc:∀k,¬k=5->(w.setCell (Ad L 5) (Im x)).cell? (Ad L k)=w.cell? (Ad L k):=fun k hk=>World.cell?_setCell_other _ _ _ _ (by intro e;cases e;exact hk rfl);exact h.put 5 _ _ vs vb vl (by rw[hc 1 (by omega)];exact h.c1) (by rw[hc 2 (by omega)];exact h.c2) (by rw[hc 3 (by omega)];exact h.c3) (by rw[hc 4 (by omega)];exact h.c4) (World.cell?_setCell_same _ _ _ h.c5) (by rw[hc 6 (by omega)];exact h.c6) (by rw[hc 7 (by omega)];exact h.c7) (by omega) h.ay h.aI h.bH h.ns h.nb h.nl h.sb h.sl h.bl
theorem bn.Dx(h:bn B w L s l vs vb vl):bn B (w.setCell (Ad L 7) (.bool true)) L s {l with bad:=true} vs vb vl:=by
 have hc:∀k,¬k=7->(w.setCell (Ad L 7) (.bool true)).cell? (Ad L k)=w.cell? (Ad L k):=fun k hk=>World.cell?_setCell_other _ _ _ _ (by intro e;cases e;exact hk rfl);exact h.put 7 _ _ vs vb vl (by rw[hc 1 (by omega)];exact h.c1) (by rw[hc 2 (by omega)];exact h.c2) (by rw[hc 3 (by omega)];exact h.c3) (by rw[hc 4 (by omega)];exact h.c4) (by rw[hc 5 (by omega)];exact h.c5) (by rw[hc 6 (by omega)];exact h.c6) (World.cell?_setCell_same _ _ _ h.c7) (by omega) h.ay h.aI h.bH h.ns h.nb h.nl h.sb h.sl h.bl
theorem aiM(h:bn B w L s l vs vb vl)(n:Int)(h0:0<=n)(h1:n<2008):
 Calls prog 167 #[Pt L 0,.int .i32 115,Im n] w fun e w'=>e=.returned (.bool true)/\bn B w' L s {l with aF:=max l.aF (n+1)} vs vb vl/\bF L w vs vb vl w' vs vb vl:=by
 have c5:=h.c5;have f5:=h.fr 5;have d1:decide (n<0)=false:=by simpa using h0
 have d2:decide (2008<=n)=false:=by simpa using h1
 have HP:Hid (∀x,x=max l.aF (n+1)->bn B (w.setCell (Ad L 5) (Im x)) L s {l with aF:=max l.aF (n+1)} vs vb vl/\bF L w vs vb vl (w.setCell (Ad L 5) (Im x)) vs vb vl):=by
  intro x hx;refine⟨?_,bF.own _ _ _ _ _ _ _⟩;rw[<-hx];exact h.agf _
 generalize hl':({l with aF:=max l.aF (n+1)}:Ls)=l' at *;clear hl';generalize l.aF=sl at *;clear h;go_enter func167,ntmps167;go_wp2;all_goals (go_ret;exact⟨rfl,HP.out _ (by omega)⟩)
theorem aiK(h:bn B w L s l vs vb vl)(n:Int)(hn:n<0\/2008<=n):
 Calls prog 167 #[Pt L 0,.int .i32 115,Im n] w fun e w'=>e=.returned (.bool false)/\w'=w:=by
 have _h:=h.c5;clear _h h;by_cases h0:n<0
 .have d1:decide (n<0)=true:=by simpa using h0
  go_enter func167,ntmps167;go_wp2;go_ret;exact⟨rfl,rfl⟩
 .have d1:decide (n<0)=false:=by simpa using h0
  have d2:decide (2008<=n)=true:=by simp;omega
  go_enter func167,ntmps167;go_wp2;go_ret;exact⟨rfl,rfl⟩
theorem aiL(n:Int)(w:World)(L:Nat):
 Calls prog 167 #[Pt L 0,.int .i32 108,Im n] w fun e w'=>e=.returned (.bool (decide (0<=n/\n<3)))/\w'=w:=by
 by_cases h0:0<=n
 .have d1:decide (0<=n)=true:=by simpa using h0
  go_enter func167,ntmps167;go_wp2;go_ret;exact⟨wF (by simp[h0]),rfl⟩
 .have d1:decide (0<=n)=false:=by simpa using h0
  go_enter func167,ntmps167;go_wp2;go_ret;exact⟨wF (by simp),rfl⟩
theorem aiJ(c n:Int)(w:World)(L:Nat)(h1:(c==115)=false)(h2:(c==108)=false):
 Calls prog 167 #[Pt L 0,.int .i32 c,Im n] w fun e w'=>e=.returned (.bool true)/\w'=w:=by
 go_enter func167,ntmps167;go_wp2;go_ret;exact⟨rfl,rfl⟩
end
end
end Go.Proofs.YthllhabjfchgiaaGreatDoor
