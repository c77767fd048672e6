import Derived.Test.YthllhabjfchgiaaGreatDoorHb01
import Derived.Laws.IdiomCopy
import Derived.Deep.Slices
import Derived.Deep.Fields
import Derived.Deep.Strs
import Derived.OpenShut
set_option maxRecDepth 100000
set_option maxHeartbeats 8000000
set_option linter.unusedSimpArgs false
namespace Go.Proofs.YthllhabjfchgiaaGreatDoor
open _root_.Go.Proofs.Tryz
section
abbrev bF:=@Go.wpQuiet_nil
abbrev bH:=@Go.World.cell?_drewN
abbrev dK:=@Go.RowKit.Below.refl
abbrev fK:=@Go.World.ownsRow_nil
abbrev fQ:=@Go.World.cell?_alloc_at
abbrev gB:=@Go.World.cell?_alloc_past
abbrev jv:=@Go.TypeId
end
section
open Go.RowKit
open Hx (Rd Pk Vw St Mc jO)
section
variable {B C:Nat}{w:jo}{M SB:Nat}{v:Vw}{m:Mc}
theorem ab5:(prog.info? 3).map (λi=>(i.zero,i.size,i.bytes))=some (some (Im 0),1,8):=by kernel_rfl
theorem ap3(n:Nat)(hn:n<=100000)(w:jo):
 (Instr.makeSlice 91 (Im (n:Int)) (Im (n:Int))).run prog w=.ok (.slice (some (Ad w.heap.size 0)) n n) (w.alloc (.cells (madeCells #[Im 0] n) 3)):=by
 obtain⟨i0,hi0,hz0,hz1,hz2⟩:=info_parts ab5;have:=run_makeSlice (P:=prog) w 91 3 i0 (Im 0) Tryz.underlying91 hi0 hz0 .i64 .i64 n n (by omega) (by omega) (by rw[hz1];simp;omega) (by rw[hz2];omega) (by omega);rw[this,hz1];simp[Value.cells]
def vV(x0 x1 x2 x3 x4 x5 x6 x7:Int):List jr:=[Im x0,Im x1,Im x2,Im x3,Im x4,Im x5,Im x6,Im x7]
def vN(w:jo)(ar af aa:Option Addr)(nr cr nf cf na ca:Nat)(x0 x1 x2 x3 x4 x5 x6 x7:Int)(n:Nat)(zs:Array jr):jo:=
 (((w.alloc (Obj.cells #[.slice ar nr cr,.slice af nf cf,.slice aa na ca] 25)).alloc
   (Obj.cells #[Im x0,Im x1,Im x2,Im x3,Im x4,Im x5,Im x6,Im x7] 26)).alloc
   (Obj.cells zs 3)).alloc
   (Obj.cells #[.slice ar nr cr,.slice af nf cf,.slice aa na ca,.slice (some (Ad (w.heap.size+1+1) 0)) n n,.int .u64 0,.int .u64 0,.int .u64 0,.int .u64 0,.int .u64 0,.int .u64 0,.int .u64 0,.int .u64 0,Nl] 130)
section
variable (w:jo)(ar af aa:Option Addr)(nr cr nf cf na ca:Nat)(x0 x1 x2 x3 x4 x5 x6 x7:Int)(n:Nat)(zs:Array jr)
theorem ano:(vN w ar af aa nr cr nf cf na ca x0 x1 x2 x3 x4 x5 x6 x7 n zs).heap.size=w.heap.size+4:=by simp[vN]
theorem adp(k:Nat):(vN w ar af aa nr cr nf cf na ca x0 x1 x2 x3 x4 x5 x6 x7 n zs).cell? (Ad (w.heap.size+1+1+1) k)=#[Value.slice ar nr cr,.slice af nf cf,.slice aa na ca,.slice (some (Ad (w.heap.size+1+1) 0)) n n,.int .u64 0,.int .u64 0,.int .u64 0,.int .u64 0,.int .u64 0,.int .u64 0,.int .u64 0,.int .u64 0,Nl][k]? :=
 fQ _ _ _ _ (by simp)
theorem anl(k:Nat):(vN w ar af aa nr cr nf cf na ca x0 x1 x2 x3 x4 x5 x6 x7 n zs).frozen? (Ad (w.heap.size+1+1+1) k)=false:=
 World.frozen?_alloc_at _ _ _ _ (by simp)
theorem adr(k:Nat):(vN w ar af aa nr cr nf cf na ca x0 x1 x2 x3 x4 x5 x6 x7 n zs).cell? (Ad (w.heap.size+1+1) k)=zs[k]? :=by
 unfold vN;rw[gB _ _ _ (by simp)];exact fQ _ _ _ _ (by simp)
theorem ads(k:Nat):(vN w ar af aa nr cr nf cf na ca x0 x1 x2 x3 x4 x5 x6 x7 n zs).frozen? (Ad (w.heap.size+1+1) k)=false:=by
 unfold vN;rw[World.frozen?_alloc_past _ _ _ (by simp)];exact World.frozen?_alloc_at _ _ _ _ (by simp)
theorem anm(k:Nat):(vN w ar af aa nr cr nf cf na ca x0 x1 x2 x3 x4 x5 x6 x7 n zs).cell? (Ad (w.heap.size+1) k)=(vV x0 x1 x2 x3 x4 x5 x6 x7)[k]? :=by
 unfold vN;rw[gB _ _ _ (by simp),gB _ _ _ (by simp)];rw[fQ _ _ _ _ (by simp)];simp[vV]
theorem adq:w.grownBy (vN w ar af aa nr cr nf cf na ca x0 x1 x2 x3 x4 x5 x6 x7 n zs) none:=by
 unfold vN;have h1:=ah w (Obj.cells #[Value.slice ar nr cr,.slice af nf cf,.slice aa na ca] 25) none;exact((h1.trans (ah _ _ none)).trans (ah _ _ none)).trans (ah _ _ none)
end
theorem anq(ar af aa:Option Addr)(nr cr nf cf na ca:Nat)(x0 x1 x2 x3 x4 x5 x6 x7:Int)(n:Nat)(w:jo)(hn:n<=100000)(h8:8<=n):
 Calls prog 49 #[.agg #[.slice ar nr cr,.slice af nf cf,.slice aa na ca],.agg #[Im x0,Im x1,Im x2,Im x3,Im x4,Im x5,Im x6,Im x7],Im n] w λe w'=>
  e=.returned (Pt (w.heap.size+1+1+1) 0)/\∃k,w'=((vN w ar af aa nr cr nf cf na ca x0 x1 x2 x3 x4 x5 x6 x7 n (madeCells #[Im 0] n)).drewN k).setCells (w.heap.size+1+1) 0 (vV x0 x1 x2 x3 x4 x5 x6 x7):=by
 have km:=λ(w:jo)=>ap3 n hn w;have hz:(madeCells #[Im 0] n).size=n:=size_madeCells _ _;generalize madeCells #[Im 0] n=zs at *;have h3:=adp w ar af aa nr cr nf cf na ca x0 x1 x2 x3 x4 x5 x6 x7 n zs 3;have kc:=λ(ty:jv)(k:Nat)=>run_copy_cells (P:=prog) ((vN w ar af aa nr cr nf cf na ca x0 x1 x2 x3 x4 x5 x6 x7 n zs).drewN k) 91 91 ty 3 (w.heap.size+1+1) 0 n n (Ad (w.heap.size+1) 0) 8 8 (vV x0 x1 x2 x3 x4 x5 x6 x7)
  Tryz.underlying91 (by kernel_rfl) (by show 8=min 8 n;omega)
  (by
    intro j u hj;have e:((Ad (w.heap.size+1) 0):Addr).add j=(Ad (w.heap.size+1) j):=by unfold Addr.add;split<;>simp_all
    rw[e,bH,anm];exact hj)
  (by
    intro j hj;have:j<8:=by simpa [vV]using hj
    rw[bH,gW,adr];simp;omega)
  (by intro j _;rw[World.frozen?_drewN];exact ads w ar af aa nr cr nf cf na ca x0 x1 x2 x3 x4 x5 x6 x7 n zs _)
  (by simp[vV,Value.oneCell'])
 simp only[List.getElem?_toArray,jc,dw]at h3;go_enter func49,ntmps49;go_wp2_with fail;go_region_held3 (λw'=>w'.cell? (Ad w.heap.size 0)=some (.slice ar nr cr)/\w'.cell? (Ad w.heap.size 1)=some (.slice af nf cf)/\w'.cell? (Ad w.heap.size 2)=some (.slice aa na ca)) (go_keep) (fail);go_wp2_with fail;rename_i akj kk hkk;clear akj;rw[show((((w.alloc (Obj.cells #[.slice ar nr cr,.slice af nf cf,.slice aa na ca] 25)).alloc
  (Obj.cells #[Im x0,Im x1,Im x2,Im x3,Im x4,Im x5,Im x6,Im x7] 26)).alloc
  (Obj.cells zs 3)).alloc
  (Obj.cells #[.slice ar nr cr,.slice af nf cf,.slice aa na ca,.slice (some (Ad (w.heap.size+1+1) 0)) n n,.int .u64 0,.int .u64 0,.int .u64 0,.int .u64 0,.int .u64 0,.int .u64 0,.int .u64 0,.int .u64 0,Nl] 130))=vN w ar af aa nr cr nf cf na ca x0 x1 x2 x3 x4 x5 x6 x7 n zs from rfl]
 generalize hW:vN w ar af aa nr cr nf cf na ca x0 x1 x2 x3 x4 x5 x6 x7 n zs=W at *;have HW:=jB hW;clear hW;refine BR (w:=W) (k:=1) 5 (by kernel_rfl) (by kernel_rfl) ?_;simp only[aC,aO,aG,aQ];repeat (go_big_quiet_step (fail))
 refine bF ?_;intro _ hw';obtain⟨n3,hw''⟩:=hw';subst hw'';go_wp2;go_ret;exact⟨rfl,n3,by rw[HW.out]⟩
structure wu(B:Nat)(w:jo)(ar af aa:Option Addr)(nr nf na:Nat)(v:Vw):Prop where
 pO:G7 B w ar v.pO
 qB:KP B w af v.qB
 qy:KP B w aa v.qy
 MQ:nr=v.pO.length
 MP:nf=v.qB.length
 MO:na=v.qy.length
 Gl:v.FZ
structure Good(v:Vw):Prop where
 JG:v.pO.length<=8
 JF:v.qB.length<=16
 JE:v.qy.length<=16
 ids:∀r∈v.pO,0<=r.id/\r.id<8
def su(x0 x1 x2 x3 x4 x5 x6 x7:Int)(n:Nat):Mc:=⟨[x0,x1,x2,x3,x4,x5,x6,x7]++List.replicate (n-8) 0,List.replicate 8 0,[]⟩
theorem ac3(n k:Nat)(hk:k<n):(madeCells #[Im 0] n)[k]? =some (Im 0):=by
 have:=toList_madeCells_one (Im 0) n;rw[<-Array.getElem?_toList,this];simp[hk]
theorem aeI(x0 x1 x2 x3 x4 x5 x6 x7:Int):∀j (h:j<(vV x0 x1 x2 x3 x4 x5 x6 x7).length),(vV x0 x1 x2 x3 x4 x5 x6 x7)[j]=Im ([x0,x1,x2,x3,x4,x5,x6,x7].getD j 0)
 |0,_=>rfl
 |1,_=>rfl
 |2,_=>rfl
 |3,_=>rfl
 |4,_=>rfl
 |5,_=>rfl
 |6,_=>rfl
 |7,_=>rfl
theorem left_at(a b c d e:jr):∀j,j<8->#[a,b,c,d,Value.int .u64 0,.int .u64 0,.int .u64 0,.int .u64 0,.int .u64 0,.int .u64 0,.int .u64 0,.int .u64 0,e][4+j]? =some (.int .u64 0)
 |0,_=>rfl
 |1,_=>rfl
 |2,_=>rfl
 |3,_=>rfl
 |4,_=>rfl
 |5,_=>rfl
 |6,_=>rfl
 |7,_=>rfl
theorem agG(j:Nat)(n:Nat):(List.replicate n (0:Int)).getD j 0=0:=by
 simp only[aU,List.getElem?_replicate];split<;>simp
theorem ank(hB:1<B)(hBw:B<=w.heap.size)(hT:rW w){ar af aa:Option Addr}{nr cr nf cf na ca:Nat}(hv:wu B w ar af aa nr nf na v)(hg:Good v)(x0 x1 x2 x3 x4 x5 x6 x7:Int)(n:Nat)(h8:8<=n)
 (hx:∀x∈[x0,x1,x2,x3,x4,x5,x6,x7],jO x)(k:Nat):
 kM B (w.heap.size+4) (((vN w ar af aa nr cr nf cf na ca x0 x1 x2 x3 x4 x5 x6 x7 n (madeCells #[Im 0] n)).drewN k).setCells (w.heap.size+1+1) 0 (vV x0 x1 x2 x3 x4 x5 x6 x7)) (w.heap.size+1+1+1) (w.heap.size+1+1) v (su x0 x1 x2 x3 x4 x5 x6 x7 n):=by
 generalize hW:vN w ar af aa nr cr nf cf na ca x0 x1 x2 x3 x4 x5 x6 x7 n (madeCells #[Im 0] n)=W;have hsz:W.heap.size=w.heap.size+4:=by rw[<-hW];exact ano ..
 have akw:∀k,W.cell? (Ad (w.heap.size+1+1+1) k)=#[Value.slice ar nr cr,.slice af nf cf,.slice aa na ca,.slice (some (Ad (w.heap.size+1+1) 0)) n n,.int .u64 0,.int .u64 0,.int .u64 0,.int .u64 0,.int .u64 0,.int .u64 0,.int .u64 0,.int .u64 0,Nl][k]? :=λk=>by rw[<-hW];exact adp ..
 have abN:∀k,W.frozen? (Ad (w.heap.size+1+1+1) k)=false:=λk=>by rw[<-hW];exact anl ..
 have MF:∀k,W.cell? (Ad (w.heap.size+1+1) k)=(madeCells #[Im 0] n)[k]? :=λk=>by rw[<-hW];exact adr ..
 have akH:∀k,W.frozen? (Ad (w.heap.size+1+1) k)=false:=λk=>by rw[<-hW];exact ads ..
 have hold:w.grownBy W none:=by rw[<-hW];exact adq ..
 clear hW;have Uz:(vV x0 x1 x2 x3 x4 x5 x6 x7).length=8:=rfl;have PE:∀x:Addr,¬x.block=w.heap.size+1+1->((W.drewN k).setCells (w.heap.size+1+1) 0 (vV x0 x1 x2 x3 x4 x5 x6 x7)).cell? x=W.cell? x:=λx hx=>by
  rw[World.cell?_setCells_out _ _ _ _ _ (λe=>jq e hx),bH]
 have hfr:∀x:Addr,((W.drewN k).setCells (w.heap.size+1+1) 0 (vV x0 x1 x2 x3 x4 x5 x6 x7)).frozen? x=W.frozen? x:=λx=>by
  rw[World.frozen?_setCells,World.frozen?_drewN]
 have Pn:∀x:Addr,x.block<w.heap.size->((W.drewN k).setCells (w.heap.size+1+1) 0 (vV x0 x1 x2 x3 x4 x5 x6 x7)).cell? x=w.cell? x:=λx hx=>by
  rw[PE x (by omega)];exact bQ (hold.block _ hx (by simp))
 have hM:∀k',((W.drewN k).setCells (w.heap.size+1+1) 0 (vV x0 x1 x2 x3 x4 x5 x6 x7)).cell? (Ad (w.heap.size+1+1+1) k')=#[Value.slice ar nr cr,.slice af nf cf,.slice aa na ca,.slice (some (Ad (w.heap.size+1+1) 0)) n n,.int .u64 0,.int .u64 0,.int .u64 0,.int .u64 0,.int .u64 0,.int .u64 0,.int .u64 0,.int .u64 0,Nl][k']? :=λk'=>by
  rw[PE _ (by show¬w.heap.size+1+1+1=_;omega)];exact akw k'
 have hlen:(su x0 x1 x2 x3 x4 x5 x6 x7 n).jE.length=n:=by simp[su];omega
 have hget:∀j,j<n->(su x0 x1 x2 x3 x4 x5 x6 x7 n).jE.getD j 0=[x0,x1,x2,x3,x4,x5,x6,x7].getD j 0:=λj hj=>by
  simp only[su,aU];by_cases h:j<8
  .rw[aT (by simpa using h)]
  .rw[bW (by simp;omega)];simp[List.getElem?_replicate];split<;>simp_all
 have hsz2:((W.drewN k).setCells (w.heap.size+1+1) 0 (vV x0 x1 x2 x3 x4 x5 x6 x7)).heap.size=w.heap.size+4:=by
  simp[vV,World.setCells,hsz]
 refine⟨⟨?_,?_,?_,hg.JG,hg.JF,hg.JE,hg.ids,hv.Gl⟩,by omega,by omega,by omega,by omega,by omega,by omega,?_,?_,?_,?_,?_,by simp[su],?_,?_,?_,?_,?_,hB⟩
 .refine⟨ar,cr,by rw[hM 0,<-hv.MQ];rfl,λi r hr=>?_⟩;obtain⟨b,o,e,hb,hp⟩:=hv.pO i r hr;exact⟨b,o,e,hb,hp.keep hb (λx hx=>Pn x (by omega))⟩
 .refine⟨af,cf,by rw[hM 1,<-hv.MP];rfl,λi r hr=>?_⟩;obtain⟨b,o,e,hb,hp⟩:=hv.qB i r hr;exact⟨b,o,e,hb,hp.keep hb (λx hx=>Pn x (by omega))⟩
 .refine⟨aa,ca,by rw[hM 2,<-hv.MO];rfl,λi r hr=>?_⟩;obtain⟨b,o,e,hb,hp⟩:=hv.qy i r hr;exact⟨b,o,e,hb,hp.keep hb (λx hx=>Pn x (by omega))⟩
 .rw[hM 3,hlen];rfl
 .intro j hj;rw[hlen]at hj;rw[hget j hj];by_cases h:j<8
  .have:=World.cell?_setCells_in (w.heap.size+1+1) (vV x0 x1 x2 x3 x4 x5 x6 x7) 0 (W.drewN k) (λj' hj'=>by
    rw[Uz]at hj';rw[bH,gW,MF,ac3 n j' (by omega)];rfl) j (by rw[Uz];exact h)
   rw[gW]at this;rw[this,aeI]
  .rw[World.cell?_setCells_out _ _ _ _ _ (λ_ _=>jh (by rw[Uz];show 0+8<=j;omega)),bH,MF,ac3 n j hj];simp[aU,bV (show[x0,x1,x2,x3,x4,x5,x6,x7].length<=j by simp;omega)]
 .intro j _;rw[hfr];exact akH j
 .intro j hj;rw[hM,left_at _ _ _ _ _ j hj];exact congrArg (λz=>some (Value.int .u64 z)) (agG j 8).symm
 .intro j _;rw[hfr];exact abN _
 .exact⟨Nl,by rw[hM];rfl,fK _ _ _ _⟩
 .rw[hfr];exact abN _
 .intro j;by_cases h:j<n
  .rw[hget j h,aU];cases hq:[x0,x1,x2,x3,x4,x5,x6,x7][j]?with
   |none=>exact Hx.Di
   |some y=>exact hx y (bT hq)
  .rw[aU,bV (by omega)];exact Hx.Di
 .intro j;have:(su x0 x1 x2 x3 x4 x5 x6 x7 n).left.getD j 0=0:=agG j 8;rw[this];omega
 .intro j hj;rw[Pn _ (by show 1<_;omega)];exact hT j hj
theorem anp(ar af aa:Option Addr)(nr cr nf cf na ca:Nat)(x0 x1 x2 x3 x4 x5 x6 x7:Int)(n:Nat)(w:jo)(hn:n<=100000)(h8:8<=n):
 Calls prog 49 #[.agg #[.slice ar nr cr,.slice af nf cf,.slice aa na ca],.agg #[Im x0,Im x1,Im x2,Im x3,Im x4,Im x5,Im x6,Im x7],Im n] w λe w'=>
  e=.returned (Pt (w.heap.size+1+1+1) 0)/\Below w.heap.size w w'/\
  (∀B v,1<B->B<=w.heap.size->rW w->wu B w ar af aa nr nf na v->Good v->(∀x∈[x0,x1,x2,x3,x4,x5,x6,x7],jO x)->
    kM B (w.heap.size+4) w' (w.heap.size+1+1+1) (w.heap.size+1+1) v (su x0 x1 x2 x3 x4 x5 x6 x7 n)):=by
 refine(anq ar af aa nr cr nf cf na ca x0 x1 x2 x3 x4 x5 x6 x7 n w hn h8).mono ?_;rintro e w' ⟨rfl,k,rfl⟩;refine⟨rfl,?_,λB v h1 h2 h3 h4 h5 h6=>ank h1 h2 h3 h4 h5 x0 x1 x2 x3 x4 x5 x6 x7 n h8 h6 k⟩;have h1:Below w.heap.size w (vN w ar af aa nr cr nf cf na ca x0 x1 x2 x3 x4 x5 x6 x7 n (madeCells #[Im 0] n)):=(dK _ _).grown (adq ..) (aj _) (by simp);have h2:=below_drewN h1 k;simp only[vV,World.setCells];repeat (refine Below.setCell ?_ (by show w.heap.size<=w.heap.size+1+1;omega) _)
 exact h2
end
end
section
open Go.ChangeShapes Go.WideShapes Go.Deep
section
section
variable {H:Type}{enc:jv×jr->H}{P:Program}{w:jo}{base:Nat}{spare:Nat->Bool}{held:Bool}
theorem afS{t e:jv}{fs:Array Field}{fuel:Nat}{cs:List jr}{x:DataW H×List MemPlace}(ht:P.underlying t=some (.slice e))(he:P.underlying e=some (.struct fs))
 (hone:∀(i:Nat)(f:Field),fs[i]? =some f->f.offset=i/\P.cellsOf f.type=1)(ce:P.cellsOf e=fs.size)(h:DataW.trod enc P w base spare held fuel t cs=some x):
 cs=[Nl]\/∃(a:Addr)(len cap:Nat),cs=[.slice (some a) len cap]/\len<=cap/\cap<=maxLen/\
  ∀i,i<len->∀(j:Nat)(f:Field),fs[j]? =some f->∃v y n,w.cell? (a.add (i * fs.size+j))=some v/\DataW.trod enc P w base spare held n f.type [v]=some y:=by
 rcases open_slice ht h with⟨h0,_⟩|⟨a,len,cap,m,n,D,Pl,rfl,hb,hl,hm,hmm,rfl,hx⟩
 .exact ji h0
 refine jh ⟨a,len,cap,rfl,hl,hm,λi hi j f hf=>?_⟩;have hlm:len<=m:=by rw[hmm];split<;>omega
 obtain⟨cs',h1,h2⟩:=hx i (by omega);rw[ce]at h1;obtain⟨_,hlen,hcell⟩:=World.cells?_some h1;obtain⟨xs,k,hk,hxy,_,hxl,hg⟩:=DataW.trod_struct he h2;obtain⟨o1,c1⟩:=hone j f hf;have hj:j<fs.size:=(Array.getElem?_eq_some_iff.1 hf).1;have g:=hg j f hf;rw[o1,c1,take1_drop cs' j (.bool false) (by omega),bU (by omega)]at g;have e1:=hcell j (by omega);rw[add_add,bU (by omega)]at e1;refine⟨cs'.getD j (.bool false),xs[j],k,?_,g⟩;rw[e1];simp[List.getD,bU (show j<cs'.length by omega)]
theorem FY{n:Int}(h:(Lit.int .i64 n).wf=true):Hx.jO n:=bounds_i64 h
theorem apV{t e:jv}{f0 f1 f2 f3 f4:Field}{fuel:Nat}{cs:List jr}{x:DataW H×List MemPlace}(ht:P.underlying t=some (.slice e))(he:P.underlying e=some (.struct #[f0,f1,f2,f3,f4]))
 (hone:oneCellFields P #[f0,f1,f2,f3,f4]=true)(ce:P.cellsOf e=5)(i0:P.underlying f0.type=some (.int .i64))(i1:P.underlying f1.type=some (.int .i64))(i2:P.underlying f2.type=some (.int .i64))
 (i3:P.underlying f3.type=some (.int .i64))(i4:P.underlying f4.type=some .bool)(h:DataW.trod enc P w base spare held fuel t cs=some x):
 ∃(a:Option Addr)(len cap:Nat)(rs:List Hx.Rd),cs=[.slice a len cap]/\len<=maxLen/\rs.length=len/\G7 w.heap.size w a rs/\∀r∈rs,Hx.jO r.id/\Hx.jO r.Iw/\Hx.jO r.Hg/\Hx.jO r.out:=by
 rcases afS ht he (hone_of hone) ce h with rfl|⟨a,len,cap,rfl,hl,hm,hx⟩
 .exact⟨none,0,0,[],rfl,bD _,rfl,λi r hr=>by simp at hr,λr hr=>by simp at hr⟩
 have each:∀i,i<len->∃r:Hx.Rd,(w.cell? (a.add (i * 5))=some (Im r.id)/\w.cell? (a.add (i * 5+1))=some (Im r.Iw)/\w.cell? (a.add (i * 5+2))=some (Im r.Hg)/\w.cell? (a.add (i * 5+3))=some (Im r.out)/\w.cell? (a.add (i * 5+4))=some (.bool r.Na))/\
  Hx.jO r.id/\Hx.jO r.Iw/\Hx.jO r.Hg/\Hx.jO r.out:=by
  intro i hi;obtain⟨v0,y0,n0,c0,t0⟩:=hx i hi 0 f0 rfl;obtain⟨v1,y1,n1,c1,t1⟩:=hx i hi 1 f1 rfl;obtain⟨v2,y2,n2,c2,t2⟩:=hx i hi 2 f2 rfl;obtain⟨v3,y3,n3,c3,t3⟩:=hx i hi 3 f3 rfl;obtain⟨v4,y4,n4,c4,t4⟩:=hx i hi 4 f4 rfl;obtain⟨z0,e0,_,r0⟩:=DataW.trod_int i0 t0;obtain⟨z1,e1,_,r1⟩:=DataW.trod_int i1 t1;obtain⟨z2,e2,_,r2⟩:=DataW.trod_int i2 t2;obtain⟨z3,e3,_,r3⟩:=DataW.trod_int i3 t3;obtain⟨z4,e4,_⟩:=DataW.trod_bool i4 t4;cases e0;cases e1;cases e2;cases e3;cases e4;exact⟨⟨z0,z1,z2,z3,z4⟩,⟨c0,c1,c2,c3,c4⟩,FY r0,FY r1,FY r2,FY r3⟩
 haveI:Inhabited Hx.Rd:=⟨⟨0,0,0,0,false⟩⟩
 obtain⟨g,hg⟩:=choose_lt each;refine⟨some a,len,cap,(List.range len).map g,rfl,by omega,by simp,?_,?_⟩
 .intro i r hr;simp only[fV,Option.map_eq_some_iff]at hr;obtain⟨k,hk,rfl⟩:=hr;obtain⟨hi,rfl⟩:i<len/\i=k:=by
   obtain⟨h1,h2⟩:=List.getElem?_eq_some_iff.1 hk;simp at h1 h2;exact⟨h1,h2⟩
  obtain⟨⟨c0,c1,c2,c3,c4⟩,_⟩:=hg i hi;obtain⟨b,o,spot⟩:=a;have hspot:spot=none:=by simpa [Addr.add]using World.cell?_spot (hg 0 (by omega)).1.1
  subst hspot;have hb:=World.block_lt_of_cell? w _ c0;rw[add_plain]at c0 c1 c2 c3 c4 hb;exact⟨b,o,rfl,hb,_,_,rfl,c0,by simpa [fE]using c1,by simpa [fE]using c2,by simpa [fE]using c3,by simpa [fE]using c4⟩
 .intro r hr;obtain⟨k,hk,rfl⟩:=List.mem_map.1 hr;exact(hg k (List.mem_range.1 hk)).2
theorem aeh{t e:jv}{f0 f1 f2:Field}{fuel:Nat}{cs:List jr}{x:DataW H×List MemPlace}(ht:P.underlying t=some (.slice e))(he:P.underlying e=some (.struct #[f0,f1,f2]))
 (hone:oneCellFields P #[f0,f1,f2]=true)(ce:P.cellsOf e=3)(i0:P.underlying f0.type=some (.int .i64))(i1:P.underlying f1.type=some (.int .i64))(i2:P.underlying f2.type=some (.int .i64))
 (h:DataW.trod enc P w base spare held fuel t cs=some x):
 ∃(a:Option Addr)(len cap:Nat)(rs:List Hx.Pk),cs=[.slice a len cap]/\len<=maxLen/\rs.length=len/\KP w.heap.size w a rs/\∀r∈rs,Hx.jO r.seq/\Hx.jO r.size/\Hx.jO r.on:=by
 rcases afS ht he (hone_of hone) ce h with rfl|⟨a,len,cap,rfl,hl,hm,hx⟩
 .exact⟨none,0,0,[],rfl,bD _,rfl,λi r hr=>by simp at hr,λr hr=>by simp at hr⟩
 have each:∀i,i<len->∃r:Hx.Pk,(w.cell? (a.add (i * 3))=some (Im r.seq)/\w.cell? (a.add (i * 3+1))=some (Im r.size)/\w.cell? (a.add (i * 3+2))=some (Im r.on))/\
  Hx.jO r.seq/\Hx.jO r.size/\Hx.jO r.on:=by
  intro i hi;obtain⟨v0,y0,n0,c0,t0⟩:=hx i hi 0 f0 rfl;obtain⟨v1,y1,n1,c1,t1⟩:=hx i hi 1 f1 rfl;obtain⟨v2,y2,n2,c2,t2⟩:=hx i hi 2 f2 rfl;obtain⟨z0,e0,_,r0⟩:=DataW.trod_int i0 t0;obtain⟨z1,e1,_,r1⟩:=DataW.trod_int i1 t1;obtain⟨z2,e2,_,r2⟩:=DataW.trod_int i2 t2;cases e0;cases e1;cases e2;exact⟨⟨z0,z1,z2⟩,⟨c0,c1,c2⟩,FY r0,FY r1,FY r2⟩
 haveI:Inhabited Hx.Pk:=⟨⟨0,0,0⟩⟩
 obtain⟨g,hg⟩:=choose_lt each;refine⟨some a,len,cap,(List.range len).map g,rfl,by omega,by simp,?_,?_⟩
 .intro i r hr;simp only[fV,Option.map_eq_some_iff]at hr;obtain⟨k,hk,rfl⟩:=hr;obtain⟨hi,rfl⟩:i<len/\i=k:=by
   obtain⟨h1,h2⟩:=List.getElem?_eq_some_iff.1 hk;simp at h1 h2;exact⟨h1,h2⟩
  obtain⟨⟨c0,c1,c2⟩,_⟩:=hg i hi;obtain⟨b,o,spot⟩:=a;have hspot:spot=none:=by simpa [Addr.add]using World.cell?_spot (hg 0 (by omega)).1.1
  subst hspot;have hb:=World.block_lt_of_cell? w _ c0;rw[add_plain]at c0 c1 c2 hb;exact⟨b,o,rfl,hb,_,_,rfl,c0,by simpa [fE]using c1,by simpa [fE]using c2⟩
 .intro r hr;obtain⟨k,hk,rfl⟩:=List.mem_map.1 hr;exact(hg k (List.mem_range.1 hk)).2
theorem ale{t e:jv}{n fuel:Nat}{cs:List jr}{x:DataW H×List MemPlace}(ht:P.underlying t=some (.array n e))(he:P.underlying e=some (.int .i64))(hce:P.cellsOf e=1)(hct:P.cellsOf t=n)
 (h:DataW.trod enc P w base spare held fuel t cs=some x):∃zs:List Int,cs=zs.map (Value.int .i64)/\zs.length=n/\∀z∈zs,Hx.jO z:=by
 obtain⟨xs,m,_,_,hl,hxl,hel⟩:=DataW.trod_array ht h;have each:∀i,i<n->∃z:Int,cs[i]? =some (Im z)/\Hx.jO z:=by
  intro i hi;have g:=hel i hi;rw[hce,Nat.mul_one,take1_drop cs i (.bool false) (by omega),bU (by omega)]at g;obtain⟨z,e0,_,r0⟩:=DataW.trod_int he g;refine⟨z,?_,FY r0⟩;have hi':i<cs.length:=by omega
  simp only[List.getD,bU hi',Option.getD_some,iD,and_true]at e0;rw[bU hi',e0]
 obtain⟨g,hg⟩:=choose_lt each;refine⟨(List.range n).map g,?_,by simp,?_⟩
 .apply List.ext_getElem?;intro i;by_cases hi:i<n
  .rw[(hg i hi).1];simp[hi]
  .rw[bV (by omega),bV (by simp;omega)]
 .intro z hz;obtain⟨k,hk,rfl⟩:=List.mem_map.1 hz;exact(hg k (List.mem_range.1 hk)).2
theorem arO{t:jv}{f0 f1 f2:Field}{tr tp er ep:jv}{r0 r1 r2 r3 r4 p0 p1 p2:Field}{fuel:Nat}{cs:List jr}{x:DataW H×List MemPlace}
 (ht:P.underlying t=some (.struct #[f0,f1,f2]))(hone:oneCellFields P #[f0,f1,f2]=true)(ct:P.cellsOf t=3)(k0:f0.type=tr)(k1:f1.type=tp)(k2:f2.type=tp)
 (hr:P.underlying tr=some (.slice er))(her:P.underlying er=some (.struct #[r0,r1,r2,r3,r4]))(an3:oneCellFields P #[r0,r1,r2,r3,r4]=true)(cr:P.cellsOf er=5)
 (i0:P.underlying r0.type=some (.int .i64))(i1:P.underlying r1.type=some (.int .i64))(i2:P.underlying r2.type=some (.int .i64))(i3:P.underlying r3.type=some (.int .i64))(i4:P.underlying r4.type=some .bool)
 (hp:P.underlying tp=some (.slice ep))(hep:P.underlying ep=some (.struct #[p0,p1,p2]))(adR:oneCellFields P #[p0,p1,p2]=true)(cp:P.cellsOf ep=3)
 (j0:P.underlying p0.type=some (.int .i64))(j1:P.underlying p1.type=some (.int .i64))(j2:P.underlying p2.type=some (.int .i64))
 (h:DataW.trod enc P w base spare held fuel t cs=some x):
 ∃(ar af aa:Option Addr)(nr cr nf cf na ca:Nat)(v:Hx.Vw),cs=[.slice ar nr cr,.slice af nf cf,.slice aa na ca]/\wu w.heap.size w ar af aa nr nf na v/\nr<=maxLen:=by
 obtain⟨y0,y1,y2,n,_,hl,t0,t1,t2⟩:=trod_struct3 ht h;obtain⟨o0,c0⟩:=hone_of hone 0 f0 rfl;obtain⟨o1,c1⟩:=hone_of hone 1 f1 rfl;obtain⟨o2,c2⟩:=hone_of hone 2 f2 rfl;subst k0 k1;rw[ct]at hl
 match cs,hl with
 |[x0,x1,x2],_=>
  simp only[o0,c0,aQ,aC,aO]at t0;simp only[o1,c1,aG,aQ,aC,aO]at t1;rw[k2]at c2 t2;simp only[o2,c2,aG,aQ,aC,aO]at t2;obtain⟨ar,nr,kr,rs,e0,lr,hrl,hra,hrr⟩:=apV hr her an3 cr i0 i1 i2 i3 i4 t0;obtain⟨af,nf,kf,fs,e1,lf,hfl,hfa,hfr⟩:=aeh hp hep adR cp j0 j1 j2 t1;obtain⟨aa,na,ka,gs,e2,la,hgl,hga,hgr⟩:=aeh hp hep adR cp j0 j1 j2 t2;cases e0;cases e1;cases e2;exact⟨ar,af,aa,nr,kr,nf,kf,na,ka,⟨rs,fs,gs⟩,rfl,⟨hra,hfa,hga,hrl.symm,hfl.symm,hgl.symm,⟨hrr,hfr,hgr⟩⟩,lr⟩
theorem anO{t e:jv}{n b0:Nat}{r:Reach}{v:jr}(ht:P.underlying t=some (.array n e))(h:Value.okWide P w r b0 t v):∃cs,v=.agg cs/\cs.size=P.cellsOf t:=by
 simp only[Value.okWide,ht]at h;obtain⟨cs,h1,h2,_⟩:=h;exact⟨cs,h1,h2⟩
end
end
end
namespace Hx
open Go.RowKit
def push(v:Vw)(i j:Int)(m:Mc):Option Mc:=
 match v.sG i,v.uH j with
 |some r,some p=>if m.jP.length=256 then none else some {m with jP:=m.jP++[(r.id,p.seq)]}
 |_,_=>some m
structure Out where
 status:Int
 jG:List Int
 jP:List (Int×Int)
def step(v:Vw)(jC:List St)(jG:List Int)(k:Nat)(s:St)(m:Mc):Out⊕(Int×Mc):=
 if s.op=1 then .inl ⟨0,m.jE,m.jP⟩
 else if s.op=2 then .inr (if m.get s.a=0 then s.ku else k+1,m)
 else if s.op=3 then .inr (s.ku,m)
 else if s.op=4 then .inr ((kR s k (rG v s m)).2,(kR s k (rG v s m)).1)
 else if s.op=5 then (if m.get s.a=0 then match jC[s.ku.toNat]?with
  |some l=>.inr ((kR l s.ku m).2,(kR l s.ku m).1)
  |none=>.inl ⟨2,jG,[]⟩
  else .inr (k+1,m))
 else if s.op=0 then match jC[s.ku.toNat]?with
  |some l=>.inr ((kR l s.ku m).2,(kR l s.ku m).1)
  |none=>.inl ⟨2,jG,[]⟩
 else if s.op=36 then match push v (m.get s.a) (m.get s.b) m with
  |none=>.inl ⟨1,jG,[]⟩
  |some m'=>.inr (k+1,m')
 else .inr (k+1,work v s m)
def runs(v:Vw)(jC:List St)(jG:List Int):Nat->Int->Mc->Out
 |0,_,_=>⟨2,jG,[]⟩
 |f+1,k,m=>match jC[k.toNat]?with
  |none=>⟨2,jG,[]⟩
  |some s=>match step v jC jG k.toNat s m with
   | .inl o=>o
   | .inr (k',m')=>runs v jC jG f k' m'
def UY(jC:List St)(n:Nat)(x:Int):Prop:=
 ∃l,0<=x/\jC[x.toNat]? =some l/\x+1<jC.length/\0<=l.ku/\l.ku<jC.length/\St.slot n l.b/\0<=l.depth/\l.depth<8
structure St.fits(jC:List St)(n:Nat)(k:Nat)(s:St):Prop where
 u8:0<=s.op/\s.op<=255
 next:¬s.op=1->¬s.op=3->¬s.op=0->k+1<jC.length
 ifs:s.op=2->St.slot n s.a/\0<=s.ku/\s.ku<jC.length
 aaD:s.op=3->0<=s.ku/\s.ku<jC.length
 jY:s.op=4->0<=s.ku/\s.ku<jC.length/\St.slot n s.b/\St.slot n s.c/\0<=s.depth/\s.depth<8
 IC:s.op=5->St.slot n s.a/\UY jC n s.ku
 ends:s.op=0->UY jC n s.ku
 Iq:s.op=36->St.slot n s.a/\St.slot n s.b
 works:¬s.op=1->¬s.op=2->¬s.op=3->¬s.op=4->¬s.op=5->¬s.op=0->¬s.op=36->s.RJ n
structure Fits(jC:List St)(n:Nat):Prop where
 pos:0<jC.length
 len:jC.length<=1000000
 each:∀(k:Nat)(s:St),jC[k]? =some s->s.fits jC n k
def shape(o:Int):List UInt8:=
 if o=0\/o=1\/o=3 then []else if o=2\/o=5 then [115]else if o=6 then [115,110]else if o=21 then [115,108]
 else if o=7\/o=8\/o=9\/o=22\/o=23\/o=24\/o=27\/o=28\/o=29\/o=30\/o=31\/o=32\/o=33\/o=34\/o=36 then [115,115]
 else if o=4 then [108,115,115]
 else if o=10\/o=11\/o=12\/o=13\/o=14\/o=15\/o=16\/o=17\/o=18\/o=19\/o=20\/o=35 then [115,115,115]
 else if o=25\/o=26 then [115,115,115,115]else []
def Ew(o:Int):Bool:=decide (0<=o/\o<=36)
def signed(x:Int):Int:=if bits .and .u64 x 1==1 then bits .xor .i64 (-1) (x/2)else x/2
def tY(s:List UInt8)(p:Nat):Nat->Nat->Int->Int×Int
 |0,_,_=>(0,0)
 |r+1,i,acc=>
  if i=9/\1<(s.getD (p+i) 0).toNat then (0,0)
  else if (s.getD (p+i) 0).toNat<128 then (signed (bits .or .u64 acc (IntKind.u64.wrap (((s.getD (p+i) 0).toNat%128:Nat) * 2^(i * 7)))),i+1)
  else tY s p r (i+1) (bits .or .u64 acc (IntKind.u64.wrap (((s.getD (p+i) 0).toNat%128:Nat) * 2^(i * 7))))
def read(s:List UInt8)(p:Nat):Int×Int:=tY s p (min (s.length-p) 10) 0 0
def kQ(l:Int):Int:=if l=0 then 8 else 16
structure Bk where
 opener:Int
 other:Int
 jD:Int
 before:Int
structure Ls where
 pos:Int
 jC:List St
 jI:List Bk
 jY:List Int
 jE:Int
 jD:Int
 bad:Bool
def Ls.top(l:Ls):Bk:=l.jI.getLastD ⟨0,0,0,0⟩
def Ls.count(l:Ls)(more:Int):Ls:=
 {l with jI:=l.jI.dropLast++[{l.top with jD:=wrap64 (l.top.jD+more)}],bad:=l.bad||decide (40000040<wrap64 (l.top.jD+more))}
def Ls.take(l:Ls)(letter n:Int):Ls×Bool:=
 if letter=115 then (if n<0\/2008<=n then (l,false)else ({l with jE:=max l.jE (n+1)},true))
 else if letter=108 then (l,decide (0<=n/\n<3))else (l,true)
end Hx
section
open Go.RowKit
open Hx (St Bk Ls jO)
def mF(l:Ls)(st:St):Ls:=Hx.Ls.count {l with jC:=l.jC++[st]} 1
def wZ(l:Ls)(st:St):Ls:={mF l st with jI:=(mF l st).jI++[⟨l.jC.length,0,0,0⟩]}
theorem KZ(l:Ls)(st:St):(mF l st).jC=l.jC++[st]:=rfl
theorem Oj(l:Ls)(st:St)(hne:l.jI≠[]):(mF l st).jI.length=l.jI.length:=by
 have:0<l.jI.length:=List.length_pos_iff.2 hne;simp[mF,Hx.Ls.count];omega
def IB(l:Ls)(st:St):Ls:=if l.jY=[]then {l with bad:=true}else mF l {st with ku:=l.jY.getLastD 0}
def Ic(l:Ls)(st:St):Ls:={wZ l {st with depth:=l.jY.length}with jY:=l.jY++[(l.jC.length:Int)]}
def tu(l:Ls)(p:Nat)(st:St)(init:List Bk)(b:Bk):Ls:=Hx.Ls.count {l with jC:=l.jC.set p {st with ku:=l.jC.length},jI:=init} (max b.jD b.before)
def zX(l:Ls):Ls:={mF l ⟨1,0,0,0,0,0,0⟩with jD:=(mF l ⟨1,0,0,0,0,0,0⟩).top.jD,jI:=[]}
def FQ(l1:Ls)(p:Nat)(sp:St):Ls:=
 Hx.Ls.count {l1 with jI:=l1.jI.dropLast,jY:=l1.jY.dropLast,jC:=l1.jC.set p {sp with ku:=l1.jC.length}} (wrap64 (Hx.kQ sp.a * l1.top.jD))
def zY(l:Ls)(st:St)(p:Nat)(sp:St):Ls:=FQ (mF l {st with ku:=p}) p sp
def FP(l1:Ls)(ns p:Nat)(sp:St):Ls:=
 {l1 with jI:=l1.jI.dropLast++[⟨l1.top.opener,ns,0,l1.top.jD⟩],jC:=l1.jC.set p {sp with ku:=l1.jC.length}}
def Ea(l:Ls)(st:St)(p:Nat)(sp:St):Ls:=FP (mF l st) l.jC.length p sp
theorem aho(l:Ls)(st:St):(mF l st).top={l.top with jD:=wrap64 (l.top.jD+1)}:=by
 simp[mF,Hx.Ls.count,Hx.Ls.top]
def lD(l:Ls)(s:St):Ls:=
 if s.op=2 then wZ l s
 else if s.op=4 then (if l.jY.length=8 then {l with bad:=true}else Ic l s)
 else if s.op=3 then
  (if l.jI.length=1\/0<l.top.other then {l with bad:=true}else match l.jC[l.top.opener.toNat]?with
    |none=>{l with bad:=true}
    |some sp=>if sp.op=2 then Ea l s l.top.opener.toNat sp else {l with bad:=true})
 else if s.op=0 then
  (if l.jI.length=1 then zX l else match l.jC[l.top.opener.toNat]?with
    |none=>{l with bad:=true}
    |some sp=>
     if sp.op=4 then zY l s l.top.opener.toNat sp
     else if 0<l.top.other then match l.jC[l.top.other.toNat]?with
      |none=>{l with bad:=true}
      |some sr=>tu l l.top.other.toNat sr l.jI.dropLast l.top
     else tu l l.top.opener.toNat sp l.jI.dropLast l.top)
 else if s.op=5 then IB l s
 else mF l s
def wI(bs:List UInt8):List UInt8->Nat->Int->Option (List Int×Nat×Int)
 |[],p,sl=>some ([],p,sl)
 |c::cs,p,sl=>
  if (Hx.read bs p).2=0 then none
  else if c=115/\((Hx.read bs p).1<0\/2008<=(Hx.read bs p).1)then none
  else if c=108/\¬(0<=(Hx.read bs p).1/\(Hx.read bs p).1<3)then none
  else (wI bs cs (p+(Hx.read bs p).2.toNat) (if c=115 then max sl ((Hx.read bs p).1+1)else sl)).map λr=>((Hx.read bs p).1::r.1,r.2)
def xk(bs:List UInt8)(l:Ls):Option (St×Ls):=
 match bs[l.pos.toNat]?with
 |none=>none
 |some o=>if Hx.Ew o.toNat then match wI bs (Hx.shape o.toNat) (l.pos.toNat+1) l.jE with
   |none=>none
   |some (ns,p,sl)=>some (⟨o.toNat,ns.getD 0 0,ns.getD 1 0,ns.getD 2 0,ns.getD 3 0,0,0⟩,{l with pos:=p,jE:=sl})
  else none
def tC:Ls:=⟨0,[],[⟨0,0,0,0⟩],[],8,0,false⟩
def uV(bs:List UInt8):Nat->Ls->Ls
 |0,l=>l
 |f+1,l=>if l.jI=[]\/l.bad=true then l else match xk bs l with
  |none=>{l with bad:=true}
  |some (s,l')=>uV bs f (lD l' s)
def lX(bs:List UInt8):Ls:=uV bs (bs.length+1) tC
def vX(bs:List UInt8):Bool:=decide (bs.length<=100000)&& !(lX bs).bad&&decide ((lX bs).pos=bs.length)
end
section
open Go.RowKit
theorem EH{a a' b b':jr}(h1:a=a')(h2:b=b'):Ending.returned (.tuple #[a,b])=.returned (.tuple #[a',b']):=by rw[h1,h2]
theorem amc(l:Int)(w:jo):
 Calls prog 210 #[Im l] w λe w'=>e=.returned (Im (Hx.kQ l))/\w'=w:=by
 by_cases h:l=0
 .subst h;go_enter func210,ntmps210;go_wp2;go_ret;exact⟨rfl,rfl⟩
 .have h':(l==0)=false:=by simpa using h
  go_enter func210,ntmps210;go_wp2;go_ret;exact⟨Au (by simp[Hx.kQ,h]),rfl⟩
theorem aqw(o:Int)(w:jo)(h0:0<=o):
 Calls prog 165 #[.int .u8 o] w λe w'=>e=.returned (.tuple #[.string ⟨(Hx.shape o).toArray⟩,.bool (Hx.Ew o)])/\w'=w:=by
 go_enter func165,ntmps165;go_wp2;all_goals (go_ret2;refine⟨EH ?_ ?_,rfl⟩)
 all_goals (simp only[beq_iff_eq,beq_eq_false_iff_ne,ne_eq]at *)
 all_goals first|(subst_vars;rfl)|skip
 .simp[Hx.shape, *]
 .have e:Hx.Ew o=false:=by
   simp only[Hx.Ew,decide_eq_false_iff_not];omega
  rw[e]
  rfl
theorem Rj(x:Int)(w:jo)(h0:0<=x)(h1:x<18446744073709551616):
 Calls prog 209 #[.int .u64 x] w λe w'=>e=.returned (Im (Hx.signed x))/\w'=w:=by
 unfold Hx.signed;generalize hz:(bits .and .u64 x 1==1)=z;cases z with
 |false=>
  go_enter func209,ntmps209;go_wp2;go_ret;exact⟨rfl,rfl⟩
 |true=>
  go_enter func209,ntmps209;go_wp2;go_ret;exact⟨rfl,rfl⟩
theorem Ap(x y:Int):0<=bits .or .u64 x y/\bits .or .u64 x y<18446744073709551616:=⟨bits_lo_u64 _ _ _,by have:=bits_hi_u64 .or x y;omega⟩
theorem apC(s:jm)(p r:Nat)(out:Int×Int)(w:jo)(hs:s.size<=100000)(a1:(r:Int)<=(s.size:Int)-(p:Int))(a2:(s.size:Int)-(p:Int)<=(r:Int))(a3:(s.size:Int)-(p:Int)<=10)
 (HR:Hid (out=Hx.tY s.data.toList p r 0 0)):
 Calls prog 166 #[.string s,Im p] w λe w'=>e=.returned (.tuple #[Im out.1,Im out.2])/\w'=w:=by
 go_enter func166,ntmps166;go_wp2;go_loop [6,14] (λacc i=>∃(k:Nat)(x:Int),k<=r/\i=Im k/\acc=.int .u64 x/\0<=x/\x<18446744073709551616/\Hid (out=Hx.tY s.data.toList p (r-k) k x)) (λ_ i=>r-(intOf i).toNat)
 case atStart=>exact⟨0,0,bD _,rfl,rfl,by omega,by omega,HR⟩
 case round=>
  obtain⟨k,x,hk,rfl,rfl,hx0,hx1,HE⟩:=hrel;clear HR;by_cases hlt:k<r
  .obtain⟨q,hqe⟩:∃q,p+k=q:=⟨_,rfl⟩;have hq:q<s.size:=by omega
   have hpk:(p:Int)+(k:Int)=(q:Int):=by omega
   have hq0:(0:Int)<=(q:Int):=by omega
   have hq1:(q:Int)<(s.size:Int):=by omega
   have HN:Hid (out=if k=9/\1<s[q].toNat then (0,0)
    else if s[q].toNat<128 then (Hx.signed (bits .or .u64 x (IntKind.u64.wrap ((s[q].toNat%128:Nat) * 2^(k * 7)))),(k:Int)+1)
    else Hx.tY s.data.toList p (r-(k+1)) (k+1) (bits .or .u64 x (IntKind.u64.wrap ((s[q].toNat%128:Nat) * 2^(k * 7))))):=by
    show out=_;have hb:s.data.toList.getD (p+k) 0=s[q]:=by
     subst hqe;have:(p+k)<s.data.toList.length:=by simpa using hq
     rw[aU,bU this]
     rfl
    obtain⟨r',hr'⟩:∃r',r-k=r'+1:=⟨r-k-1,by omega⟩;rw[HE.out,hr',Hx.tY,hb,show r-(k+1)=r' by omega]
   clear HE hqe;have hdk:decide ((k:Int)<(s.size:Int)-(p:Int))=true:=by simp;omega
   go_wp2_with fail
   .have e1:out=(0,0):=by
     rw[HN.out,jl ⟨by omega,by omega⟩]
    go_ret2;exact⟨EH (by rw[e1];rfl) (by rw[e1];rfl),rfl⟩
   .have k9:k=9:=by omega
    have e1:out=(Hx.signed (bits .or .u64 x ((s[q].toNat:Int)%128 * 9223372036854775808)),10):=by
     rw[HN.out,jk (by omega),jl (by omega)];have e2:IntKind.u64.wrap (((s[q].toNat%128:Nat):Int) * 2^(k * 7))=(s[q].toNat:Int)%128 * 9223372036854775808:=by
      rw[k9,IntKind.wrap_u64];omega
     rw[e2,k9]
     rfl
    refine(Rj _ _ (Ap _ _).1 (Ap _ _).2).mono ?_;rintro e w' ⟨rfl,rfl⟩;go_wp2;go_ret2;exact⟨EH (by rw[e1];rfl) (by rw[e1];rfl),rfl⟩
   .have e1:out=(Hx.signed (bits .or .u64 x (IntKind.u64.wrap ((s[q].toNat:Int)%128 * 2^(k * 7)))),(k:Int)+1):=by
     rw[HN.out,jk (by omega),jl (by omega)]
     rfl
    refine(Rj _ _ (Ap _ _).1 (Ap _ _).2).mono ?_;rintro e w' ⟨rfl,rfl⟩;go_wp2;go_ret2;exact⟨EH (by rw[e1];rfl) (by rw[e1];rfl),rfl⟩
   .have HE2:Hid (out=Hx.tY s.data.toList p (r-(k+1)) (k+1) (bits .or .u64 x (IntKind.u64.wrap ((s[q].toNat:Int)%128 * 2^(k * 7))))):=by
     show out=_;rw[HN.out,jk (by omega),jk (by omega)]
     rfl
    refine⟨⟨k+1,_,by omega,by go_num,rfl,(Ap _ _).1,(Ap _ _).2,HE2⟩,?_⟩;simp[intOf];omega
  .have HF:Hid (out=(0,0)):=by
    show out=_;rw[HE.out,show r-k=0 by omega];rfl
   have hdk:decide ((k:Int)<(s.size:Int)-(p:Int))=false:=by simp;omega
   clear HE;go_wp2;go_ret2;exact⟨EH (by rw[HF.out];rfl) (by rw[HF.out];rfl),rfl⟩
theorem apz(s:jm)(p:Nat)(out:Int×Int)(w:jo)(hs:s.size<=100000)(a1:10<(s.size:Int)-(p:Int))
 (HR:Hid (out=Hx.tY s.data.toList p 10 0 0)):
 Calls prog 166 #[.string s,Im p] w λe w'=>e=.returned (.tuple #[Im out.1,Im out.2])/\w'=w:=by
 go_enter func166,ntmps166;go_wp2;go_loop [6,14] (λacc i=>∃(k:Nat)(x:Int),k<=10/\i=Im k/\acc=.int .u64 x/\0<=x/\x<18446744073709551616/\Hid (out=Hx.tY s.data.toList p (10-k) k x)) (λ_ i=>10-(intOf i).toNat)
 case atStart=>exact⟨0,0,bD _,rfl,rfl,by omega,by omega,HR⟩
 case round=>
  obtain⟨k,x,hk,rfl,rfl,hx0,hx1,HE⟩:=hrel;clear HR;by_cases hlt:k<10
  .obtain⟨q,hqe⟩:∃q,p+k=q:=⟨_,rfl⟩;have hq:q<s.size:=by omega
   have hpk:(p:Int)+(k:Int)=(q:Int):=by omega
   have hq0:(0:Int)<=(q:Int):=by omega
   have hq1:(q:Int)<(s.size:Int):=by omega
   have HN:Hid (out=if k=9/\1<s[q].toNat then (0,0)
    else if s[q].toNat<128 then (Hx.signed (bits .or .u64 x (IntKind.u64.wrap ((s[q].toNat%128:Nat) * 2^(k * 7)))),(k:Int)+1)
    else Hx.tY s.data.toList p (10-(k+1)) (k+1) (bits .or .u64 x (IntKind.u64.wrap ((s[q].toNat%128:Nat) * 2^(k * 7))))):=by
    show out=_;have hb:s.data.toList.getD (p+k) 0=s[q]:=by
     subst hqe;have:(p+k)<s.data.toList.length:=by simpa using hq
     rw[aU,bU this]
     rfl
    obtain⟨r',hr'⟩:∃r',10-k=r'+1:=⟨10-k-1,by omega⟩;rw[HE.out,hr',Hx.tY,hb,show 10-(k+1)=r' by omega]
   clear HE hqe;have hdk:decide ((k:Int)<10)=true:=by simp;omega
   go_wp2_with fail
   .have e1:out=(0,0):=by
     rw[HN.out,jl ⟨by omega,by omega⟩]
    go_ret2;exact⟨EH (by rw[e1];rfl) (by rw[e1];rfl),rfl⟩
   .have k9:k=9:=by omega
    have e1:out=(Hx.signed (bits .or .u64 x ((s[q].toNat:Int)%128 * 9223372036854775808)),10):=by
     rw[HN.out,jk (by omega),jl (by omega)];have e2:IntKind.u64.wrap (((s[q].toNat%128:Nat):Int) * 2^(k * 7))=(s[q].toNat:Int)%128 * 9223372036854775808:=by
      rw[k9,IntKind.wrap_u64];omega
     rw[e2,k9]
     rfl
    refine(Rj _ _ (Ap _ _).1 (Ap _ _).2).mono ?_;rintro e w' ⟨rfl,rfl⟩;go_wp2;go_ret2;exact⟨EH (by rw[e1];rfl) (by rw[e1];rfl),rfl⟩
   .have e1:out=(Hx.signed (bits .or .u64 x (IntKind.u64.wrap ((s[q].toNat:Int)%128 * 2^(k * 7)))),(k:Int)+1):=by
     rw[HN.out,jk (by omega),jl (by omega)]
     rfl
    refine(Rj _ _ (Ap _ _).1 (Ap _ _).2).mono ?_;rintro e w' ⟨rfl,rfl⟩;go_wp2;go_ret2;exact⟨EH (by rw[e1];rfl) (by rw[e1];rfl),rfl⟩
   .have HE2:Hid (out=Hx.tY s.data.toList p (10-(k+1)) (k+1) (bits .or .u64 x (IntKind.u64.wrap ((s[q].toNat:Int)%128 * 2^(k * 7))))):=by
     show out=_;rw[HN.out,jk (by omega),jk (by omega)]
     rfl
    refine⟨⟨k+1,_,by omega,by go_num,rfl,(Ap _ _).1,(Ap _ _).2,HE2⟩,?_⟩;simp[intOf];omega
  .have HF:Hid (out=(0,0)):=by
    show out=_;rw[HE.out,show 10-k=0 by omega];rfl
   have hdk:decide ((k:Int)<10)=false:=by simp;omega
   clear HE;go_wp2;go_ret2;exact⟨EH (by rw[HF.out];rfl) (by rw[HF.out];rfl),rfl⟩
theorem apx(s:jm)(p:Nat)(w:jo)(hs:s.size<=100000)(hp:p<=s.size):
 Calls prog 166 #[.string s,Im p] w λe w'=>e=.returned (.tuple #[Im (Hx.read s.data.toList p).1,Im (Hx.read s.data.toList p).2])/\w'=w:=by
 have hlen:s.data.toList.length=s.size:=by simp
 by_cases h10:s.size-p<=10
 .exact apC s p (s.size-p) _ w hs (by omega) (by omega) (by omega) (by show _=_;unfold Hx.read;rw[hlen,Nat.min_eq_left h10])
 .exact apz s p _ w hs (by omega) (by show _=_;unfold Hx.read;rw[hlen,Nat.min_eq_right (by omega)])
end
section
abbrev dX:=@Go.World.frozen?_setCell
end
section
open Go.RowKit
open Hx (St Bk Ls jO)
section
def wK(s:St):List jr:=[.int .u8 s.op,Im s.a,Im s.b,Im s.c,Im s.d,Im s.depth,Im s.ku]
def rH(b:Bk):List jr:=[Im b.opener,Im b.other,Im b.jD,Im b.before]
structure jT(B:Nat)(w:jo)(L:Nat)(s:jm)(l:Ls)(vs vb vl:jr):Prop where
 bL:B<=L
 c0:w.cell? (Ad L 0)=some (.string s)
 c1:w.cell? (Ad L 1)=some (Im l.pos)
 c2:w.cell? (Ad L 2)=some vs
 c3:w.cell? (Ad L 3)=some vb
 c4:w.cell? (Ad L 4)=some vl
 c5:w.cell? (Ad L 5)=some (Im l.jE)
 c6:w.cell? (Ad L 6)=some (Im l.jD)
 c7:w.cell? (Ad L 7)=some (.bool l.bad)
 fr:∀j,w.frozen? (Ad L j)=false
 jC:w.ownsRow B 125 7 vs l.jC.length (l.jC.flatMap wK)
 jI:w.ownsRow B 226 4 vb l.jI.length (l.jI.flatMap rH)
 jY:w.ownsRow B 3 1 vl l.jY.length (l.jY.map (Value.int .i64))
 ns:vs.ownBlock≠some L
 nb:vb.ownBlock≠some L
 nl:vl.ownBlock≠some L
 sb:vs.ownBlock=none\/vs.ownBlock≠vb.ownBlock
 sl:vs.ownBlock=none\/vs.ownBlock≠vl.ownBlock
 bl:vb.ownBlock=none\/vb.ownBlock≠vl.ownBlock
structure jV(L:Nat)(w:jo)(vs vb vl:jr)(w':jo)(vs' kJ lq:jr):Prop where
 os:w'.os=w.os
 tape:w'.tape=w.tape
 output:w'.output=w.output
 size:w.heap.size<=w'.heap.size
 block:∀k,k<w.heap.size->k≠L->some k≠vs.ownBlock->some k≠vb.ownBlock->some k≠vl.ownBlock->w'.heap[k]? =w.heap[k]?
 fs:∀g,vs'.ownBlock=some g->vs.ownBlock=some g\/w.heap.size<=g
 fb:∀g,kJ.ownBlock=some g->vb.ownBlock=some g\/w.heap.size<=g
 fl:∀g,lq.ownBlock=some g->vl.ownBlock=some g\/w.heap.size<=g
theorem jV.refl(L:Nat)(w:jo)(vs vb vl:jr):jV L w vs vb vl w vs vb vl:=
 ⟨rfl,rfl,rfl,aj _,λ_ _ _ _ _ _=>rfl,λ_ h=>ji h,λ_ h=>ji h,λ_ h=>ji h⟩
theorem jV.trans{L:Nat}{w w1 w2:jo}{vs vb vl vs1 vb1 vl1 vs2 vb2 vl2:jr}(h:jV L w vs vb vl w1 vs1 vb1 vl1)(k:jV L w1 vs1 vb1 vl1 w2 vs2 vb2 vl2):jV L w vs vb vl w2 vs2 vb2 vl2:=by
 have aux:∀{v v1:jr},(∀g,v1.ownBlock=some g->v.ownBlock=some g\/w.heap.size<=g)->∀j,j<w.heap.size->some j≠v.ownBlock->some j≠v1.ownBlock:=λhf j hj hn e=>by
  rcases hf j e.symm with h1|h1
  .exact hn h1.symm
  .omega
 have aux2:∀{v v1 v2:jr},(∀g,v1.ownBlock=some g->v.ownBlock=some g\/w.heap.size<=g)->(∀g,v2.ownBlock=some g->v1.ownBlock=some g\/w1.heap.size<=g)->∀g,v2.ownBlock=some g->v.ownBlock=some g\/w.heap.size<=g:=λh1 h2 g hg=>by
  rcases h2 g hg with h3|h3
  .exact h1 g h3
  .exact jh (dH h.size h3)
 refine⟨k.os.trans h.os,k.tape.trans h.tape,k.output.trans h.output,dH h.size k.size,λj hj hL h1 h2 h3=>?_,aux2 h.fs k.fs,aux2 h.fb k.fb,aux2 h.fl k.fl⟩;rw[k.block j (Nat.lt_of_lt_of_le hj h.size) hL (aux h.fs j hj h1) (aux h.fb j hj h2) (aux h.fl j hj h3)];exact h.block j hj hL h1 h2 h3
variable {B:Nat}{w:jo}{L:Nat}{s:jm}{l:Ls}{vs vb vl:jr}
theorem jT.lt(h:jT B w L s l vs vb vl):L<w.heap.size:=World.block_lt_of_cell? w _ h.c0
theorem jT.grow(h:jT B w L s l vs vb vl){w':jo}(hg:w.grownBy w' none):jT B w' L s l vs vb vl:=by
 have hb:=hg.block L h.lt (by simp);have hc:∀j,w'.cell? (Ad L j)=w.cell? (Ad L j):=λj=>bQ hb;have hf:∀j,w'.frozen? (Ad L j)=w.frozen? (Ad L j):=λj=>dZ hb;have hk:∀v:jr,v.ownBlock=none\/v.ownBlock≠none:=λv=>by cases v.ownBlock<;>simp
 exact⟨h.bL,by rw[hc];exact h.c0,by rw[hc];exact h.c1,by rw[hc];exact h.c2,by rw[hc];exact h.c3,by rw[hc];exact h.c4,by rw[hc];exact h.c5,by rw[hc];exact h.c6,by rw[hc];exact h.c7,
  λj=>by rw[hf];exact h.fr j,h.jC.kept hg (hk vs),h.jI.kept hg (hk vb),h.jY.kept hg (hk vl),h.ns,h.nb,h.nl,h.sb,h.sl,h.bl⟩
theorem jT.alloc(h:jT B w L s l vs vb vl)(o:Obj):jT B (w.alloc o) L s l vs vb vl:=h.grow (ah w o none)
theorem jT.drewN(h:jT B w L s l vs vb vl)(n:Nat):jT B (w.drewN n) L s l vs vb vl:=h.grow ⟨rfl,rfl,rfl,aj _,λ_ _ _=>rfl⟩
theorem jV.grow(L:Nat)(w:jo)(vs vb vl:jr){w':jo}(hg:w.grownBy w' none):jV L w vs vb vl w' vs vb vl:=
 ⟨hg.os,hg.tape,hg.output,hg.size,λk hk _ _ _ _=>hg.block k hk (by simp),λ_ h=>ji h,λ_ h=>ji h,λ_ h=>ji h⟩
theorem jT.put(h:jT B w L s l vs vb vl)(j:Nat)(u:jr)(l':Ls)(vs' kJ lq:jr)
 (h1:(w.setCell (Ad L j) u).cell? (Ad L 1)=some (Im l'.pos))(h2:(w.setCell (Ad L j) u).cell? (Ad L 2)=some vs')(h3:(w.setCell (Ad L j) u).cell? (Ad L 3)=some kJ)
 (h4:(w.setCell (Ad L j) u).cell? (Ad L 4)=some lq)(h5:(w.setCell (Ad L j) u).cell? (Ad L 5)=some (Im l'.jE))(h6:(w.setCell (Ad L j) u).cell? (Ad L 6)=some (Im l'.jD))
 (h7:(w.setCell (Ad L j) u).cell? (Ad L 7)=some (.bool l'.bad))(h0:¬j=0)
 (hs:w.ownsRow B 125 7 vs' l'.jC.length (l'.jC.flatMap wK))(hb:w.ownsRow B 226 4 kJ l'.jI.length (l'.jI.flatMap rH))(hl:w.ownsRow B 3 1 lq l'.jY.length (l'.jY.map (Value.int .i64)))
 (ns:vs'.ownBlock≠some L)(nb:kJ.ownBlock≠some L)(nl:lq.ownBlock≠some L)(sb:vs'.ownBlock=none\/vs'.ownBlock≠kJ.ownBlock)(sl:vs'.ownBlock=none\/vs'.ownBlock≠lq.ownBlock)(bl:kJ.ownBlock=none\/kJ.ownBlock≠lq.ownBlock):
 jT B (w.setCell (Ad L j) u) L s l' vs' kJ lq:=by
 have hg:=vH w (Ad L j) u;exact⟨h.bL,by rw[bG _ _ _ _ (by intro e;cases e;exact h0 rfl)];exact h.c0,h1,h2,h3,h4,h5,h6,h7,λj'=>by rw[dX];exact h.fr j',
  hs.kept hg (jh ns),hb.kept hg (jh nb),hl.kept hg (jh nl),ns,nb,nl,sb,sl,bl⟩
theorem jV.own(L:Nat)(w:jo)(vs vb vl:jr)(j:Nat)(u:jr):jV L w vs vb vl (w.setCell (Ad L j) u) vs vb vl:=
 ⟨rfl,rfl,rfl,by simp,λk _ hL _ _ _=>bC _ _ _ _ hL,λ_ h=>ji h,λ_ h=>ji h,λ_ h=>ji h⟩
end
section
variable {B:Nat}{w:jo}{L:Nat}{s:jm}{l:Ls}{vs vb vl:jr}
theorem jT.ao5(h:jT B w L s l vs vb vl)(x:Int):jT B (w.setCell (Ad L 5) (Im x)) L s {l with jE:=x} vs vb vl:=by
 have hc:∀k,¬k=5->(w.setCell (Ad L 5) (Im x)).cell? (Ad L k)=w.cell? (Ad L k):=λk hk=>bG _ _ _ _ (by intro e;cases e;exact hk rfl);exact h.put 5 _ _ vs vb vl (by rw[hc 1 (by omega)];exact h.c1) (by rw[hc 2 (by omega)];exact h.c2) (by rw[hc 3 (by omega)];exact h.c3) (by rw[hc 4 (by omega)];exact h.c4) (dB _ _ _ h.c5) (by rw[hc 6 (by omega)];exact h.c6) (by rw[hc 7 (by omega)];exact h.c7) (by omega) h.jC h.jI h.jY h.ns h.nb h.nl h.sb h.sl h.bl
theorem jT.Ir(h:jT B w L s l vs vb vl):jT B (w.setCell (Ad L 7) (.bool true)) L s {l with bad:=true} vs vb vl:=by
 have hc:∀k,¬k=7->(w.setCell (Ad L 7) (.bool true)).cell? (Ad L k)=w.cell? (Ad L k):=λk hk=>bG _ _ _ _ (by intro e;cases e;exact hk rfl);exact h.put 7 _ _ vs vb vl (by rw[hc 1 (by omega)];exact h.c1) (by rw[hc 2 (by omega)];exact h.c2) (by rw[hc 3 (by omega)];exact h.c3) (by rw[hc 4 (by omega)];exact h.c4) (by rw[hc 5 (by omega)];exact h.c5) (by rw[hc 6 (by omega)];exact h.c6) (dB _ _ _ h.c7) (by omega) h.jC h.jI h.jY h.ns h.nb h.nl h.sb h.sl h.bl
theorem arj(h:jT B w L s l vs vb vl)(n:Int)(h0:0<=n)(h1:n<2008):
 Calls prog 167 #[Pt L 0,.int .i32 115,Im n] w λe w'=>e=.returned (.bool true)/\jT B w' L s {l with jE:=max l.jE (n+1)} vs vb vl/\jV L w vs vb vl w' vs vb vl:=by
 have c5:=h.c5;have f5:=h.fr 5;have d1:decide (n<0)=false:=by simpa using h0
 have d2:decide (2008<=n)=false:=by simpa using h1
 have HP:Hid (∀x,x=max l.jE (n+1)->jT B (w.setCell (Ad L 5) (Im x)) L s {l with jE:=max l.jE (n+1)} vs vb vl/\jV L w vs vb vl (w.setCell (Ad L 5) (Im x)) vs vb vl):=by
  intro x hx;refine⟨?_,jV.own _ _ _ _ _ _ _⟩;rw[<-hx];exact h.ao5 _
 generalize hl':({l with jE:=max l.jE (n+1)}:Ls)=l' at *;clear hl';generalize l.jE=sl at *;clear h;go_enter func167,ntmps167;go_wp2;all_goals (go_ret;exact⟨rfl,HP.out _ (by omega)⟩)
theorem arh(h:jT B w L s l vs vb vl)(n:Int)(hn:n<0\/2008<=n):
 Calls prog 167 #[Pt L 0,.int .i32 115,Im n] w λe w'=>e=.returned (.bool false)/\w'=w:=by
 have _h:=h.c5;clear _h h;by_cases h0:n<0
 .have d1:decide (n<0)=true:=by simpa using h0
  go_enter func167,ntmps167;go_wp2;go_ret;exact⟨rfl,rfl⟩
 .have d1:decide (n<0)=false:=by simpa using h0
  have d2:decide (2008<=n)=true:=by simp;omega
  go_enter func167,ntmps167;go_wp2;go_ret;exact⟨rfl,rfl⟩
theorem ari(n:Int)(w:jo)(L:Nat):
 Calls prog 167 #[Pt L 0,.int .i32 108,Im n] w λe w'=>e=.returned (.bool (decide (0<=n/\n<3)))/\w'=w:=by
 by_cases h0:0<=n
 .have d1:decide (0<=n)=true:=by simpa using h0
  go_enter func167,ntmps167;go_wp2;go_ret;exact⟨Ar (by simp[h0]),rfl⟩
 .have d1:decide (0<=n)=false:=by simpa using h0
  go_enter func167,ntmps167;go_wp2;go_ret;exact⟨Ar (by simp),rfl⟩
theorem arf(c n:Int)(w:jo)(L:Nat)(h1:(c==115)=false)(h2:(c==108)=false):
 Calls prog 167 #[Pt L 0,.int .i32 c,Im n] w λe w'=>e=.returned (.bool true)/\w'=w:=by
 go_enter func167,ntmps167;go_wp2;go_ret;exact⟨rfl,rfl⟩
end
end
end Go.Proofs.YthllhabjfchgiaaGreatDoor
