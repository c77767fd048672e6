import Derived.Test.YthllhabjfchgiaaGreatDoorHs01
import Derived.Laws.IdiomCopy
import Derived.Deep.Slices
import Derived.Deep.Fields
import Derived.Deep.Strs
import Derived.OpenShut
set_option maxRecDepth 100000
set_option maxHeartbeats 8000000
set_option linter.unusedSimpArgs false
namespace Go.Proofs.YthllhabjfchgiaaGreatDoor
open _root_.Go.Proofs.Tryz
section
abbrev bF:=@Go.wpQuiet_nil
abbrev bH:=@Go.World.cell?_drewN
abbrev dK:=@Go.RowKit.Below.refl
abbrev fK:=@Go.World.ownsRow_nil
abbrev fQ:=@Go.World.cell?_alloc_at
abbrev gB:=@Go.World.cell?_alloc_past
abbrev jo:=@Go.TypeId
end
section
open Go.RowKit
open Hx (Rd Pk Vw St Mc jK)
section
variable {B C:Nat}{w:jk}{M SB:Nat}{v:Vw}{m:Mc}
theorem adP:(prog.info? 3).map (λi=>(i.zero,i.size,i.bytes))=some (some (Im 0),1,8):=by kernel_rfl
theorem asJ(n:Nat)(f:n<=100000)(w:jk):
 (Instr.makeSlice 91 (Im (n:Int)) (Im (n:Int))).run prog w=.ok (.slice (some (Ad w.heap.size 0)) n n) (w.alloc (.cells (madeCells #[Im 0] n) 3)):=by
 obtain⟨e,b,c,a,d⟩:=info_parts adP;have:=run_makeSlice (P:=prog) w 91 3 e (Im 0) Tryz.underlying91 b c .i64 .i64 n n (by omega) (by omega) (by rw[a];simp;omega) (by rw[d];omega) (by omega);rw[this,a];simp[Value.cells]
def wJ(x0 x1 x2 x3 x4 x5 x6 x7:Int):List jm:=[Im x0,Im x1,Im x2,Im x3,Im x4,Im x5,Im x6,Im x7]
def wB(w:jk)(ar af aa:Option Addr)(nr cr nf cf na ca:Nat)(x0 x1 x2 x3 x4 x5 x6 x7:Int)(n:Nat)(zs:Array jm):jk:=
 (((w.alloc (Obj.cells #[.slice ar nr cr,.slice af nf cf,.slice aa na ca] 25)).alloc
   (Obj.cells #[Im x0,Im x1,Im x2,Im x3,Im x4,Im x5,Im x6,Im x7] 26)).alloc
   (Obj.cells zs 3)).alloc
   (Obj.cells #[.slice ar nr cr,.slice af nf cf,.slice aa na ca,.slice (some (Ad (w.heap.size+1+1) 0)) n n,.int .u64 0,.int .u64 0,.int .u64 0,.int .u64 0,.int .u64 0,.int .u64 0,.int .u64 0,.int .u64 0,Nl] 130)
section
variable (w:jk)(ar af aa:Option Addr)(nr cr nf cf na ca:Nat)(x0 x1 x2 x3 x4 x5 x6 x7:Int)(n:Nat)(zs:Array jm)
theorem apO:(wB w ar af aa nr cr nf cf na ca x0 x1 x2 x3 x4 x5 x6 x7 n zs).heap.size=w.heap.size+4:=by simp[wB]
theorem ae2(k:Nat):(wB w ar af aa nr cr nf cf na ca x0 x1 x2 x3 x4 x5 x6 x7 n zs).cell? (Ad (w.heap.size+1+1+1) k)=#[Value.slice ar nr cr,.slice af nf cf,.slice aa na ca,.slice (some (Ad (w.heap.size+1+1) 0)) n n,.int .u64 0,.int .u64 0,.int .u64 0,.int .u64 0,.int .u64 0,.int .u64 0,.int .u64 0,.int .u64 0,Nl][k]? :=
 fQ _ _ _ _ (by simp)
theorem apM(k:Nat):(wB w ar af aa nr cr nf cf na ca x0 x1 x2 x3 x4 x5 x6 x7 n zs).frozen? (Ad (w.heap.size+1+1+1) k)=false:=
 World.frozen?_alloc_at _ _ _ _ (by simp)
theorem ae4(k:Nat):(wB w ar af aa nr cr nf cf na ca x0 x1 x2 x3 x4 x5 x6 x7 n zs).cell? (Ad (w.heap.size+1+1) k)=zs[k]? :=by
 unfold wB;rw[gB _ _ _ (by simp)];exact fQ _ _ _ _ (by simp)
theorem ae5(k:Nat):(wB w ar af aa nr cr nf cf na ca x0 x1 x2 x3 x4 x5 x6 x7 n zs).frozen? (Ad (w.heap.size+1+1) k)=false:=by
 unfold wB;rw[World.frozen?_alloc_past _ _ _ (by simp)];exact World.frozen?_alloc_at _ _ _ _ (by simp)
theorem apN(k:Nat):(wB w ar af aa nr cr nf cf na ca x0 x1 x2 x3 x4 x5 x6 x7 n zs).cell? (Ad (w.heap.size+1) k)=(wJ x0 x1 x2 x3 x4 x5 x6 x7)[k]? :=by
 unfold wB;rw[gB _ _ _ (by simp),gB _ _ _ (by simp)];rw[fQ _ _ _ _ (by simp)];simp[wJ]
theorem ae3:w.grownBy (wB w ar af aa nr cr nf cf na ca x0 x1 x2 x3 x4 x5 x6 x7 n zs) none:=by
 unfold wB;have a:=ah w (Obj.cells #[Value.slice ar nr cr,.slice af nf cf,.slice aa na ca] 25) none;exact((a.trans (ah _ _ none)).trans (ah _ _ none)).trans (ah _ _ none)
end
theorem apQ(ar af aa:Option Addr)(nr cr nf cf na ca:Nat)(x0 x1 x2 x3 x4 x5 x6 x7:Int)(n:Nat)(w:jk)(p:n<=100000)(t:8<=n):
 Calls prog 49 #[.agg #[.slice ar nr cr,.slice af nf cf,.slice aa na ca],.agg #[Im x0,Im x1,Im x2,Im x3,Im x4,Im x5,Im x6,Im x7],Im n] w λe b=>
  e=.returned (Pt (w.heap.size+1+1+1) 0)/\∃k,b=((wB w ar af aa nr cr nf cf na ca x0 x1 x2 x3 x4 x5 x6 x7 n (madeCells #[Im 0] n)).drewN k).setCells (w.heap.size+1+1) 0 (wJ x0 x1 x2 x3 x4 x5 x6 x7):=by
 have A:=λ(w:jk)=>asJ n p w;have x:(madeCells #[Im 0] n).size=n:=size_madeCells _ _;generalize madeCells #[Im 0] n=zs at *;have i:=ae2 w ar af aa nr cr nf cf na ca x0 x1 x2 x3 x4 x5 x6 x7 n zs 3;have y:=λ(r:jo)(k:Nat)=>run_copy_cells (P:=prog) ((wB w ar af aa nr cr nf cf na ca x0 x1 x2 x3 x4 x5 x6 x7 n zs).drewN k) 91 91 r 3 (w.heap.size+1+1) 0 n n (Ad (w.heap.size+1) 0) 8 8 (wJ x0 x1 x2 x3 x4 x5 x6 x7)
  Tryz.underlying91 (by kernel_rfl) (by show 8=min 8 n;omega)
  (by
    intro j u d;have e:((Ad (w.heap.size+1) 0):Addr).add j=(Ad (w.heap.size+1) j):=by unfold Addr.add;split<;>simp_all
    rw[e,bH,apN];exact d)
  (by
    intro j d;have:j<8:=by simpa [wJ]using d
    rw[bH,gW,ae4];simp;omega)
  (by intro j _;rw[World.frozen?_drewN];exact ae5 w ar af aa nr cr nf cf na ca x0 x1 x2 x3 x4 x5 x6 x7 n zs _)
  (by simp[wJ,Value.oneCell'])
 simp only[List.getElem?_toArray,iY,dw]at i;go_enter func49,ntmps49;go_wp2_with fail;go_region_held3 (λb=>b.cell? (Ad w.heap.size 0)=some (.slice ar nr cr)/\b.cell? (Ad w.heap.size 1)=some (.slice af nf cf)/\b.cell? (Ad w.heap.size 2)=some (.slice aa na ca)) (go_keep) (fail);go_wp2_with fail;rename_i c z o;clear c;rw[show((((w.alloc (Obj.cells #[.slice ar nr cr,.slice af nf cf,.slice aa na ca] 25)).alloc
  (Obj.cells #[Im x0,Im x1,Im x2,Im x3,Im x4,Im x5,Im x6,Im x7] 26)).alloc
  (Obj.cells zs 3)).alloc
  (Obj.cells #[.slice ar nr cr,.slice af nf cf,.slice aa na ca,.slice (some (Ad (w.heap.size+1+1) 0)) n n,.int .u64 0,.int .u64 0,.int .u64 0,.int .u64 0,.int .u64 0,.int .u64 0,.int .u64 0,.int .u64 0,Nl] 130))=wB w ar af aa nr cr nf cf na ca x0 x1 x2 x3 x4 x5 x6 x7 n zs from rfl]
 generalize g:wB w ar af aa nr cr nf cf na ca x0 x1 x2 x3 x4 x5 x6 x7 n zs=W at *;have h:=jA g;clear g;refine Dp (w:=W) (k:=1) 5 (by kernel_rfl) (by kernel_rfl) ?_;simp only[aC,aO,aG,aQ];repeat (go_big_quiet_step (fail))
 refine bF ?_;intro _ f;obtain⟨q,a⟩:=f;subst a;go_wp2;go_ret;exact⟨rfl,q,by rw[h.out]⟩
structure uV(B:Nat)(w:jk)(ar af aa:Option Addr)(nr nf na:Nat)(v:Vw):Prop where
 jU:Gs B w ar v.jU
 kK:JJ B w af v.kK
 jW:JJ B w aa v.jW
 KE:nr=v.jU.length
 KD:nf=v.kK.length
 KC:na=v.jW.length
 yX:v.yO
structure Good(v:Vw):Prop where
 KN:v.jU.length<=8
 KL:v.kK.length<=16
 KJ:v.jW.length<=16
 ids:∀r∈v.jU,0<=r.id/\r.id<8
def sN(x0 x1 x2 x3 x4 x5 x6 x7:Int)(n:Nat):Mc:=⟨[x0,x1,x2,x3,x4,x5,x6,x7]++List.replicate (n-8) 0,List.replicate 8 0,[]⟩
theorem aeH(n k:Nat)(a:k<n):(madeCells #[Im 0] n)[k]? =some (Im 0):=by
 have:=toList_madeCells_one (Im 0) n;rw[<-Array.getElem?_toList,this];simp[a]
theorem agw(x0 x1 x2 x3 x4 x5 x6 x7:Int):∀j (h:j<(wJ x0 x1 x2 x3 x4 x5 x6 x7).length),(wJ x0 x1 x2 x3 x4 x5 x6 x7)[j]=Im ([x0,x1,x2,x3,x4,x5,x6,x7].getD j 0)
 |0,_=>rfl
 |1,_=>rfl
 |2,_=>rfl
 |3,_=>rfl
 |4,_=>rfl
 |5,_=>rfl
 |6,_=>rfl
 |7,_=>rfl
theorem left_at(a b c d e:jm):∀j,j<8->#[a,b,c,d,Value.int .u64 0,.int .u64 0,.int .u64 0,.int .u64 0,.int .u64 0,.int .u64 0,.int .u64 0,.int .u64 0,e][4+j]? =some (.int .u64 0)
 |0,_=>rfl
 |1,_=>rfl
 |2,_=>rfl
 |3,_=>rfl
 |4,_=>rfl
 |5,_=>rfl
 |6,_=>rfl
 |7,_=>rfl
theorem aiC(j:Nat)(n:Nat):(List.replicate n (0:Int)).getD j 0=0:=by
 simp only[aU,List.getElem?_replicate];split<;>simp
theorem apL(V:1<B)(X:B<=w.heap.size)(Y:wO w){ar af aa:Option Addr}{nr cr nf cf na ca:Nat}(t:uV B w ar af aa nr nf na v)(I:Good v)(x0 x1 x2 x3 x4 x5 x6 x7:Int)(n:Nat)(h8:8<=n)
 (g:∀x∈[x0,x1,x2,x3,x4,x5,x6,x7],jK x)(k:Nat):
 kP B (w.heap.size+4) (((wB w ar af aa nr cr nf cf na ca x0 x1 x2 x3 x4 x5 x6 x7 n (madeCells #[Im 0] n)).drewN k).setCells (w.heap.size+1+1) 0 (wJ x0 x1 x2 x3 x4 x5 x6 x7)) (w.heap.size+1+1+1) (w.heap.size+1+1) v (sN x0 x1 x2 x3 x4 x5 x6 x7 n):=by
 generalize p:wB w ar af aa nr cr nf cf na ca x0 x1 x2 x3 x4 x5 x6 x7 n (madeCells #[Im 0] n)=W;have R:W.heap.size=w.heap.size+4:=by rw[<-p];exact apO ..
 have O:∀k,W.cell? (Ad (w.heap.size+1+1+1) k)=#[Value.slice ar nr cr,.slice af nf cf,.slice aa na ca,.slice (some (Ad (w.heap.size+1+1) 0)) n n,.int .u64 0,.int .u64 0,.int .u64 0,.int .u64 0,.int .u64 0,.int .u64 0,.int .u64 0,.int .u64 0,Nl][k]? :=λk=>by rw[<-p];exact ae2 ..
 have A:∀k,W.frozen? (Ad (w.heap.size+1+1+1) k)=false:=λk=>by rw[<-p];exact apM ..
 have T:∀k,W.cell? (Ad (w.heap.size+1+1) k)=(madeCells #[Im 0] n)[k]? :=λk=>by rw[<-p];exact ae4 ..
 have N:∀k,W.frozen? (Ad (w.heap.size+1+1) k)=false:=λk=>by rw[<-p];exact ae5 ..
 have D:w.grownBy W none:=by rw[<-p];exact ae3 ..
 clear p;have K:(wJ x0 x1 x2 x3 x4 x5 x6 x7).length=8:=rfl;have S:∀x:Addr,¬x.block=w.heap.size+1+1->((W.drewN k).setCells (w.heap.size+1+1) 0 (wJ x0 x1 x2 x3 x4 x5 x6 x7)).cell? x=W.cell? x:=λx g=>by
  rw[World.cell?_setCells_out _ _ _ _ _ (λe=>jl e g),bH]
 have q:∀x:Addr,((W.drewN k).setCells (w.heap.size+1+1) 0 (wJ x0 x1 x2 x3 x4 x5 x6 x7)).frozen? x=W.frozen? x:=λx=>by
  rw[World.frozen?_setCells,World.frozen?_drewN]
 have G:∀x:Addr,x.block<w.heap.size->((W.drewN k).setCells (w.heap.size+1+1) 0 (wJ x0 x1 x2 x3 x4 x5 x6 x7)).cell? x=w.cell? x:=λx g=>by
  rw[S x (by omega)];exact bQ (D.block _ g (by simp))
 have u:∀J,((W.drewN k).setCells (w.heap.size+1+1) 0 (wJ x0 x1 x2 x3 x4 x5 x6 x7)).cell? (Ad (w.heap.size+1+1+1) J)=#[Value.slice ar nr cr,.slice af nf cf,.slice aa na ca,.slice (some (Ad (w.heap.size+1+1) 0)) n n,.int .u64 0,.int .u64 0,.int .u64 0,.int .u64 0,.int .u64 0,.int .u64 0,.int .u64 0,.int .u64 0,Nl][J]? :=λJ=>by
  rw[S _ (by show¬w.heap.size+1+1+1=_;omega)];exact O J
 have f:(sN x0 x1 x2 x3 x4 x5 x6 x7 n).jD.length=n:=by simp[sN];omega
 have c:∀j,j<n->(sN x0 x1 x2 x3 x4 x5 x6 x7 n).jD.getD j 0=[x0,x1,x2,x3,x4,x5,x6,x7].getD j 0:=λj d=>by
  simp only[sN,aU];by_cases h:j<8
  .rw[aT (by simpa using h)]
  .rw[bW (by simp;omega)];simp[List.getElem?_replicate];split<;>simp_all
 have U:((W.drewN k).setCells (w.heap.size+1+1) 0 (wJ x0 x1 x2 x3 x4 x5 x6 x7)).heap.size=w.heap.size+4:=by
  simp[wJ,World.setCells,R]
 refine⟨⟨?_,?_,?_,I.KN,I.KL,I.KJ,I.ids,t.yX⟩,by omega,by omega,by omega,by omega,by omega,by omega,?_,?_,?_,?_,?_,by simp[sN],?_,?_,?_,?_,?_,V⟩
 .refine⟨ar,cr,by rw[u 0,<-t.KE];rfl,λi r F=>?_⟩;obtain⟨b,o,e,a,E⟩:=t.jU i r F;exact⟨b,o,e,a,E.keep a (λx g=>G x (by omega))⟩
 .refine⟨af,cf,by rw[u 1,<-t.KD];rfl,λi r F=>?_⟩;obtain⟨b,o,e,a,E⟩:=t.kK i r F;exact⟨b,o,e,a,E.keep a (λx g=>G x (by omega))⟩
 .refine⟨aa,ca,by rw[u 2,<-t.KC];rfl,λi r F=>?_⟩;obtain⟨b,o,e,a,E⟩:=t.jW i r F;exact⟨b,o,e,a,E.keep a (λx g=>G x (by omega))⟩
 .rw[u 3,f];rfl
 .intro j d;rw[f]at d;rw[c j d];by_cases h:j<8
  .have:=World.cell?_setCells_in (w.heap.size+1+1) (wJ x0 x1 x2 x3 x4 x5 x6 x7) 0 (W.drewN k) (λj' Q=>by
    rw[K]at Q;rw[bH,gW,T,aeH n j' (by omega)];rfl) j (by rw[K];exact h)
   rw[gW]at this;rw[this,agw]
  .rw[World.cell?_setCells_out _ _ _ _ _ (λ_ _=>je (by rw[K];show 0+8<=j;omega)),bH,T,aeH n j d];simp[aU,bV (show[x0,x1,x2,x3,x4,x5,x6,x7].length<=j by simp;omega)]
 .intro j _;rw[q];exact N j
 .intro j d;rw[u,left_at _ _ _ _ _ j d];exact congrArg (λz=>some (Value.int .u64 z)) (aiC j 8).symm
 .intro j _;rw[q];exact A _
 .exact⟨Nl,by rw[u];rfl,fK _ _ _ _⟩
 .rw[q];exact A _
 .intro j;by_cases h:j<n
  .rw[c j h,aU];cases Z:[x0,x1,x2,x3,x4,x5,x6,x7][j]?with
   |none=>exact Hx.D8
   |some y=>exact g y (bT Z)
  .rw[aU,bV (by omega)];exact Hx.D8
 .intro j;have:(sN x0 x1 x2 x3 x4 x5 x6 x7 n).left.getD j 0=0:=aiC j 8;rw[this];omega
 .intro j d;rw[G _ (by show 1<_;omega)];exact Y j d
theorem apP(ar af aa:Option Addr)(nr cr nf cf na ca:Nat)(x0 x1 x2 x3 x4 x5 x6 x7:Int)(n:Nat)(w:jk)(j:n<=100000)(d:8<=n):
 Calls prog 49 #[.agg #[.slice ar nr cr,.slice af nf cf,.slice aa na ca],.agg #[Im x0,Im x1,Im x2,Im x3,Im x4,Im x5,Im x6,Im x7],Im n] w λe c=>
  e=.returned (Pt (w.heap.size+1+1+1) 0)/\Below w.heap.size w c/\
  (∀B v,1<B->B<=w.heap.size->wO w->uV B w ar af aa nr nf na v->Good v->(∀x∈[x0,x1,x2,x3,x4,x5,x6,x7],jK x)->
    kP B (w.heap.size+4) c (w.heap.size+1+1+1) (w.heap.size+1+1) v (sN x0 x1 x2 x3 x4 x5 x6 x7 n)):=by
 refine(apQ ar af aa nr cr nf cf na ca x0 x1 x2 x3 x4 x5 x6 x7 n w j d).mono ?_;rintro e c ⟨rfl,k,rfl⟩;refine⟨rfl,?_,λB v a b f g h i=>apL a b f g h x0 x1 x2 x3 x4 x5 x6 x7 n d i k⟩;have a:Below w.heap.size w (wB w ar af aa nr cr nf cf na ca x0 x1 x2 x3 x4 x5 x6 x7 n (madeCells #[Im 0] n)):=(dK _ _).grown (ae3 ..) (aj _) (by simp);have b:=below_drewN a k;simp only[wJ,World.setCells];repeat (refine Below.setCell ?_ (by show w.heap.size<=w.heap.size+1+1;omega) _)
 exact b
end
end
section
open Go.ChangeShapes Go.WideShapes Go.Deep
section
section
variable {H:Type}{enc:jo×jm->H}{P:Program}{w:jk}{base:Nat}{spare:Nat->Bool}{held:Bool}
theorem ahI{t e:jo}{fs:Array Field}{fuel:Nat}{cs:List jm}{x:DataW H×List MemPlace}(R:P.underlying t=some (.slice e))(J:P.underlying e=some (.struct fs))
 (p:∀(i:Nat)(f:Field),fs[i]? =some f->f.offset=i/\P.cellsOf f.type=1)(F:P.cellsOf e=fs.size)(h:DataW.trod enc P w base spare held fuel t cs=some x):
 cs=[Nl]\/∃(a:Addr)(b c:Nat),cs=[.slice (some a) b c]/\b<=c/\c<=maxLen/\
  ∀i,i<b->∀(j:Nat)(f:Field),fs[j]? =some f->∃v y n,w.cell? (a.add (i * fs.size+j))=some v/\DataW.trod enc P w base spare held n f.type [v]=some y:=by
 rcases open_slice R h with⟨G,_⟩|⟨a,b,c,m,n,D,X,rfl,Y,N,Q,r,rfl,S⟩
 .exact jf G
 refine je ⟨a,b,c,rfl,N,Q,λi Z j f q=>?_⟩;have O:b<=m:=by rw[r];split<;>omega
 obtain⟨d,z,I⟩:=S i (by omega);rw[F]at z;obtain⟨_,A,o⟩:=World.cells?_some z;obtain⟨W,k,hk,U,_,T,K⟩:=DataW.trod_struct J I;obtain⟨V,E⟩:=p j f q;have hj:j<fs.size:=(Array.getElem?_eq_some_iff.1 q).1;have g:=K j f q;rw[V,E,take1_drop d j (.bool false) (by omega),bU (by omega)]at g;have u:=o j (by omega);rw[add_add,bU (by omega)]at u;refine⟨d.getD j (.bool false),W[j],k,?_,g⟩;rw[u];simp[List.getD,bU (show j<d.length by omega)]
theorem IX{n:Int}(h:(Lit.int .i64 n).wf=true):Hx.jK n:=bounds_i64 h
theorem asA{t e:jo}{I J K N O:Field}{fuel:Nat}{cs:List jm}{x:DataW H×List MemPlace}(ht:P.underlying t=some (.slice e))(he:P.underlying e=some (.struct #[I,J,K,N,O]))
 (y:oneCellFields P #[I,J,K,N,O]=true)(W:P.cellsOf e=5)(i0:P.underlying I.type=some (.int .i64))(i1:P.underlying J.type=some (.int .i64))(i2:P.underlying K.type=some (.int .i64))
 (i3:P.underlying N.type=some (.int .i64))(i4:P.underlying O.type=some .bool)(h:DataW.trod enc P w base spare held fuel t cs=some x):
 ∃(a:Option Addr)(c f:Nat)(S:List Hx.Rd),cs=[.slice a c f]/\c<=maxLen/\S.length=c/\Gs w.heap.size w a S/\∀r∈S,Hx.jK r.id/\Hx.jK r.qR/\Hx.jK r.tZ/\Hx.jK r.out:=by
 rcases ahI ht he (hone_of y) W h with rfl|⟨a,c,f,rfl,hl,hm,z⟩
 .exact⟨none,0,0,[],rfl,bD _,rfl,λi r d=>by simp at d,λr d=>by simp at d⟩
 have u:∀i,i<c->∃r:Hx.Rd,(w.cell? (a.add (i * 5))=some (Im r.id)/\w.cell? (a.add (i * 5+1))=some (Im r.qR)/\w.cell? (a.add (i * 5+2))=some (Im r.tZ)/\w.cell? (a.add (i * 5+3))=some (Im r.out)/\w.cell? (a.add (i * 5+4))=some (.bool r.wo))/\
  Hx.jK r.id/\Hx.jK r.qR/\Hx.jK r.tZ/\Hx.jK r.out:=by
  intro i j;obtain⟨v0,y0,n0,q,t0⟩:=z i j 0 I rfl;obtain⟨v1,y1,n1,D,t1⟩:=z i j 1 J rfl;obtain⟨v2,y2,n2,E,t2⟩:=z i j 2 K rfl;obtain⟨v3,y3,n3,F,t3⟩:=z i j 3 N rfl;obtain⟨v4,y4,n4,G,t4⟩:=z i j 4 O rfl;obtain⟨z0,X,_,r0⟩:=DataW.trod_int i0 t0;obtain⟨z1,Y,_,r1⟩:=DataW.trod_int i1 t1;obtain⟨z2,Z,_,r2⟩:=DataW.trod_int i2 t2;obtain⟨z3,e3,_,r3⟩:=DataW.trod_int i3 t3;obtain⟨z4,e4,_⟩:=DataW.trod_bool i4 t4;cases X;cases Y;cases Z;cases e3;cases e4;exact⟨⟨z0,z1,z2,z3,z4⟩,⟨q,D,E,F,G⟩,IX r0,IX r1,IX r2,IX r3⟩
 haveI:Inhabited Hx.Rd:=⟨⟨0,0,0,0,false⟩⟩
 obtain⟨g,Q⟩:=choose_lt u;refine⟨some a,c,f,(List.range c).map g,rfl,by omega,by simp,?_,?_⟩
 .intro i r d;simp only[fV,Option.map_eq_some_iff]at d;obtain⟨k,R,rfl⟩:=d;obtain⟨j,rfl⟩:i<c/\i=k:=by
   obtain⟨T,U⟩:=List.getElem?_eq_some_iff.1 R;simp at T U;exact⟨T,U⟩
  obtain⟨⟨q,D,E,F,G⟩,_⟩:=Q i j;obtain⟨b,o,A⟩:=a;have p:A=none:=by simpa [Addr.add]using World.cell?_spot (Q 0 (by omega)).1.1
  subst p;have V:=World.block_lt_of_cell? w _ q;rw[add_plain]at q D E F G V;exact⟨b,o,rfl,V,_,_,rfl,q,by simpa [fE]using D,by simpa [fE]using E,by simpa [fE]using F,by simpa [fE]using G⟩
 .intro r d;obtain⟨k,R,rfl⟩:=List.mem_map.1 d;exact(Q k (List.mem_range.1 R)).2
theorem afY{t e:jo}{E F G:Field}{fuel:Nat}{cs:List jm}{x:DataW H×List MemPlace}(X:P.underlying t=some (.slice e))(W:P.underlying e=some (.struct #[E,F,G]))
 (y:oneCellFields P #[E,F,G]=true)(S:P.cellsOf e=3)(Y:P.underlying E.type=some (.int .i64))(Z:P.underlying F.type=some (.int .i64))(i2:P.underlying G.type=some (.int .i64))
 (h:DataW.trod enc P w base spare held fuel t cs=some x):
 ∃(a:Option Addr)(c f:Nat)(N:List Hx.Pk),cs=[.slice a c f]/\c<=maxLen/\N.length=c/\JJ w.heap.size w a N/\∀r∈N,Hx.jK r.seq/\Hx.jK r.size/\Hx.jK r.on:=by
 rcases ahI X W (hone_of y) S h with rfl|⟨a,c,f,rfl,hl,hm,K⟩
 .exact⟨none,0,0,[],rfl,bD _,rfl,λi r d=>by simp at d,λr d=>by simp at d⟩
 have q:∀i,i<c->∃r:Hx.Pk,(w.cell? (a.add (i * 3))=some (Im r.seq)/\w.cell? (a.add (i * 3+1))=some (Im r.size)/\w.cell? (a.add (i * 3+2))=some (Im r.on))/\
  Hx.jK r.seq/\Hx.jK r.size/\Hx.jK r.on:=by
  intro i u;obtain⟨v0,y0,n0,p,t0⟩:=K i u 0 E rfl;obtain⟨v1,y1,n1,A,t1⟩:=K i u 1 F rfl;obtain⟨v2,y2,n2,D,t2⟩:=K i u 2 G rfl;obtain⟨z0,T,_,r0⟩:=DataW.trod_int Y t0;obtain⟨z1,U,_,r1⟩:=DataW.trod_int Z t1;obtain⟨z2,V,_,r2⟩:=DataW.trod_int i2 t2;cases T;cases U;cases V;exact⟨⟨z0,z1,z2⟩,⟨p,A,D⟩,IX r0,IX r1,IX r2⟩
 haveI:Inhabited Hx.Pk:=⟨⟨0,0,0⟩⟩
 obtain⟨g,I⟩:=choose_lt q;refine⟨some a,c,f,(List.range c).map g,rfl,by omega,by simp,?_,?_⟩
 .intro i r d;simp only[fV,Option.map_eq_some_iff]at d;obtain⟨k,J,rfl⟩:=d;obtain⟨u,rfl⟩:i<c/\i=k:=by
   obtain⟨O,Q⟩:=List.getElem?_eq_some_iff.1 J;simp at O Q;exact⟨O,Q⟩
  obtain⟨⟨p,A,D⟩,_⟩:=I i u;obtain⟨b,o,z⟩:=a;have j:z=none:=by simpa [Addr.add]using World.cell?_spot (I 0 (by omega)).1.1
  subst j;have R:=World.block_lt_of_cell? w _ p;rw[add_plain]at p A D R;exact⟨b,o,rfl,R,_,_,rfl,p,by simpa [fE]using A,by simpa [fE]using D⟩
 .intro r d;obtain⟨k,J,rfl⟩:=List.mem_map.1 d;exact(I k (List.mem_range.1 J)).2
theorem avu{t:jo}{d e f:Field}{tr R j i:jo}{I J K N O E F G:Field}{fuel:Nat}{cs:List jm}{x:DataW H×List MemPlace}
 (ht:P.underlying t=some (.struct #[d,e,f]))(a:oneCellFields P #[d,e,f]=true)(ct:P.cellsOf t=3)(k0:d.type=tr)(k1:e.type=R)(k2:f.type=R)
 (hr:P.underlying tr=some (.slice j))(k:P.underlying j=some (.struct #[I,J,K,N,O]))(g:oneCellFields P #[I,J,K,N,O]=true)(cr:P.cellsOf j=5)
 (i0:P.underlying I.type=some (.int .i64))(i1:P.underlying J.type=some (.int .i64))(i2:P.underlying K.type=some (.int .i64))(i3:P.underlying N.type=some (.int .i64))(i4:P.underlying O.type=some .bool)
 (V:P.underlying R=some (.slice i))(c:P.underlying i=some (.struct #[E,F,G]))(b:oneCellFields P #[E,F,G]=true)(T:P.cellsOf i=3)
 (W:P.underlying E.type=some (.int .i64))(X:P.underlying F.type=some (.int .i64))(Y:P.underlying G.type=some (.int .i64))
 (h:DataW.trod enc P w base spare held fuel t cs=some x):
 ∃(ar af aa:Option Addr)(nr cr nf cf na ca:Nat)(v:Hx.Vw),cs=[.slice ar nr cr,.slice af nf cf,.slice aa na ca]/\uV w.heap.size w ar af aa nr nf na v/\nr<=maxLen:=by
 obtain⟨y0,y1,y2,n,_,U,Z,t1,Q⟩:=trod_struct3 ht h;obtain⟨o0,c0⟩:=hone_of a 0 d rfl;obtain⟨o1,c1⟩:=hone_of a 1 e rfl;obtain⟨o2,S⟩:=hone_of a 2 f rfl;subst k0 k1;rw[ct]at U
 match cs,U with
 |[x0,x1,x2],_=>
  simp only[o0,c0,aQ,aC,aO]at Z;simp only[o1,c1,aG,aQ,aC,aO]at t1;rw[k2]at S Q;simp only[o2,S,aG,aQ,aC,aO]at Q;obtain⟨ar,nr,kr,rs,e0,lr,A,z,D⟩:=asA hr k g cr i0 i1 i2 i3 i4 Z;obtain⟨af,nf,kf,fs,e1,lf,p,o,q⟩:=afY V c b T W X Y t1;obtain⟨aa,na,ka,gs,e2,la,u,r,y⟩:=afY V c b T W X Y Q;cases e0;cases e1;cases e2;exact⟨ar,af,aa,nr,kr,nf,kf,na,ka,⟨rs,fs,gs⟩,rfl,⟨z,o,r,A.symm,p.symm,u.symm,⟨D,q,y⟩⟩,lr⟩
end
end
end
namespace Hx
open Go.RowKit
def push(v:Vw)(i j:Int)(m:Mc):Option Mc:=
 match v.mG i,v.nJ j with
 |some r,some p=>if m.jP.length=256 then none else some {m with jP:=m.jP++[(r.id,p.seq)]}
 |_,_=>some m
structure Out where
 status:Int
 jF:List Int
 jP:List (Int×Int)
def step(v:Vw)(jB:List St)(jF:List Int)(k:Nat)(s:St)(m:Mc):Out⊕(Int×Mc):=
 if s.op=1 then .inl ⟨0,m.jD,m.jP⟩
 else if s.op=2 then .inr (if m.get s.a=0 then s.kD else k+1,m)
 else if s.op=3 then .inr (s.kD,m)
 else if s.op=4 then .inr ((kR s k (rX v s m)).2,(kR s k (rX v s m)).1)
 else if s.op=5 then (if m.get s.a=0 then match jB[s.kD.toNat]?with
  |some l=>.inr ((kR l s.kD m).2,(kR l s.kD m).1)
  |none=>.inl ⟨2,jF,[]⟩
  else .inr (k+1,m))
 else if s.op=0 then match jB[s.kD.toNat]?with
  |some l=>.inr ((kR l s.kD m).2,(kR l s.kD m).1)
  |none=>.inl ⟨2,jF,[]⟩
 else if s.op=36 then match push v (m.get s.a) (m.get s.b) m with
  |none=>.inl ⟨1,jF,[]⟩
  |some m'=>.inr (k+1,m')
 else .inr (k+1,work v s m)
def runs(v:Vw)(jB:List St)(jF:List Int):Nat->Int->Mc->Out
 |0,_,_=>⟨2,jF,[]⟩
 |f+1,k,m=>match jB[k.toNat]?with
  |none=>⟨2,jF,[]⟩
  |some s=>match step v jB jF k.toNat s m with
   | .inl o=>o
   | .inr (k',m')=>runs v jB jF f k' m'
def Wv(jB:List St)(n:Nat)(x:Int):Prop:=
 ∃l,0<=x/\jB[x.toNat]? =some l/\x+1<jB.length/\0<=l.kD/\l.kD<jB.length/\St.slot n l.b/\0<=l.depth/\l.depth<8
structure St.fits(jB:List St)(n:Nat)(k:Nat)(s:St):Prop where
 u8:0<=s.op/\s.op<=255
 next:¬s.op=1->¬s.op=3->¬s.op=0->k+1<jB.length
 ifs:s.op=2->St.slot n s.a/\0<=s.kD/\s.kD<jB.length
 acj:s.op=3->0<=s.kD/\s.kD<jB.length
 jY:s.op=4->0<=s.kD/\s.kD<jB.length/\St.slot n s.b/\St.slot n s.c/\0<=s.depth/\s.depth<8
 Js:s.op=5->St.slot n s.a/\Wv jB n s.kD
 ends:s.op=0->Wv jB n s.kD
 Jl:s.op=36->St.slot n s.a/\St.slot n s.b
 works:¬s.op=1->¬s.op=2->¬s.op=3->¬s.op=4->¬s.op=5->¬s.op=0->¬s.op=36->s.TP n
structure Fits(jB:List St)(n:Nat):Prop where
 pos:0<jB.length
 len:jB.length<=1000000
 each:∀(k:Nat)(s:St),jB[k]? =some s->s.fits jB n k
def shape(o:Int):List UInt8:=
 if o=0\/o=1\/o=3 then []else if o=2\/o=5 then [115]else if o=6 then [115,110]else if o=21 then [115,108]
 else if o=7\/o=8\/o=9\/o=22\/o=23\/o=24\/o=27\/o=28\/o=29\/o=30\/o=31\/o=32\/o=33\/o=34\/o=36 then [115,115]
 else if o=4 then [108,115,115]
 else if o=10\/o=11\/o=12\/o=13\/o=14\/o=15\/o=16\/o=17\/o=18\/o=19\/o=20\/o=35 then [115,115,115]
 else if o=25\/o=26 then [115,115,115,115]else []
def Fp(o:Int):Bool:=decide (0<=o/\o<=36)
def signed(x:Int):Int:=if bits .and .u64 x 1==1 then bits .xor .i64 (-1) (x/2)else x/2
def uw(s:List UInt8)(p:Nat):Nat->Nat->Int->Int×Int
 |0,_,_=>(0,0)
 |r+1,i,acc=>
  if i=9/\1<(s.getD (p+i) 0).toNat then (0,0)
  else if (s.getD (p+i) 0).toNat<128 then (signed (bits .or .u64 acc (IntKind.u64.wrap (((s.getD (p+i) 0).toNat%128:Nat) * 2^(i * 7)))),i+1)
  else uw s p r (i+1) (bits .or .u64 acc (IntKind.u64.wrap (((s.getD (p+i) 0).toNat%128:Nat) * 2^(i * 7))))
def read(s:List UInt8)(p:Nat):Int×Int:=uw s p (min (s.length-p) 10) 0 0
def kQ(l:Int):Int:=if l=0 then 8 else 16
structure Bk where
 opener:Int
 other:Int
 jC:Int
 before:Int
structure Ls where
 pos:Int
 jB:List St
 jH:List Bk
 jY:List Int
 jD:Int
 jC:Int
 bad:Bool
def Ls.top(l:Ls):Bk:=l.jH.getLastD ⟨0,0,0,0⟩
def Ls.count(l:Ls)(more:Int):Ls:=
 {l with jH:=l.jH.dropLast++[{l.top with jC:=wrap64 (l.top.jC+more)}],bad:=l.bad||decide (40000040<wrap64 (l.top.jC+more))}
end Hx
section
open Go.RowKit
open Hx (St Bk Ls jK)
def mP(l:Ls)(st:St):Ls:=Hx.Ls.count {l with jB:=l.jB++[st]} 1
def xR(l:Ls)(st:St):Ls:={mP l st with jH:=(mP l st).jH++[⟨l.jB.length,0,0,0⟩]}
theorem Nk(l:Ls)(st:St):(mP l st).jB=l.jB++[st]:=rfl
theorem P6(l:Ls)(st:St)(a:l.jH≠[]):(mP l st).jH.length=l.jH.length:=by
 have:0<l.jH.length:=List.length_pos_iff.2 a;simp[mP,Hx.Ls.count];omega
def Jr(l:Ls)(st:St):Ls:=if l.jY=[]then {l with bad:=true}else mP l {st with kD:=l.jY.getLastD 0}
def Ja(l:Ls)(st:St):Ls:={xR l {st with depth:=l.jY.length}with jY:=l.jY++[(l.jB.length:Int)]}
def uf(l:Ls)(p:Nat)(st:St)(init:List Bk)(b:Bk):Ls:=Hx.Ls.count {l with jB:=l.jB.set p {st with kD:=l.jB.length},jH:=init} (max b.jC b.before)
def Ba(l:Ls):Ls:={mP l ⟨1,0,0,0,0,0,0⟩with jC:=(mP l ⟨1,0,0,0,0,0,0⟩).top.jC,jH:=[]}
def GK(l1:Ls)(p:Nat)(sp:St):Ls:=
 Hx.Ls.count {l1 with jH:=l1.jH.dropLast,jY:=l1.jY.dropLast,jB:=l1.jB.set p {sp with kD:=l1.jB.length}} (wrap64 (Hx.kQ sp.a * l1.top.jC))
def Bc(l:Ls)(st:St)(p:Nat)(sp:St):Ls:=GK (mP l {st with kD:=p}) p sp
def GI(l1:Ls)(ns p:Nat)(sp:St):Ls:=
 {l1 with jH:=l1.jH.dropLast++[⟨l1.top.opener,ns,0,l1.top.jC⟩],jB:=l1.jB.set p {sp with kD:=l1.jB.length}}
def ES(l:Ls)(st:St)(p:Nat)(sp:St):Ls:=GI (mP l st) l.jB.length p sp
theorem ajC(l:Ls)(st:St):(mP l st).top={l.top with jC:=wrap64 (l.top.jC+1)}:=by
 simp[mP,Hx.Ls.count,Hx.Ls.top]
def lH(l:Ls)(s:St):Ls:=
 if s.op=2 then xR l s
 else if s.op=4 then (if l.jY.length=8 then {l with bad:=true}else Ja l s)
 else if s.op=3 then
  (if l.jH.length=1\/0<l.top.other then {l with bad:=true}else match l.jB[l.top.opener.toNat]?with
    |none=>{l with bad:=true}
    |some sp=>if sp.op=2 then ES l s l.top.opener.toNat sp else {l with bad:=true})
 else if s.op=0 then
  (if l.jH.length=1 then Ba l else match l.jB[l.top.opener.toNat]?with
    |none=>{l with bad:=true}
    |some sp=>
     if sp.op=4 then Bc l s l.top.opener.toNat sp
     else if 0<l.top.other then match l.jB[l.top.other.toNat]?with
      |none=>{l with bad:=true}
      |some sr=>uf l l.top.other.toNat sr l.jH.dropLast l.top
     else uf l l.top.opener.toNat sp l.jH.dropLast l.top)
 else if s.op=5 then Jr l s
 else mP l s
def xk(bs:List UInt8):List UInt8->Nat->Int->Option (List Int×Nat×Int)
 |[],p,sl=>some ([],p,sl)
 |c::cs,p,sl=>
  if (Hx.read bs p).2=0 then none
  else if c=115/\((Hx.read bs p).1<0\/2008<=(Hx.read bs p).1)then none
  else if c=108/\¬(0<=(Hx.read bs p).1/\(Hx.read bs p).1<3)then none
  else (xk bs cs (p+(Hx.read bs p).2.toNat) (if c=115 then max sl ((Hx.read bs p).1+1)else sl)).map λr=>((Hx.read bs p).1::r.1,r.2)
def xW(bs:List UInt8)(l:Ls):Option (St×Ls):=
 match bs[l.pos.toNat]?with
 |none=>none
 |some o=>if Hx.Fp o.toNat then match xk bs (Hx.shape o.toNat) (l.pos.toNat+1) l.jD with
   |none=>none
   |some (ns,p,sl)=>some (⟨o.toNat,ns.getD 0 0,ns.getD 1 0,ns.getD 2 0,ns.getD 3 0,0,0⟩,{l with pos:=p,jD:=sl})
  else none
def ug:Ls:=⟨0,[],[⟨0,0,0,0⟩],[],8,0,false⟩
def vw(bs:List UInt8):Nat->Ls->Ls
 |0,l=>l
 |f+1,l=>if l.jH=[]\/l.bad=true then l else match xW bs l with
  |none=>{l with bad:=true}
  |some (s,l')=>vw bs f (lH l' s)
def mF(bs:List UInt8):Ls:=vw bs (bs.length+1) ug
def xA(bs:List UInt8):Bool:=decide (bs.length<=100000)&& !(mF bs).bad&&decide ((mF bs).pos=bs.length)
end
section
open Go.RowKit
theorem FH{a c b d:jm}(e:a=c)(f:b=d):Ending.returned (.tuple #[a,b])=.returned (.tuple #[c,d]):=by rw[e,f]
theorem aoD(l:Int)(w:jk):
 Calls prog 210 #[Im l] w λe a=>e=.returned (Im (Hx.kQ l))/\a=w:=by
 by_cases h:l=0
 .subst h;go_enter func210,ntmps210;go_wp2;go_ret;exact⟨rfl,rfl⟩
 .have b:(l==0)=false:=by simpa using h
  go_enter func210,ntmps210;go_wp2;go_ret;exact⟨zI (by simp[Hx.kQ,h]),rfl⟩
theorem atv(o:Int)(w:jk)(b:0<=o):
 Calls prog 165 #[.int .u8 o] w λe a=>e=.returned (.tuple #[.string ⟨(Hx.shape o).toArray⟩,.bool (Hx.Fp o)])/\a=w:=by
 go_enter func165,ntmps165;go_wp2;all_goals (go_ret2;refine⟨FH ?_ ?_,rfl⟩)
 all_goals (simp only[beq_iff_eq,beq_eq_false_iff_ne,ne_eq]at *)
 all_goals first|(subst_vars;rfl)|skip
 .simp[Hx.shape, *]
 .have e:Hx.Fp o=false:=by
   simp only[Hx.Fp,decide_eq_false_iff_not];omega
  rw[e]
  rfl
theorem Td(x:Int)(w:jk)(b:0<=x)(c:x<18446744073709551616):
 Calls prog 209 #[.int .u64 x] w λe a=>e=.returned (Im (Hx.signed x))/\a=w:=by
 unfold Hx.signed;generalize d:(bits .and .u64 x 1==1)=z;cases z with
 |false=>
  go_enter func209,ntmps209;go_wp2;go_ret;exact⟨rfl,rfl⟩
 |true=>
  go_enter func209,ntmps209;go_wp2;go_ret;exact⟨rfl,rfl⟩
theorem BA(x y:Int):0<=bits .or .u64 x y/\bits .or .u64 x y<18446744073709551616:=⟨bits_lo_u64 _ _ _,by have:=bits_hi_u64 .or x y;omega⟩
theorem asa(s:ji)(p r:Nat)(a:Int×Int)(w:jk)(U:s.size<=100000)(Q:(r:Int)<=(s.size:Int)-(p:Int))(R:(s.size:Int)-(p:Int)<=(r:Int))(S:(s.size:Int)-(p:Int)<=10)
 (z:Hid (a=Hx.uw s.data.toList p r 0 0)):
 Calls prog 166 #[.string s,Im p] w λe u=>e=.returned (.tuple #[Im a.1,Im a.2])/\u=w:=by
 go_enter func166,ntmps166;go_wp2;go_loop [6,14] (λh i=>∃(k:Nat)(x:Int),k<=r/\i=Im k/\h=.int .u64 x/\0<=x/\x<18446744073709551616/\Hid (a=Hx.uw s.data.toList p (r-k) k x)) (λ_ i=>r-(intOf i).toNat)
 case atStart=>exact⟨0,0,bD _,rfl,rfl,by omega,by omega,z⟩
 case round=>
  obtain⟨k,x,T,rfl,rfl,N,O,d⟩:=hrel;clear z;by_cases F:k<r
  .obtain⟨q,c⟩:∃q,p+k=q:=⟨_,rfl⟩;have I:q<s.size:=by omega
   have G:(p:Int)+(k:Int)=(q:Int):=by omega
   have J:(0:Int)<=(q:Int):=by omega
   have K:(q:Int)<(s.size:Int):=by omega
   have f:Hid (a=if k=9/\1<s[q].toNat then (0,0)
    else if s[q].toNat<128 then (Hx.signed (bits .or .u64 x (IntKind.u64.wrap ((s[q].toNat%128:Nat) * 2^(k * 7)))),(k:Int)+1)
    else Hx.uw s.data.toList p (r-(k+1)) (k+1) (bits .or .u64 x (IntKind.u64.wrap ((s[q].toNat%128:Nat) * 2^(k * 7))))):=by
    show a=_;have E:s.data.toList.getD (p+k) 0=s[q]:=by
     subst c;have:(p+k)<s.data.toList.length:=by simpa using I
     rw[aU,bU this]
     rfl
    obtain⟨t,o⟩:∃t,r-k=t+1:=⟨r-k-1,by omega⟩;rw[d.out,o,Hx.uw,E,show r-(k+1)=t by omega]
   clear d c;have j:decide ((k:Int)<(s.size:Int)-(p:Int))=true:=by simp;omega
   go_wp2_with fail
   .have b:a=(0,0):=by
     rw[f.out,jh ⟨by omega,by omega⟩]
    go_ret2;exact⟨FH (by rw[b];rfl) (by rw[b];rfl),rfl⟩
   .have A:k=9:=by omega
    have b:a=(Hx.signed (bits .or .u64 x ((s[q].toNat:Int)%128 * 9223372036854775808)),10):=by
     rw[f.out,jg (by omega),jh (by omega)];have D:IntKind.u64.wrap (((s[q].toNat%128:Nat):Int) * 2^(k * 7))=(s[q].toNat:Int)%128 * 9223372036854775808:=by
      rw[A,IntKind.wrap_u64];omega
     rw[D,A]
     rfl
    refine(Td _ _ (BA _ _).1 (BA _ _).2).mono ?_;rintro e u ⟨rfl,rfl⟩;go_wp2;go_ret2;exact⟨FH (by rw[b];rfl) (by rw[b];rfl),rfl⟩
   .have b:a=(Hx.signed (bits .or .u64 x (IntKind.u64.wrap ((s[q].toNat:Int)%128 * 2^(k * 7)))),(k:Int)+1):=by
     rw[f.out,jg (by omega),jh (by omega)]
     rfl
    refine(Td _ _ (BA _ _).1 (BA _ _).2).mono ?_;rintro e u ⟨rfl,rfl⟩;go_wp2;go_ret2;exact⟨FH (by rw[b];rfl) (by rw[b];rfl),rfl⟩
   .have g:Hid (a=Hx.uw s.data.toList p (r-(k+1)) (k+1) (bits .or .u64 x (IntKind.u64.wrap ((s[q].toNat:Int)%128 * 2^(k * 7))))):=by
     show a=_;rw[f.out,jg (by omega),jg (by omega)]
     rfl
    refine⟨⟨k+1,_,by omega,by go_num,rfl,(BA _ _).1,(BA _ _).2,g⟩,?_⟩;simp[intOf];omega
  .have y:Hid (a=(0,0)):=by
    show a=_;rw[d.out,show r-k=0 by omega];rfl
   have j:decide ((k:Int)<(s.size:Int)-(p:Int))=false:=by simp;omega
   clear d;go_wp2;go_ret2;exact⟨FH (by rw[y.out];rfl) (by rw[y.out];rfl),rfl⟩
theorem ar7(s:ji)(p:Nat)(a:Int×Int)(w:jk)(R:s.size<=100000)(O:10<(s.size:Int)-(p:Int))
 (y:Hid (a=Hx.uw s.data.toList p 10 0 0)):
 Calls prog 166 #[.string s,Im p] w λe t=>e=.returned (.tuple #[Im a.1,Im a.2])/\t=w:=by
 go_enter func166,ntmps166;go_wp2;go_loop [6,14] (λh i=>∃(k:Nat)(x:Int),k<=10/\i=Im k/\h=.int .u64 x/\0<=x/\x<18446744073709551616/\Hid (a=Hx.uw s.data.toList p (10-k) k x)) (λ_ i=>10-(intOf i).toNat)
 case atStart=>exact⟨0,0,bD _,rfl,rfl,by omega,by omega,y⟩
 case round=>
  obtain⟨k,x,Q,rfl,rfl,K,N,d⟩:=hrel;clear y;by_cases E:k<10
  .obtain⟨q,c⟩:∃q,p+k=q:=⟨_,rfl⟩;have G:q<s.size:=by omega
   have F:(p:Int)+(k:Int)=(q:Int):=by omega
   have I:(0:Int)<=(q:Int):=by omega
   have J:(q:Int)<(s.size:Int):=by omega
   have f:Hid (a=if k=9/\1<s[q].toNat then (0,0)
    else if s[q].toNat<128 then (Hx.signed (bits .or .u64 x (IntKind.u64.wrap ((s[q].toNat%128:Nat) * 2^(k * 7)))),(k:Int)+1)
    else Hx.uw s.data.toList p (10-(k+1)) (k+1) (bits .or .u64 x (IntKind.u64.wrap ((s[q].toNat%128:Nat) * 2^(k * 7))))):=by
    show a=_;have D:s.data.toList.getD (p+k) 0=s[q]:=by
     subst c;have:(p+k)<s.data.toList.length:=by simpa using G
     rw[aU,bU this]
     rfl
    obtain⟨r,o⟩:∃r,10-k=r+1:=⟨10-k-1,by omega⟩;rw[d.out,o,Hx.uw,D,show 10-(k+1)=r by omega]
   clear d c;have j:decide ((k:Int)<10)=true:=by simp;omega
   go_wp2_with fail
   .have b:a=(0,0):=by
     rw[f.out,jh ⟨by omega,by omega⟩]
    go_ret2;exact⟨FH (by rw[b];rfl) (by rw[b];rfl),rfl⟩
   .have z:k=9:=by omega
    have b:a=(Hx.signed (bits .or .u64 x ((s[q].toNat:Int)%128 * 9223372036854775808)),10):=by
     rw[f.out,jg (by omega),jh (by omega)];have A:IntKind.u64.wrap (((s[q].toNat%128:Nat):Int) * 2^(k * 7))=(s[q].toNat:Int)%128 * 9223372036854775808:=by
      rw[z,IntKind.wrap_u64];omega
     rw[A,z]
     rfl
    refine(Td _ _ (BA _ _).1 (BA _ _).2).mono ?_;rintro e t ⟨rfl,rfl⟩;go_wp2;go_ret2;exact⟨FH (by rw[b];rfl) (by rw[b];rfl),rfl⟩
   .have b:a=(Hx.signed (bits .or .u64 x (IntKind.u64.wrap ((s[q].toNat:Int)%128 * 2^(k * 7)))),(k:Int)+1):=by
     rw[f.out,jg (by omega),jh (by omega)]
     rfl
    refine(Td _ _ (BA _ _).1 (BA _ _).2).mono ?_;rintro e t ⟨rfl,rfl⟩;go_wp2;go_ret2;exact⟨FH (by rw[b];rfl) (by rw[b];rfl),rfl⟩
   .have g:Hid (a=Hx.uw s.data.toList p (10-(k+1)) (k+1) (bits .or .u64 x (IntKind.u64.wrap ((s[q].toNat:Int)%128 * 2^(k * 7))))):=by
     show a=_;rw[f.out,jg (by omega),jg (by omega)]
     rfl
    refine⟨⟨k+1,_,by omega,by go_num,rfl,(BA _ _).1,(BA _ _).2,g⟩,?_⟩;simp[intOf];omega
  .have u:Hid (a=(0,0)):=by
    show a=_;rw[d.out,show 10-k=0 by omega];rfl
   have j:decide ((k:Int)<10)=false:=by simp;omega
   clear d;go_wp2;go_ret2;exact⟨FH (by rw[u.out];rfl) (by rw[u.out];rfl),rfl⟩
theorem ar5(s:ji)(p:Nat)(w:jk)(c:s.size<=100000)(f:p<=s.size):
 Calls prog 166 #[.string s,Im p] w λe d=>e=.returned (.tuple #[Im (Hx.read s.data.toList p).1,Im (Hx.read s.data.toList p).2])/\d=w:=by
 have a:s.data.toList.length=s.size:=by simp
 by_cases b:s.size-p<=10
 .exact asa s p (s.size-p) _ w c (by omega) (by omega) (by omega) (by show _=_;unfold Hx.read;rw[a,Nat.min_eq_left b])
 .exact ar7 s p _ w c (by omega) (by show _=_;unfold Hx.read;rw[a,Nat.min_eq_right (by omega)])
end
section
abbrev dX:=@Go.World.frozen?_setCell
end
section
open Go.RowKit
open Hx (St Bk Ls jK)
section
def xw(s:St):List jm:=[.int .u8 s.op,Im s.a,Im s.b,Im s.c,Im s.d,Im s.depth,Im s.kD]
def rY(b:Bk):List jm:=[Im b.opener,Im b.other,Im b.jC,Im b.before]
structure jT(B:Nat)(w:jk)(L:Nat)(s:ji)(l:Ls)(vs vb vl:jm):Prop where
 bL:B<=L
 c0:w.cell? (Ad L 0)=some (.string s)
 c1:w.cell? (Ad L 1)=some (Im l.pos)
 c2:w.cell? (Ad L 2)=some vs
 c3:w.cell? (Ad L 3)=some vb
 c4:w.cell? (Ad L 4)=some vl
 c5:w.cell? (Ad L 5)=some (Im l.jD)
 c6:w.cell? (Ad L 6)=some (Im l.jC)
 c7:w.cell? (Ad L 7)=some (.bool l.bad)
 fr:∀j,w.frozen? (Ad L j)=false
 jB:w.ownsRow B 125 7 vs l.jB.length (l.jB.flatMap xw)
 jH:w.ownsRow B 226 4 vb l.jH.length (l.jH.flatMap rY)
 jY:w.ownsRow B 3 1 vl l.jY.length (l.jY.map (Value.int .i64))
 ns:vs.ownBlock≠some L
 nb:vb.ownBlock≠some L
 nl:vl.ownBlock≠some L
 sb:vs.ownBlock=none\/vs.ownBlock≠vb.ownBlock
 sl:vs.ownBlock=none\/vs.ownBlock≠vl.ownBlock
 bl:vb.ownBlock=none\/vb.ownBlock≠vl.ownBlock
structure jV(L:Nat)(w:jk)(vs vb vl:jm)(w':jk)(vs' kL lq:jm):Prop where
 os:w'.os=w.os
 tape:w'.tape=w.tape
 output:w'.output=w.output
 size:w.heap.size<=w'.heap.size
 block:∀k,k<w.heap.size->k≠L->some k≠vs.ownBlock->some k≠vb.ownBlock->some k≠vl.ownBlock->w'.heap[k]? =w.heap[k]?
 fs:∀g,vs'.ownBlock=some g->vs.ownBlock=some g\/w.heap.size<=g
 fb:∀g,kL.ownBlock=some g->vb.ownBlock=some g\/w.heap.size<=g
 fl:∀g,lq.ownBlock=some g->vl.ownBlock=some g\/w.heap.size<=g
theorem jV.refl(L:Nat)(w:jk)(vs vb vl:jm):jV L w vs vb vl w vs vb vl:=
 ⟨rfl,rfl,rfl,aj _,λ_ _ _ _ _ _=>rfl,λ_ h=>jf h,λ_ h=>jf h,λ_ h=>jf h⟩
theorem jV.trans{L:Nat}{w w1 A:jk}{vs vb vl t o q u p r:jm}(h:jV L w vs vb vl w1 t o q)(k:jV L w1 t o q A u p r):jV L w vs vb vl A u p r:=by
 have b:∀{v i:jm},(∀g,i.ownBlock=some g->v.ownBlock=some g\/w.heap.size<=g)->∀j,j<w.heap.size->some j≠v.ownBlock->some j≠i.ownBlock:=λD j f F e=>by
  rcases D j e.symm with c|c
  .exact F c.symm
  .omega
 have a:∀{v i z:jm},(∀g,i.ownBlock=some g->v.ownBlock=some g\/w.heap.size<=g)->(∀g,z.ownBlock=some g->i.ownBlock=some g\/w1.heap.size<=g)->∀g,z.ownBlock=some g->v.ownBlock=some g\/w.heap.size<=g:=λc x g E=>by
  rcases x g E with d|d
  .exact c g d
  .exact je (dH h.size d)
 refine⟨k.os.trans h.os,k.tape.trans h.tape,k.output.trans h.output,dH h.size k.size,λj f y c x d=>?_,a h.fs k.fs,a h.fb k.fb,a h.fl k.fl⟩;rw[k.block j (Nat.lt_of_lt_of_le f h.size) y (b h.fs j f c) (b h.fb j f x) (b h.fl j f d)];exact h.block j f y c x d
variable {B:Nat}{w:jk}{L:Nat}{s:ji}{l:Ls}{vs vb vl:jm}
theorem jT.lt(h:jT B w L s l vs vb vl):L<w.heap.size:=World.block_lt_of_cell? w _ h.c0
theorem jT.grow(h:jT B w L s l vs vb vl){w':jk}(b:w.grownBy w' none):jT B w' L s l vs vb vl:=by
 have d:=b.block L h.lt (by simp);have a:∀j,w'.cell? (Ad L j)=w.cell? (Ad L j):=λj=>bQ d;have e:∀j,w'.frozen? (Ad L j)=w.frozen? (Ad L j):=λj=>dZ d;have c:∀v:jm,v.ownBlock=none\/v.ownBlock≠none:=λv=>by cases v.ownBlock<;>simp
 exact⟨h.bL,by rw[a];exact h.c0,by rw[a];exact h.c1,by rw[a];exact h.c2,by rw[a];exact h.c3,by rw[a];exact h.c4,by rw[a];exact h.c5,by rw[a];exact h.c6,by rw[a];exact h.c7,
  λj=>by rw[e];exact h.fr j,h.jB.kept b (c vs),h.jH.kept b (c vb),h.jY.kept b (c vl),h.ns,h.nb,h.nl,h.sb,h.sl,h.bl⟩
theorem jT.alloc(h:jT B w L s l vs vb vl)(o:Obj):jT B (w.alloc o) L s l vs vb vl:=h.grow (ah w o none)
theorem jT.drewN(h:jT B w L s l vs vb vl)(n:Nat):jT B (w.drewN n) L s l vs vb vl:=h.grow ⟨rfl,rfl,rfl,aj _,λ_ _ _=>rfl⟩
theorem jV.grow(L:Nat)(w:jk)(vs vb vl:jm){w':jk}(a:w.grownBy w' none):jV L w vs vb vl w' vs vb vl:=
 ⟨a.os,a.tape,a.output,a.size,λk b _ _ _ _=>a.block k b (by simp),λ_ h=>jf h,λ_ h=>jf h,λ_ h=>jf h⟩
theorem jT.put(h:jT B w L s l vs vb vl)(j:Nat)(u:jm)(a:Ls)(vs' kL lq:jm)
 (i:(w.setCell (Ad L j) u).cell? (Ad L 1)=some (Im a.pos))(k:(w.setCell (Ad L j) u).cell? (Ad L 2)=some vs')(o:(w.setCell (Ad L j) u).cell? (Ad L 3)=some kL)
 (p:(w.setCell (Ad L j) u).cell? (Ad L 4)=some lq)(q:(w.setCell (Ad L j) u).cell? (Ad L 5)=some (Im a.jD))(r:(w.setCell (Ad L j) u).cell? (Ad L 6)=some (Im a.jC))
 (t:(w.setCell (Ad L j) u).cell? (Ad L 7)=some (.bool a.bad))(g:¬j=0)
 (z:w.ownsRow B 125 7 vs' a.jB.length (a.jB.flatMap xw))(x:w.ownsRow B 226 4 kL a.jH.length (a.jH.flatMap rY))(y:w.ownsRow B 3 1 lq a.jY.length (a.jY.map (Value.int .i64)))
 (ns:vs'.ownBlock≠some L)(c:kL.ownBlock≠some L)(d:lq.ownBlock≠some L)(sb:vs'.ownBlock=none\/vs'.ownBlock≠kL.ownBlock)(D:vs'.ownBlock=none\/vs'.ownBlock≠lq.ownBlock)(f:kL.ownBlock=none\/kL.ownBlock≠lq.ownBlock):
 jT B (w.setCell (Ad L j) u) L s a vs' kL lq:=by
 have b:=vX w (Ad L j) u;exact⟨h.bL,by rw[bG _ _ _ _ (by intro e;cases e;exact g rfl)];exact h.c0,i,k,o,p,q,r,t,λA=>by rw[dX];exact h.fr A,
  z.kept b (je ns),x.kept b (je c),y.kept b (je d),ns,c,d,sb,D,f⟩
theorem jV.own(L:Nat)(w:jk)(vs vb vl:jm)(j:Nat)(u:jm):jV L w vs vb vl (w.setCell (Ad L j) u) vs vb vl:=
 ⟨rfl,rfl,rfl,by simp,λk _ a _ _ _=>bC _ _ _ _ a,λ_ h=>jf h,λ_ h=>jf h,λ_ h=>jf h⟩
end
section
variable {B:Nat}{w:jk}{L:Nat}{s:ji}{l:Ls}{vs vb vl:jm}
theorem jT.arI(h:jT B w L s l vs vb vl)(x:Int):jT B (w.setCell (Ad L 5) (Im x)) L s {l with jD:=x} vs vb vl:=by
 have a:∀k,¬k=5->(w.setCell (Ad L 5) (Im x)).cell? (Ad L k)=w.cell? (Ad L k):=λk b=>bG _ _ _ _ (by intro e;cases e;exact b rfl);exact h.put 5 _ _ vs vb vl (by rw[a 1 (by omega)];exact h.c1) (by rw[a 2 (by omega)];exact h.c2) (by rw[a 3 (by omega)];exact h.c3) (by rw[a 4 (by omega)];exact h.c4) (dB _ _ _ h.c5) (by rw[a 6 (by omega)];exact h.c6) (by rw[a 7 (by omega)];exact h.c7) (by omega) h.jB h.jH h.jY h.ns h.nb h.nl h.sb h.sl h.bl
theorem jT.Jm(h:jT B w L s l vs vb vl):jT B (w.setCell (Ad L 7) (.bool true)) L s {l with bad:=true} vs vb vl:=by
 have a:∀k,¬k=7->(w.setCell (Ad L 7) (.bool true)).cell? (Ad L k)=w.cell? (Ad L k):=λk b=>bG _ _ _ _ (by intro e;cases e;exact b rfl);exact h.put 7 _ _ vs vb vl (by rw[a 1 (by omega)];exact h.c1) (by rw[a 2 (by omega)];exact h.c2) (by rw[a 3 (by omega)];exact h.c3) (by rw[a 4 (by omega)];exact h.c4) (by rw[a 5 (by omega)];exact h.c5) (by rw[a 6 (by omega)];exact h.c6) (dB _ _ _ h.c7) (by omega) h.jB h.jH h.jY h.ns h.nb h.nl h.sb h.sl h.bl
theorem auU(h:jT B w L s l vs vb vl)(n:Int)(d:0<=n)(f:n<2008):
 Calls prog 167 #[Pt L 0,.int .i32 115,Im n] w λe b=>e=.returned (.bool true)/\jT B b L s {l with jD:=max l.jD (n+1)} vs vb vl/\jV L w vs vb vl b vs vb vl:=by
 have i:=h.c5;have o:=h.fr 5;have j:decide (n<0)=false:=by simpa using d
 have k:decide (2008<=n)=false:=by simpa using f
 have c:Hid (∀x,x=max l.jD (n+1)->jT B (w.setCell (Ad L 5) (Im x)) L s {l with jD:=max l.jD (n+1)} vs vb vl/\jV L w vs vb vl (w.setCell (Ad L 5) (Im x)) vs vb vl):=by
  intro x g;refine⟨?_,jV.own _ _ _ _ _ _ _⟩;rw[<-g];exact h.arI _
 generalize a:({l with jD:=max l.jD (n+1)}:Ls)=p at *;clear a;generalize l.jD=q at *;clear h;go_enter func167,ntmps167;go_wp2;all_goals (go_ret;exact⟨rfl,c.out _ (by omega)⟩)
theorem auS(h:jT B w L s l vs vb vl)(n:Int)(f:n<0\/2008<=n):
 Calls prog 167 #[Pt L 0,.int .i32 115,Im n] w λe c=>e=.returned (.bool false)/\c=w:=by
 have _h:=h.c5;clear _h h;by_cases a:n<0
 .have b:decide (n<0)=true:=by simpa using a
  go_enter func167,ntmps167;go_wp2;go_ret;exact⟨rfl,rfl⟩
 .have b:decide (n<0)=false:=by simpa using a
  have d:decide (2008<=n)=true:=by simp;omega
  go_enter func167,ntmps167;go_wp2;go_ret;exact⟨rfl,rfl⟩
theorem auT(n:Int)(w:jk)(L:Nat):
 Calls prog 167 #[Pt L 0,.int .i32 108,Im n] w λe c=>e=.returned (.bool (decide (0<=n/\n<3)))/\c=w:=by
 by_cases a:0<=n
 .have b:decide (0<=n)=true:=by simpa using a
  go_enter func167,ntmps167;go_wp2;go_ret;exact⟨BF (by simp[a]),rfl⟩
 .have b:decide (0<=n)=false:=by simpa using a
  go_enter func167,ntmps167;go_wp2;go_ret;exact⟨BF (by simp),rfl⟩
theorem auR(c n:Int)(w:jk)(L:Nat)(b:(c==115)=false)(d:(c==108)=false):
 Calls prog 167 #[Pt L 0,.int .i32 c,Im n] w λe a=>e=.returned (.bool true)/\a=w:=by
 go_enter func167,ntmps167;go_wp2;go_ret;exact⟨rfl,rfl⟩
end
end
end Go.Proofs.YthllhabjfchgiaaGreatDoor
