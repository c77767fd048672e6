import Derived.Test.YthllhabjfchgiaaGreatDoorHs46
import Derived.Test.YthllhabjfchgiaaGreatDoorTie
import Derived.Test.YthllhabjfchgiaaGreatDoorHs17
import Derived.LaidMore
import Derived.ShutString
import Derived.ChangeOld
import Derived.Stop.Joined
import Derived.Stop.LaidErr
import Derived.Lib.LaidTab
import Derived.SevenTiedAt
set_option maxRecDepth 100000
set_option maxHeartbeats 8000000
set_option linter.unusedSimpArgs false
namespace Go.Proofs.YthllhabjfchgiaaGreatDoor
open _root_.Go.Proofs.Tryz
section
open Go.RowKit
open Hx (Rd Pk Vw St Mc jK Out Ls)
section
variable {w:jk}
theorem aox{u:Vw}(h:vJ u=true):u.jU.length<17/\u.kK.length<17/\u.jW.length<17:=by
 unfold vJ at h;simp only[dD,decide_eq_true_eq]at h;omega
theorem auq(x:Raw)(v:Vw)(n:uV w.heap.size w x.ar x.af x.aa x.nr x.nf x.na v)(j:x.nr<=maxLen)(C:wO w)(f:1<w.heap.size):
 Calls prog 6 #[.agg #[.slice x.ar x.nr x.cr,.slice x.af x.nf x.cf,.slice x.aa x.na x.ca]] w λe o=>e=.returned (.bool true)/\Below w.heap.size w o:=by
 have d:=aio v n.yX;obtain⟨F,G,H⟩:=aox d;refine aur x v n j _ _ _ _ _ 0 0 0 _ ?_ ⟨rfl,rfl,rfl,rfl,rfl,rfl,rfl,rfl,rfl⟩;intro W r q p K z J u I t s b E m g y k;subst E;have A:jK 0:=by unfold jK;omega
 have l:=k.size;have D:=m.size;obtain⟨L,M,N,O,P,Q,R,S,T,U⟩:=aun b (rQ v) g.yX d F G H;refine(ar0 jQ b (by rw[ahs]) (rQ v) r q p K z J u I t 0 0 0 0 0 0 0 0 (g.later k l) (C.later (yw m k) f) (by omega) (by simp[A])).mono ?_;rintro e o ⟨V,h,i,B⟩;rw[M]at i;unfold vG at h;rw[L,N,O,P,Q,R,S,T,U]at h;obtain⟨a,c,rfl⟩:=vI i;exact⟨a,c,h,i,B⟩
end
end
section
open Go.ChangeShapes Go.WideShapes Go.ChangeAt Go.RowKit
open Go.ChangeMaps (open_string shut_string)
theorem abk:prog.globalNamed "math/bits.deBruijn64tab"=some 1:=by kernel_rfl
theorem ajS:(prog.globals[1]?).map (·.type)=some 306:=by kernel_rfl
theorem aua(os:Os)(a:Array jm):laidMetH prog Rows.steersRow.laid ((World.doorLaid prog 62 os).forCall (λ_ _=>0) ⟨#[],a,[]⟩).memory:=
 laidMetH_of_parts3 (fuel:=8) (laidMet_of_run' 8 (by kernel_rfl) (by kernel_rfl)) (by kernel_rfl) (by kernel_rfl)
theorem auh{W:jk}(h:laidMetH prog Rows.steersRow.laid W):wO W/\1<W.heap.size:=by
 rw[MakeChecks.laidMetH_plain _ _ _ (by kernel_rfl)]at h;have t:laidMet prog (("math/bits.deBruijn64tab",Lib.tabData .u8 (Lib.deBruijn64tab.map λ(n:Nat)=>(n:Int)))::Rows.steersRow.laid.drop 2) W:=laidMet.tail h;have u:=Lib.tabIs_of_head abk ajS Tryz.underlying306 Tryz.underlying5 (by kernel_rfl) (by kernel_rfl) t;have v:wO W:=λj b=>by
  have d:Lib.deBruijn64tab.length=64:=by decide+kernel
  have a:j<Lib.deBruijn64tab.length:=by omega
  have c:=u.cell abk j (by simpa using a);rw[c];simp[List.getD,bU a]
 exact⟨v,World.block_lt_of_cell? W _ (v 0 (by omega))⟩
theorem aud(os:Os)(c:os.Started)(H:Type)(enc:jo×jm->H):
 ReturnsInHanded {} Tryz.checked os 6 .any (λw a=>(Rows.steersSpec.pre enc prog Tryz.f6 [] false w a/\laidMetH prog Rows.steersRow.laid w)/\sizedMet enc prog Tryz.f6 (OpenSpec.ofChange Rows.steersSpec) false w a)
  (Rows.steersSpec.post enc prog Tryz.f6 false true false false):=by
 refine returnsInHanded_of_change_and (C:=Tryz.checked) (X:=λw _=>laidMetH prog Rows.steersRow.laid w) (λ_ _ _ hh h=>h.of_heap hh) amA c (by kernel_rfl) func6
  (ChangeSpec.witness_shaped (enc:=enc) (C:=Tryz.checked) (os:=os) (X:=λw _=>laidMetH prog Rows.steersRow.laid w) false (World.doorLaid prog 62 os) #[.agg #[Nl,Nl,Nl]] 8 rfl (World.shaped_of_RefB (by kernel_rfl) (by kernel_rfl)) (by kernel_rfl) (by kernel_rfl) (by kernel_rfl) (aua os _)) ?_
 intro W g a J T o b M _ f U _;have d:∀(j:Nat) t v,Tryz.f6.params[j]? =some t->a[j]? =some v->Value.okWide prog W .any g t v:=b;have r:=M;obtain⟨p,q,k,Y,rfl,ab,ac⟩:=M;have L:DataW.TrodAll enc prog W 0 (λ_=>true) true Tryz.f6.params.toList a.toList J p:=k;have n:(DataW.weightsEach prog (Tryz.f6.params.toList++Rows.steersSpec.plain.varTypes prog) (J++T)).all (· <=reachBytes)=true:=f;rw[Tryz.params6]at L d n;obtain⟨R,ad,d0,S,p0,q0,s,rfl,rfl,K,r0⟩:=trodAll_cons L;obtain⟨rfl,rfl,rfl⟩:=trodAll_nil r0;obtain rfl:a=#[R]:=by cases a;simp_all
 obtain⟨rfl,rfl⟩:=trodVars_none Y;obtain⟨I,rfl,Z⟩:=okWide_struct Tryz.underlying25 (d 0 25 R rfl rfl);have N:=K;have z:∀x∈p0,x.block<W.heap.size:=by obtain⟨m,hm⟩:=N;exact DataW.trod_lt m _ _ _ hm
 obtain⟨n1,t1⟩:=K;obtain⟨D,B,A,Q,G,P,F,O,E,v,u,hv,y⟩:=avu Tryz.underlying25 (by kernel_rfl) (by kernel_rfl) rfl rfl rfl Tryz.underlying22 Tryz.underlying74 (by kernel_rfl) (by kernel_rfl) Tryz.underlying3 Tryz.underlying3 Tryz.underlying3 Tryz.underlying3 Tryz.underlying4 Tryz.underlying23 Tryz.underlying72 (by kernel_rfl) (by kernel_rfl) Tryz.underlying3 Tryz.underlying3 Tryz.underlying3 t1;simp only[Value.cells]at u;obtain rfl:I=#[.slice D Q G,.slice B P F,.slice A O E]:=by cases I;simp_all
 obtain⟨V,l⟩:=auh U;clear k b f n;refine(auq (x:=⟨D,B,A,Q,G,P,F,O,E⟩) v hv y V l).mono λe W' ⟨he,i⟩=>?_;subst he;exact⟨_,rfl,_,_,_,[],_,[],r,trodAll_mk1 (shut_bool Tryz.underlying4 _),(trodAll_cons_mk (Below.trod adi (by kernel_rfl) (of_decide_eq_true (by kernel_rfl)) N i z) trodAll_mk0),rfl,i.frame _,λh=>by cases h⟩
theorem aug:Rows.SteersSaid:=
 OpenClaim.holds_of_wide 6 Tryz.f6 rfl rfl rfl rfl rfl rfl rfl ⟨rfl,rfl,rfl,rfl,rfl⟩ rfl rfl rfl rfl rfl ahr func6 at7
  (of_decide_eq_true (by kernel_rfl)) (by unfold Func.isWrapper;first|(rw[jh (by decide+kernel)];kernel_rfl)|(rw[jg (by decide+kernel)];exact⟨rfl,rfl⟩))
  (λc a H b _=>aud c a H b)
theorem steers_holds : Rows.SteersCardSaid :=
 Claim7.holds_tied_plain_at .later [] [.data,.data,.data,.sentinel,.sentinel] true Rows.steersCard.stood.harness true
  aug (λ_ h=>by cases h) auj (λ_ h=>by cases h) steers_row_tie rfl ⟨rfl,rfl⟩ amv rfl
  (λf d e b=>by
    obtain rfl:f=6:=(fZ (ahr.symm.trans e)).symm;obtain rfl:d=Tryz.f6:=(fZ (func6.symm.trans b)).symm;exact⟨amu,λj t c=>by
     rw[Tryz.params6]at c;have g:t∈[25]:=by simpa using Array.mem_of_getElem? c
     have a:([25].all λu=>!prog.wantsStandIn u)=true:=by kernel_rfl
     exact(show prog.wantsStandIn t=false by simpa using List.all_eq_true.1 a t g)⟩)
  aub
end
end Go.Proofs.YthllhabjfchgiaaGreatDoor
