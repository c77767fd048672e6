import Derived.Test.YthllhabjfchgiaaGreatDoorHk45
import Derived.Test.YthllhabjfchgiaaGreatDoorHk46
import Derived.Test.YthllhabjfchgiaaGreatDoorTie
import Derived.Test.YthllhabjfchgiaaGreatDoorHk17
import Derived.LaidMore
import Derived.ShutString
import Derived.ChangeOld
import Derived.Stop.Joined
import Derived.Stop.LaidErr
import Derived.Lib.LaidTab
import Derived.SevenTiedAt
set_option maxRecDepth 100000
set_option maxHeartbeats 8000000
set_option linter.unusedSimpArgs false
namespace Go.Proofs.YthllhabjfchgiaaGreatDoor
open _root_.Go.Proofs.Tryz
section
open Go.RowKit Hx
section
variable {w:jk}
theorem atS(B:Nat)(w:jk):yP B w none none none 0 0 0 qM:=⟨(λ_ _ h=>by cases h),(λ_ _ h=>by cases h),(λ_ _ h=>by cases h),rfl,rfl,rfl,YO⟩
theorem QL{s:ji}{b:Bool}{x0 x1 x2 x3 x4 x5 x6 x7 z0 z1 z2 z3 z4 z5 z6 z7:Int}(hT:vJ w)(hone:1<w.heap.size)(hx:∀x∈[x0,x1,x2,x3,x4,x5,x6,x7],jJ x)(hc:(mO s).2.1=0)
 (h:(o8 s b qM x0 x1 x2 x3 x4 x5 x6 x7).status=0/\(o8 s b qM x0 x1 x2 x3 x4 x5 x6 x7).jO=[]/\(o8 s b qM x0 x1 x2 x3 x4 x5 x6 x7).jF.getD 0 0=z0/\(o8 s b qM x0 x1 x2 x3 x4 x5 x6 x7).jF.getD 1 0=z1/\(o8 s b qM x0 x1 x2 x3 x4 x5 x6 x7).jF.getD 2 0=z2/\(o8 s b qM x0 x1 x2 x3 x4 x5 x6 x7).jF.getD 3 0=z3/\(o8 s b qM x0 x1 x2 x3 x4 x5 x6 x7).jF.getD 4 0=z4/\(o8 s b qM x0 x1 x2 x3 x4 x5 x6 x7).jF.getD 5 0=z5/\(o8 s b qM x0 x1 x2 x3 x4 x5 x6 x7).jF.getD 6 0=z6/\(o8 s b qM x0 x1 x2 x3 x4 x5 x6 x7).jF.getD 7 0=z7):
 KW w s b x0 x1 x2 x3 x4 x5 x6 x7 z0 z1 z2 z3 z4 z5 z6 z7:=λy hy=>by
 have hz:=hy.size;refine(aqo s b hc qM none none none 0 0 0 0 0 0 x0 x1 x2 x3 x4 x5 x6 x7 (atS _ _) (hT.later hy hone) (by omega) hx).mono ?_;rintro e w' ⟨va,h1,h2,h3⟩;obtain⟨q0,q1,r0,r1,r2,r3,r4,r5,r6,r7⟩:=h;rw[q1]at h2;unfold vk at h1;rw[q0,r0,r1,r2,r3,r4,r5,r6,r7]at h1;obtain⟨a,c,rfl⟩:=Cm h2;exact⟨a,c,h1,h3⟩
theorem Ry{x:Int}(h:jJ x):wrap64 x=x:=by unfold jJ at h;unfold wrap64;omega
theorem asG(p q r s t u:Bool):wrap64 (wrap64 (wrap64 (wrap64 (wrap64 (kW p+wrap64 (2 * kW q))+wrap64 (4 * kW r))+wrap64 (8 * kW s))+wrap64 (16 * kW t))+wrap64 (32 * kW u))=kW p+2 * kW q+4 * kW r+8 * kW s+16 * kW t+32 * kW u:=by
 cases p<;>cases q<;>cases r<;>cases s<;>cases t<;>cases u<;>decide+kernel
theorem aqJ(a b k:Int)(ha:jJ a)(hb:jJ b)(hk:jJ k)(hT:vJ w)(hone:1<w.heap.size)(hp:Pow w):
 Calls prog 5 #[Im a,Im b,Im k] w λe w'=>e=.returned (.bool true)/\Below w.heap.size w w':=by
 have h0:jJ 0:=by unfold jJ;omega
 have hxs:∀x∈[a,0,0,0,0,0,0,b],jJ x:=by simp[ha,hb,h0]
 have ab6:∀x∈[(0:Int),0,0,0,0,0,0,0],jJ x:=by simp[h0]
 have hc1:(mO kH).2.1=0:=by rw[ae9]
 obtain⟨c0,c1⟩:=aey (c:=k) (n:=1000000000000000000) (by omega);obtain⟨d0,d1⟩:=aey (c:=a) (n:=1000000000) (by omega);generalize hpk:Ez k 1000000000000000000=c at *;generalize hpa:Ez a 1000000000=d at *;obtain⟨N1,N2,N3,N4⟩:=acF c0 c1;obtain⟨M1,M2,M3,M4⟩:=acF d0 (show d<1000000000000000000 by omega);have hc:jJ c:=by unfold jJ;omega
 have hd:jJ d:=by unfold jJ;omega
 obtain⟨ns,hns⟩:∃ns:ji,(⟨(Lib.itoa c).toArray⟩:ji)=ns:=⟨_,rfl⟩;obtain⟨ms,hms⟩:∃ms:ji,(⟨(Lib.itoa d).toArray⟩:ji)=ms:=⟨_,rfl⟩;have hnl:ns.data.toList=Lib.itoa c:=by rw[<-hns]
 have hml:ms.data.toList=Lib.itoa d:=by rw[<-hms]
 have abZ:ns.size<=18:=by rw[<-J5,hnl];exact N3
 have hm18:ms.size<=18:=by rw[<-J5,hml];exact M3
 obtain⟨pa,hpl⟩:=apx (S:=(⟨#[82,48,32,61,32]⟩++ns++⟨#[32,42,32]⟩++ms++⟨#[59,32,82,49,32,61,32,45]⟩++ns++⟨#[32,47,32,40]⟩++ms++⟨#[32,45,32,53,41,59,32,82,50,32,61,32]⟩++ns++⟨#[32,37,32,55,32,43,32,49,32,45,32,45,50,59,32,105,102,32,33,40,49,32,60,32,50,32,38,38,32]⟩++ns++⟨#[32,62,61,32,48,41,32,124,124,32,49,32,61,61,32,50,32,123,32,82,51,32,61,32,49,59,32,125,32,101,108,115,101,32,123,32,82,52,32,61,32,51,59,32,125]⟩:ji)) rfl ⟨N1,N2,N3⟩ ⟨M1,M2,M3⟩ N4 M4 (by simp only[ByteArray.data_append,Array.toList_append,hnl,hml,bY];rfl);have hc2:∀s,s=(⟨#[82,48,32,61,32]⟩++ns++⟨#[32,42,32]⟩++ms++⟨#[59,32,82,49,32,61,32,45]⟩++ns++⟨#[32,47,32,40]⟩++ms++⟨#[32,45,32,53,41,59,32,82,50,32,61,32]⟩++ns++⟨#[32,37,32,55,32,43,32,49,32,45,32,45,50,59,32,105,102,32,33,40,49,32,60,32,50,32,38,38,32]⟩++ns++⟨#[32,62,61,32,48,41,32,124,124,32,49,32,61,61,32,50,32,123,32,82,51,32,61,32,49,59,32,125,32,101,108,115,101,32,123,32,82,52,32,61,32,51,59,32,125]⟩:ji)->(mO s).2.1=0:=λs e=>by rw[e,hpl]
 refine aqK a b k c d ha hk ⟨c0,c1⟩ ⟨d0,d1⟩ _ _ _ (quot a b) (rest a b) _ _ _ _ (quot (wrap64 (-c)) (wrap64 (d-5))) (wrap64 (wrap64 (rest c 7+1)-wrap64 (-2))) 0 3 0 0 0 ns ms hns hms abZ hm18 hp hpk hpa rfl rfl rfl ?_ rfl (asG _ _ _ _ _ _) rfl rfl ?_ ?_ ⟨rfl,rfl,rfl,rfl,rfl⟩ ?_ ?_ ?_ ?_
 case refine_1=>
  refine⟨decide (b=0),?_,?_,?_,?_,?_⟩
  .by_cases h:b=0<;>simp[h]
  .by_cases h:b=0<;>simp[h]
  .simp
  .unfold quot;by_cases h:b=0<;>simp[h]
  .unfold rest;by_cases h:b=0<;>simp[h]
 case refine_2=>
  have e1:wrap64 (-c)= -c:=Ry (by unfold jJ;omega);have e2:wrap64 (d-5)=d-5:=Ry (by unfold jJ;omega);refine⟨decide (d=5),?_,?_,?_,?_⟩
  .by_cases h:d=5<;>simp[h]
  .by_cases h:d=5<;>simp[h]
  .simp
  .unfold quot;rw[e1,e2];by_cases h:d=5
   .rw[jh (by omega),dR h];rfl
   .rw[jg (by omega),dO h,Int.neg_tdiv];rfl
 case refine_3=>
  have e0:rest c 7=c%7:=by
   unfold rest;rw[jg (by decide),Int.tmod_eq_emod_of_nonneg c0]
  have e1:wrap64 (-2)= -2:=by decide+kernel
  rw[e0,e1,Ry (x:=c%7+1) (by unfold jJ;omega),Ry (by unfold jJ;omega)];omega
 case refine_4=>intro s e;subst e;exact QL hT hone hxs hc1 (ae7 false a b ha hb)
 case refine_5=>intro s e;subst e;exact QL hT hone hxs hc1 (ae7 true a b ha hb)
 case refine_6=>
  intro s e;obtain⟨q1,q2,q3⟩:=aeI hpl hc hd c0 false;subst e;exact QL hT hone ab6 (hc2 _ rfl) ⟨q1,q2,q3 0 (by omega),q3 1 (by omega),q3 2 (by omega),q3 3 (by omega),q3 4 (by omega),q3 5 (by omega),q3 6 (by omega),q3 7 (by omega)⟩
 case refine_7=>
  intro s e;obtain⟨q1,q2,q3⟩:=aeI hpl hc hd c0 true;subst e;exact QL hT hone ab6 (hc2 _ rfl) ⟨q1,q2,q3 0 (by omega),q3 1 (by omega),q3 2 (by omega),q3 3 (by omega),q3 4 (by omega),q3 5 (by omega),q3 6 (by omega),q3 7 (by omega)⟩
end
end
section
open Go.ChangeShapes Go.WideShapes Go.ChangeAt Go.RowKit
open Go.ChangeMaps (open_string shut_string)
theorem ZP:prog.globalNamed "math/bits.deBruijn64tab"=some 1:=by kernel_rfl
theorem aiO:(prog.globals[1]?).map (·.type)=some 306:=by kernel_rfl
theorem aqT(os:Os)(args:Array jm):laidMetH prog Rows.reckonsRow.laid ((World.doorLaid prog 62 os).forCall (λ_ _=>0) ⟨#[],args,[]⟩).memory:=
 laidMetH_of_parts3 (fuel:=8) (laidMet_of_run' 8 (by kernel_rfl) (by kernel_rfl)) (by kernel_rfl) (by kernel_rfl)
theorem aq1{W:jk}(h:laidMetH prog Rows.reckonsRow.laid W):vJ W/\1<W.heap.size:=by
 rw[MakeChecks.laidMetH_plain _ _ _ (by kernel_rfl)]at h;have t:laidMet prog (("math/bits.deBruijn64tab",Lib.tabData .u8 (Lib.deBruijn64tab.map λ(n:Nat)=>(n:Int)))::Rows.reckonsRow.laid.drop 2) W:=laidMet.tail h;have u:=Lib.tabIs_of_head ZP aiO Tryz.underlying306 Tryz.underlying5 (by kernel_rfl) (by kernel_rfl) t;have v:vJ W:=λj hj=>by
  have hl:Lib.deBruijn64tab.length=64:=by decide+kernel
  have hj':j<Lib.deBruijn64tab.length:=by omega
  have c:=u.cell ZP j (by simpa using hj');rw[c];simp[List.getD,bU hj']
 exact⟨v,World.block_lt_of_cell? W _ (v 0 (by omega))⟩
theorem aiN:prog.globalNamed "internal/strconv.uint64pow10"=some 2:=by kernel_rfl
theorem aiP:(prog.globals[2]?).map (·.type)=some 309:=by kernel_rfl
theorem aqY{W:jk}(h:laidMetH prog Rows.reckonsRow.laid W):Pow W:=by
 rw[MakeChecks.laidMetH_plain _ _ _ (by kernel_rfl)]at h;have t:laidMet prog (("internal/strconv.uint64pow10",Lib.tabData .u64 Lib.pow10Tab)::Rows.reckonsRow.laid.drop 3) W:=laidMet.tail (laidMet.tail h);exact Lib.tabIs_of_head aiN aiP Tryz.underlying309 Tryz.underlying270 (by kernel_rfl) (by kernel_rfl) t
theorem aqW(os:Os)(started:os.Started)(H:Type)(enc:jo×jm->H):
 ReturnsInHanded {} Tryz.checked os 5 .any (λw args=>(Rows.reckonsSpec.pre enc prog Tryz.f5 [] false w args/\laidMetH prog Rows.reckonsRow.laid w)/\sizedMet enc prog Tryz.f5 (OpenSpec.ofChange Rows.reckonsSpec) false w args)
  (Rows.reckonsSpec.post enc prog Tryz.f5 false true false false):=by
 refine returnsInHanded_of_change_and (C:=Tryz.checked) (X:=λw _=>laidMetH prog Rows.reckonsRow.laid w) (λ_ _ _ hh h=>h.of_heap hh) ale started (by kernel_rfl) func5
  (ChangeSpec.witness_shaped (enc:=enc) (C:=Tryz.checked) (os:=os) (X:=λw _=>laidMetH prog Rows.reckonsRow.laid w) false (World.doorLaid prog 62 os) #[Im 0,Im 0,Im 0] 8 rfl (World.shaped_of_RefB (by kernel_rfl) (by kernel_rfl)) (by kernel_rfl) (by kernel_rfl) (by kernel_rfl) (aqT os _)) ?_
 intro W base args ds gs before hval0 hW _ ab5 hL _;have hval:∀(j:Nat) t v,Tryz.f5.params[j]? =some t->args[j]? =some v->Value.okWide prog W .any base t v:=hval0;have hW':=hW;obtain⟨p,q,hA0,hV,rfl,hfz,hnd⟩:=hW;have hA:DataW.TrodAll enc prog W 0 (λ_=>true) true Tryz.f5.params.toList args.toList ds p:=hA0;have hwt:(DataW.weightsEach prog (Tryz.f5.params.toList++Rows.reckonsSpec.plain.varTypes prog) (ds++gs)).all (· <=reachBytes)=true:=ab5;rw[Tryz.params5]at hA hval hwt;obtain⟨v0,YN,d0,ds0,p0,q0,hargs,rfl,rfl,h0,r0⟩:=trodAll_cons hA;obtain⟨v1,vs1,d1,ds1,p1,q1,rfl,rfl,rfl,h1,r1⟩:=trodAll_cons r0;obtain⟨v2,vs2,d2,ds2,p2,q2,rfl,rfl,rfl,h2,r2⟩:=trodAll_cons r1;obtain⟨rfl,rfl,rfl⟩:=trodAll_nil r2;obtain rfl:args=#[v0,v1,v2]:=by cases args;simp_all
 obtain⟨rfl,rfl⟩:=trodVars_none hV;obtain⟨f0,rfl,rfl,rfl,w0⟩:=open_int Tryz.underlying3 (hval 0 3 v0 rfl rfl) h0;obtain⟨f1,rfl,rfl,rfl,w1⟩:=open_int Tryz.underlying3 (hval 1 3 v1 rfl rfl) h1;obtain⟨f2,rfl,rfl,rfl,w2⟩:=open_int Tryz.underlying3 (hval 2 3 v2 rfl rfl) h2;obtain⟨hT,hone⟩:=aq1 hL;have hp:=aqY hL;clear hA0 hval0 ab5 hwt;refine(aqJ f0 f1 f2 (Ux w0) (Ux w1) (Ux w2) hT hone hp).mono λe W' ⟨he,bel⟩=>?_;subst he;exact⟨_,rfl,_,_,_,[],_,[],hW',trodAll_mk1 (shut_bool Tryz.underlying4 _),(trodAll_cons_mk (shut_int Tryz.underlying3 w0) (trodAll_cons_mk (shut_int Tryz.underlying3 w1) (trodAll_cons_mk (shut_int Tryz.underlying3 w2) trodAll_mk0))),rfl,bel.frame _,λh=>by cases h⟩
theorem aq0:Rows.ReckonsSaid:=
 OpenClaim.holds_of_wide 5 Tryz.f5 rfl rfl rfl rfl rfl rfl rfl ⟨rfl,rfl,rfl,rfl,rfl⟩ rfl rfl rfl rfl rfl afd func5 aqS
  (of_decide_eq_true (by kernel_rfl)) (by unfold Func.isWrapper;first|(rw[jh (by decide+kernel)];kernel_rfl)|(rw[jg (by decide+kernel)];exact⟨rfl,rfl⟩))
  (λos started H enc _=>aqW os started H enc)
theorem reckons_holds : Rows.ReckonsCardSaid :=
 Claim7.holds_tied_plain_at .later [] [.data,.data,.data,.sentinel,.sentinel] true Rows.reckonsCard.stood.harness true
  aq0 (λ_ h=>by cases h) aq3 (λ_ h=>by cases h) reckons_row_tie rfl ⟨rfl,rfl⟩ ala rfl
  (λf fn hf hfn=>by
    obtain rfl:f=5:=(fZ (afd.symm.trans hf)).symm;obtain rfl:fn=Tryz.f5:=(fZ (func5.symm.trans hfn)).symm;exact⟨ak9,λj t ht=>by
     rw[Tryz.params5]at ht;have hm:t∈[3,3,3]:=by simpa using Array.mem_of_getElem? ht
     have hall:([3,3,3].all λu=>!prog.wantsStandIn u)=true:=by kernel_rfl
     exact(show prog.wantsStandIn t=false by simpa using List.all_eq_true.1 hall t hm)⟩)
  aqU
end
end Go.Proofs.YthllhabjfchgiaaGreatDoor
