import Derived.Test.YthllhabjfchgiaaGreatDoorRows
import Derived.JoinedOf
import Derived.ProofKit
import Derived.Test.YthllhabjfchgiaaGreatDoorHk01
set_option maxRecDepth 100000
set_option maxHeartbeats 8000000
set_option linter.unusedSimpArgs false
namespace Go.Proofs.YthllhabjfchgiaaGreatDoor
open _root_.Go.Proofs.Tryz
section
theorem ak7:laidOutB prog=true:=by kernel_rfl
theorem ale:ownKnob prog.godebug=none:=by kernel_rfl
theorem alf:(prog.stops==[])=true:=by kernel_rfl
theorem ak6:(prog.stopKnobs==[])=true:=by kernel_rfl
theorem qo{a b:Bool}(h:a=true)(k:b=true):(a&&b)=true:=by rw[h,k];rfl
theorem amx{P:Program}{f:FuncId}{fn:Func}{s:ChangeSpec}{c:OpenClaim}(k1:c.wf (OpenSpec.ofChange s)=true)(k2:laidOutB P=true)(k3:mapsRowed P=true)(k4:fn.params.all (P.readableRec ·)=true)
 (k5:namedTie P c.named s.vars=true)(k6:(c.stops==[])=true)(k7:(P.stops==[])=true)(k8:(c.knobs==[])=true)(k9:(P.stopKnobs==[])=true)(k10:(c.inPlace==P.inPlace f)=true)(k11:(c.unfollowed==P.unfollowed f)=true)
 (k12:(c.recurses==P.recurses f)=true)(k13:(c.named==P.varsNamed f)=true)(k14:(c.maps==(fn.params.toList++s.plain.varTypes P).any (P.mapsRec ·))=true)(k15:(c.ifaces==(fn.params.toList++s.plain.varTypes P).any (P.ifacesRec ·))=true)
 (k16:(c.mapsOut==P.mapsAmong fn.resultTypes.toList)=true)(k17:(c.loops==(fn.params.toList++s.plain.varTypes P).any (P.loopsFrom ·))=true)(k18:(c.wideKeys==(fn.params.toList++s.plain.varTypes P++fn.resultTypes.toList).any (P.wideKeysFrom ·))=true)
 (k19:s.vars.all (P.varReadable ·)=true)(k20:fn.resultTypes.all (λt=>P.readableRec t&&decide (t<P.types.size))=true)(k21:(c.ifacesOut==fn.resultTypes.toList.any (P.ifacesRec ·))=true)(k22:(c.loopsOut==fn.resultTypes.toList.any (P.loopsFrom ·))=true)
 (k23:(c.plainKeys==P.plainKeys)=true)(k24:c.shortTexts.isNone=true)(k25:P.stopsHeard=true)(k26:P.mayEnter=true)(k27:(c.lifted==P.liftsFinal)=true)(k28:(P.make==some c.make)=true)
 (k29:(c.kinds==(if c.domain.isEmpty then []else fn.params.toList.map λt=>match P.underlying t with|some (.int k)=>some k|_=>none))=true)(k30:(c.pinned==c.pinnedBy)=true)
 (k31:(c.veiled==(fn.params.toList++s.plain.varTypes P++fn.resultTypes.toList).any (P.veiledRec ·))=true)(k32:c.veiledFits P fn.params.toList (fn.params.toList++s.plain.varTypes P++fn.resultTypes.toList)=true):joinedFacts P f fn s c=true:=by
 unfold joinedFacts;exact qo (qo (qo (qo (qo (qo (qo (qo (qo (qo (qo (qo (qo (qo (qo (qo (qo (qo (qo (qo (qo (qo (qo (qo (qo (qo (qo (qo (qo (qo (qo k1 k2) k3) k4) k5) k6) k7) k8) k9) k10) k11) k12) k13) k14) k15) k16) k17) k18) k19) k20) k21) k22) k23) k24) k25) k26) k27) k28) k29) k30) k31) k32
end
end Go.Proofs.YthllhabjfchgiaaGreatDoor
