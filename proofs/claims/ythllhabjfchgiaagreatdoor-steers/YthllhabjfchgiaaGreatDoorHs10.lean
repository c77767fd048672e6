import Derived.Test.YthllhabjfchgiaaGreatDoorRows
import Derived.JoinedOf
import Derived.ProofKit
import Derived.Test.YthllhabjfchgiaaGreatDoorHs01
set_option maxRecDepth 100000
set_option maxHeartbeats 8000000
set_option linter.unusedSimpArgs false
namespace Go.Proofs.YthllhabjfchgiaaGreatDoor
open _root_.Go.Proofs.Tryz
section
theorem adi:laidOutB prog=true:=by kernel_rfl
theorem amA:ownKnob prog.godebug=none:=by kernel_rfl
theorem amB:(prog.stops==[])=true:=by kernel_rfl
theorem amr:(prog.stopKnobs==[])=true:=by kernel_rfl
theorem qB{a b:Bool}(h:a=true)(k:b=true):(a&&b)=true:=by rw[h,k];rfl
theorem anV{P:Program}{f:FuncId}{a:Func}{s:ChangeSpec}{c:OpenClaim}(D:c.wf (OpenSpec.ofChange s)=true)(E:laidOutB P=true)(F:mapsRowed P=true)(G:a.params.all (P.readableRec ·)=true)
 (H:namedTie P c.named s.vars=true)(I:(c.stops==[])=true)(J:(P.stops==[])=true)(K:(c.knobs==[])=true)(L:(P.stopKnobs==[])=true)(b:(c.inPlace==P.inPlace f)=true)(d:(c.unfollowed==P.unfollowed f)=true)
 (e:(c.recurses==P.recurses f)=true)(g:(c.named==P.varsNamed f)=true)(h:(c.maps==(a.params.toList++s.plain.varTypes P).any (P.mapsRec ·))=true)(i:(c.ifaces==(a.params.toList++s.plain.varTypes P).any (P.ifacesRec ·))=true)
 (j:(c.mapsOut==P.mapsAmong a.resultTypes.toList)=true)(l:(c.loops==(a.params.toList++s.plain.varTypes P).any (P.loopsFrom ·))=true)(m:(c.wideKeys==(a.params.toList++s.plain.varTypes P++a.resultTypes.toList).any (P.wideKeysFrom ·))=true)
 (n:s.vars.all (P.varReadable ·)=true)(o:a.resultTypes.all (λt=>P.readableRec t&&decide (t<P.types.size))=true)(p:(c.ifacesOut==a.resultTypes.toList.any (P.ifacesRec ·))=true)(q:(c.loopsOut==a.resultTypes.toList.any (P.loopsFrom ·))=true)
 (r:(c.plainKeys==P.plainKeys)=true)(u:c.shortTexts.isNone=true)(v:P.stopsHeard=true)(w:P.mayEnter=true)(x:(c.lifted==P.liftsFinal)=true)(y:(P.make==some c.make)=true)
 (z:(c.kinds==(if c.domain.isEmpty then []else a.params.toList.map λt=>match P.underlying t with|some (.int k)=>some k|_=>none))=true)(A:(c.pinned==c.pinnedBy)=true)
 (B:(c.veiled==(a.params.toList++s.plain.varTypes P++a.resultTypes.toList).any (P.veiledRec ·))=true)(C:c.veiledFits P a.params.toList (a.params.toList++s.plain.varTypes P++a.resultTypes.toList)=true):joinedFacts P f a s c=true:=by
 unfold joinedFacts;exact qB (qB (qB (qB (qB (qB (qB (qB (qB (qB (qB (qB (qB (qB (qB (qB (qB (qB (qB (qB (qB (qB (qB (qB (qB (qB (qB (qB (qB (qB (qB D E) F) G) H) I) J) K) L) b) d) e) g) h) i) j) l) m) n) o) p) q) r) u) v) w) x) y) z) A) B) C
end
end Go.Proofs.YthllhabjfchgiaaGreatDoor
