import Derived.Test.YthllhabjfchgiaaGreatDoorHy02
import Derived.Test.YthllhabjfchgiaaGreatDoorHy09
import Derived.Test.YthllhabjfchgiaaGreatDoorHy10
/- One pass of (*Code).Run, from the label next on: a theorem an instruction. (Written by wip/tools/run_gen.py.) -/
namespace Go.Proofs.YthllhabjfchgiaaGreatDoor
open Go.RowKit
open Hx (Rd Pk Vw St Mc In64)

def scopeIn : Code → Option Code
  | .scope c => some c
  | .seq a b => match scopeIn a with
    | some c => some c
    | none => scopeIn b
  | .block _ c => scopeIn c
  | _ => none

def unskip : Code → Code
  | .seq .skip c => c
  | c => c

/-- the code behind a label -/
def labelOf (f : Func) (l : Nat) : Code := unskip (((f.body.bind scopeIn).bind (findLabel · l)).getD .skip)

set_option maxRecDepth 1000000 in
/-- the frame at the label next -/
def AtNext (cb co H M : Nat) (vv rv : Value) (fuel k : Int) (a : Act) : Prop :=
  ∃ u4 u7 u11 u13 u14 u15 u16 u17 u18 u19 u20 u21 u22 u23 u24 u25 u26 u27 u28 u29 u30 u31 u32 u33 u34 u35 u36 u37 u38 u39 u40 u41 u42 u43 u44 u45 u46 u47 u48 u49 u50 u51 u52 u53 u54 u55 u56 u57 u58 u59 u60 u61 u62 u63 u64 u65 u66 u67 u68 u69 u70 u71 u72 u73 u74 u75 u76 u77 u78 u79 u80 u81 u82 u83 u84 u85 u86 u87 u88 u89 u90 u91 u92 u93 u94 u95 u96 u97 u98 u99 u100 u101 u102 u103 u104 u105 u106 u107 u108 u109 u110 u111 u112 u113 u114 u115 u116 u117 u118 u119 u120 u121 u122 u123 u124 u125 u126 u127 u128 u129 u130 u131 u132 u133 u134 u135 u136 u137 u138 u139 u140 u141 u142 u143 u144 u145 u146 u147 u148 : Value, a = ⟨#[.pointer (some ⟨cb, co, none⟩), vv, rv, .int .i64 fuel, u4, .pointer (some ⟨H, 0, none⟩), .pointer (some ⟨H + 1, 0, none⟩), u7, .pointer (some ⟨H + 1 + 1, 0, none⟩), .pointer (some ⟨M, 0, none⟩), .int .i64 k, u11, .int .u8 0, u13, u14, u15, u16, u17, u18, u19, u20, u21, u22, u23, u24, u25, u26, u27, u28, u29, u30, u31, u32, u33, u34, u35, u36, u37, u38, u39, u40, u41, u42, u43, u44, u45, u46, u47, u48, u49, u50, u51, u52, u53, u54, u55, u56, u57, u58, u59, u60, u61, u62, u63, u64, u65, u66, u67, u68, u69, u70, u71, u72, u73, u74, u75, u76, u77, u78, u79, u80, u81, u82, u83, u84, u85, u86, u87, u88, u89, u90, u91, u92, u93, u94, u95, u96, u97, u98, u99, u100, u101, u102, u103, u104, u105, u106, u107, u108, u109, u110, u111, u112, u113, u114, u115, u116, u117, u118, u119, u120, u121, u122, u123, u124, u125, u126, u127, u128, u129, u130, u131, u132, u133, u134, u135, u136, u137, u138, u139, u140, u141, u142, u143, u144, u145, u146, u147, u148], []⟩

set_option maxRecDepth 1000000 in
/-- the frame at the label wrong -/
def AtWrong (cb co H M : Nat) (vv rv : Value) (st : Int) (a : Act) : Prop :=
  ∃ u3 u4 u7 u10 u11 u13 u14 u15 u16 u17 u18 u19 u20 u21 u22 u23 u24 u25 u26 u27 u28 u29 u30 u31 u32 u33 u34 u35 u36 u37 u38 u39 u40 u41 u42 u43 u44 u45 u46 u47 u48 u49 u50 u51 u52 u53 u54 u55 u56 u57 u58 u59 u60 u61 u62 u63 u64 u65 u66 u67 u68 u69 u70 u71 u72 u73 u74 u75 u76 u77 u78 u79 u80 u81 u82 u83 u84 u85 u86 u87 u88 u89 u90 u91 u92 u93 u94 u95 u96 u97 u98 u99 u100 u101 u102 u103 u104 u105 u106 u107 u108 u109 u110 u111 u112 u113 u114 u115 u116 u117 u118 u119 u120 u121 u122 u123 u124 u125 u126 u127 u128 u129 u130 u131 u132 u133 u134 u135 u136 u137 u138 u139 u140 u141 u142 u143 u144 u145 u146 u147 u148 : Value, a = ⟨#[.pointer (some ⟨cb, co, none⟩), vv, rv, u3, u4, .pointer (some ⟨H, 0, none⟩), .pointer (some ⟨H + 1, 0, none⟩), u7, .pointer (some ⟨H + 1 + 1, 0, none⟩), .pointer (some ⟨M, 0, none⟩), u10, u11, .int .u8 st, u13, u14, u15, u16, u17, u18, u19, u20, u21, u22, u23, u24, u25, u26, u27, u28, u29, u30, u31, u32, u33, u34, u35, u36, u37, u38, u39, u40, u41, u42, u43, u44, u45, u46, u47, u48, u49, u50, u51, u52, u53, u54, u55, u56, u57, u58, u59, u60, u61, u62, u63, u64, u65, u66, u67, u68, u69, u70, u71, u72, u73, u74, u75, u76, u77, u78, u79, u80, u81, u82, u83, u84, u85, u86, u87, u88, u89, u90, u91, u92, u93, u94, u95, u96, u97, u98, u99, u100, u101, u102, u103, u104, u105, u106, u107, u108, u109, u110, u111, u112, u113, u114, u115, u116, u117, u118, u119, u120, u121, u122, u123, u124, u125, u126, u127, u128, u129, u130, u131, u132, u133, u134, u135, u136, u137, u138, u139, u140, u141, u142, u143, u144, u145, u146, u147, u148], []⟩

/-- code that was loaded, in memory below B -/
structure CodeIn (B : Nat) (w : World) (cb co sb so cap : Nat) (steps : List St) : Prop where
  cbB : cb < B
  sbB : sb < B
  slice : w.cell? ⟨cb, co, none⟩ = some (.slice (some ⟨sb, so, none⟩) steps.length cap)
  step : ∀ (i : Nat) (s : St), steps[i]? = some s → StepAt w sb (so + i * 7) s

theorem CodeIn.keep {B : Nat} {w w' : World} {cb co sb so cap : Nat} {steps : List St} (h : CodeIn B w cb co sb so cap steps) (hb : Below B w w') : CodeIn B w' cb co sb so cap steps := by
  refine ⟨h.cbB, h.sbB, by rw [hb.cell (p := ⟨cb, co, none⟩) h.cbB]; exact h.slice, fun i s hs => ?_⟩
  obtain ⟨h0, h1, h2, h3, h4, h5, h6⟩ := h.step i s hs
  have hc : ∀ o, w'.cell? ⟨sb, o, none⟩ = w.cell? ⟨sb, o, none⟩ := fun o => hb.cell (p := ⟨sb, o, none⟩) h.sbB
  exact ⟨by rw [hc]; exact h0, by rw [hc]; exact h1, by rw [hc]; exact h2, by rw [hc]; exact h3, by rw [hc]; exact h4, by rw [hc]; exact h5, by rw [hc]; exact h6⟩

variable {B C : Nat} {w : World} {M SB : Nat} {v : Vw} {m : Mc} {cb co sb so cap : Nat} {steps : List St}

set_option maxRecDepth 1000000 in
set_option maxHeartbeats 2000000 in
theorem run_starved (H : Nat) (vv rv : Value) (fuel : Int) (k : Nat) (u4 u7 u11 u13 u14 u15 u16 u17 u18 u19 u20 u21 u22 u23 u24 u25 u26 u27 u28 u29 u30 u31 u32 u33 u34 u35 u36 u37 u38 u39 u40 u41 u42 u43 u44 u45 u46 u47 u48 u49 u50 u51 u52 u53 u54 u55 u56 u57 u58 u59 u60 u61 u62 u63 u64 u65 u66 u67 u68 u69 u70 u71 u72 u73 u74 u75 u76 u77 u78 u79 u80 u81 u82 u83 u84 u85 u86 u87 u88 u89 u90 u91 u92 u93 u94 u95 u96 u97 u98 u99 u100 u101 u102 u103 u104 u105 u106 u107 u108 u109 u110 u111 u112 u113 u114 u115 u116 u117 u118 u119 u120 u121 u122 u123 u124 u125 u126 u127 u128 u129 u130 u131 u132 u133 u134 u135 u136 u137 u138 u139 u140 u141 u142 u143 u144 u145 u146 u147 u148 : Value) (Q : Exit → Act → World → Prop) (hf : fuel ≤ 0)
    
    (hgo : ∀ a', AtWrong cb co H M vv rv 2 a' → Q (.goto 0) a' w) :
    Code.wp Tryz.prog (labelOf Tryz.f16 1) Q ⟨#[.pointer (some ⟨cb, co, none⟩), vv, rv, .int .i64 fuel, u4, .pointer (some ⟨H, 0, none⟩), .pointer (some ⟨H + 1, 0, none⟩), u7, .pointer (some ⟨H + 1 + 1, 0, none⟩), .pointer (some ⟨M, 0, none⟩), .int .i64 k, u11, .int .u8 0, u13, u14, u15, u16, u17, u18, u19, u20, u21, u22, u23, u24, u25, u26, u27, u28, u29, u30, u31, u32, u33, u34, u35, u36, u37, u38, u39, u40, u41, u42, u43, u44, u45, u46, u47, u48, u49, u50, u51, u52, u53, u54, u55, u56, u57, u58, u59, u60, u61, u62, u63, u64, u65, u66, u67, u68, u69, u70, u71, u72, u73, u74, u75, u76, u77, u78, u79, u80, u81, u82, u83, u84, u85, u86, u87, u88, u89, u90, u91, u92, u93, u94, u95, u96, u97, u98, u99, u100, u101, u102, u103, u104, u105, u106, u107, u108, u109, u110, u111, u112, u113, u114, u115, u116, u117, u118, u119, u120, u121, u122, u123, u124, u125, u126, u127, u128, u129, u130, u131, u132, u133, u134, u135, u136, u137, u138, u139, u140, u141, u142, u143, u144, u145, u146, u147, u148], []⟩ w := by
  have hd : decide (fuel ≤ 0) = true := by simpa using hf

  conv => arg 2; whnf
  go_wp2
  go_step3
  refine hgo _ ?_
  unfold AtWrong
  (repeat apply Exists.intro)
  rfl

set_option maxRecDepth 1000000 in
set_option maxHeartbeats 2000000 in
theorem run_else (H : Nat) (vv rv : Value) (fuel : Int) (k : Nat) (u4 u7 u11 u13 u14 u15 u16 u17 u18 u19 u20 u21 u22 u23 u24 u25 u26 u27 u28 u29 u30 u31 u32 u33 u34 u35 u36 u37 u38 u39 u40 u41 u42 u43 u44 u45 u46 u47 u48 u49 u50 u51 u52 u53 u54 u55 u56 u57 u58 u59 u60 u61 u62 u63 u64 u65 u66 u67 u68 u69 u70 u71 u72 u73 u74 u75 u76 u77 u78 u79 u80 u81 u82 u83 u84 u85 u86 u87 u88 u89 u90 u91 u92 u93 u94 u95 u96 u97 u98 u99 u100 u101 u102 u103 u104 u105 u106 u107 u108 u109 u110 u111 u112 u113 u114 u115 u116 u117 u118 u119 u120 u121 u122 u123 u124 u125 u126 u127 u128 u129 u130 u131 u132 u133 u134 u135 u136 u137 u138 u139 u140 u141 u142 u143 u144 u145 u146 u147 u148 : Value) (Q : Exit → Act → World → Prop) (hf : 0 < fuel) (hfm : fuel ≤ 9223372036854775807) (hk : k < steps.length) (hlen : steps.length ≤ 1000000)
    (hc : CodeIn B w cb co sb so cap steps) (a b c d dp t : Int) (hst : steps[k]? = some ⟨3, a, b, c, d, dp, t⟩)
    (hgo : ∀ a' w', AtNext cb co H M vv rv (fuel - 1) t a' → w' = w → Q (.goto 1) a' w') :
    Code.wp Tryz.prog (labelOf Tryz.f16 1) Q ⟨#[.pointer (some ⟨cb, co, none⟩), vv, rv, .int .i64 fuel, u4, .pointer (some ⟨H, 0, none⟩), .pointer (some ⟨H + 1, 0, none⟩), u7, .pointer (some ⟨H + 1 + 1, 0, none⟩), .pointer (some ⟨M, 0, none⟩), .int .i64 k, u11, .int .u8 0, u13, u14, u15, u16, u17, u18, u19, u20, u21, u22, u23, u24, u25, u26, u27, u28, u29, u30, u31, u32, u33, u34, u35, u36, u37, u38, u39, u40, u41, u42, u43, u44, u45, u46, u47, u48, u49, u50, u51, u52, u53, u54, u55, u56, u57, u58, u59, u60, u61, u62, u63, u64, u65, u66, u67, u68, u69, u70, u71, u72, u73, u74, u75, u76, u77, u78, u79, u80, u81, u82, u83, u84, u85, u86, u87, u88, u89, u90, u91, u92, u93, u94, u95, u96, u97, u98, u99, u100, u101, u102, u103, u104, u105, u106, u107, u108, u109, u110, u111, u112, u113, u114, u115, u116, u117, u118, u119, u120, u121, u122, u123, u124, u125, u126, u127, u128, u129, u130, u131, u132, u133, u134, u135, u136, u137, u138, u139, u140, u141, u142, u143, u144, u145, u146, u147, u148], []⟩ w := by
  have hd : decide (fuel ≤ 0) = false := by simp; omega
  have i0 : (0 : Int) ≤ (k : Int) := by omega
  have j0 : (k : Int) < (steps.length : Int) := by omega
  have k1 : (k : Int) ≤ 1000000 := by omega
  have hsl := hc.slice
  obtain ⟨s0, s1, s2, s3, s4, s5, s6⟩ := hc.step k _ hst
  simp only at s0 s1 s2 s3 s4 s5 s6
  generalize hN : steps.length = N at *
  have HN : Hid (steps.length = N) := hN
  clear hN
  conv => arg 2; whnf
  go_wp2
  go_step3
  refine hgo _ _ ?_ ?_
  · unfold AtNext
    (repeat apply Exists.intro)
    rfl
  · rfl

set_option maxRecDepth 1000000 in
set_option maxHeartbeats 2000000 in
theorem run_if (H : Nat) (vv rv : Value) (fuel : Int) (k : Nat) (u4 u7 u11 u13 u14 u15 u16 u17 u18 u19 u20 u21 u22 u23 u24 u25 u26 u27 u28 u29 u30 u31 u32 u33 u34 u35 u36 u37 u38 u39 u40 u41 u42 u43 u44 u45 u46 u47 u48 u49 u50 u51 u52 u53 u54 u55 u56 u57 u58 u59 u60 u61 u62 u63 u64 u65 u66 u67 u68 u69 u70 u71 u72 u73 u74 u75 u76 u77 u78 u79 u80 u81 u82 u83 u84 u85 u86 u87 u88 u89 u90 u91 u92 u93 u94 u95 u96 u97 u98 u99 u100 u101 u102 u103 u104 u105 u106 u107 u108 u109 u110 u111 u112 u113 u114 u115 u116 u117 u118 u119 u120 u121 u122 u123 u124 u125 u126 u127 u128 u129 u130 u131 u132 u133 u134 u135 u136 u137 u138 u139 u140 u141 u142 u143 u144 u145 u146 u147 u148 : Value) (Q : Exit → Act → World → Prop) (hf : 0 < fuel) (hfm : fuel ≤ 9223372036854775807) (hk : k < steps.length) (hlen : steps.length ≤ 1000000)
    (hm : MachIn B C w M SB v m) (hc : CodeIn B w cb co sb so cap steps) (a : Nat) (b c d dp t : Int) (hst : steps[k]? = some ⟨2, a, b, c, d, dp, t⟩) (ha : a < m.slots.length)
    (hgo : ∀ a' w', AtNext cb co H M vv rv (fuel - 1) (if m.slots.getD a 0 = 0 then t else k + 1) a' → (∃ n, w' = w.drewN n) → Q (.goto 1) a' w') :
    Code.wp Tryz.prog (labelOf Tryz.f16 1) Q ⟨#[.pointer (some ⟨cb, co, none⟩), vv, rv, .int .i64 fuel, u4, .pointer (some ⟨H, 0, none⟩), .pointer (some ⟨H + 1, 0, none⟩), u7, .pointer (some ⟨H + 1 + 1, 0, none⟩), .pointer (some ⟨M, 0, none⟩), .int .i64 k, u11, .int .u8 0, u13, u14, u15, u16, u17, u18, u19, u20, u21, u22, u23, u24, u25, u26, u27, u28, u29, u30, u31, u32, u33, u34, u35, u36, u37, u38, u39, u40, u41, u42, u43, u44, u45, u46, u47, u48, u49, u50, u51, u52, u53, u54, u55, u56, u57, u58, u59, u60, u61, u62, u63, u64, u65, u66, u67, u68, u69, u70, u71, u72, u73, u74, u75, u76, u77, u78, u79, u80, u81, u82, u83, u84, u85, u86, u87, u88, u89, u90, u91, u92, u93, u94, u95, u96, u97, u98, u99, u100, u101, u102, u103, u104, u105, u106, u107, u108, u109, u110, u111, u112, u113, u114, u115, u116, u117, u118, u119, u120, u121, u122, u123, u124, u125, u126, u127, u128, u129, u130, u131, u132, u133, u134, u135, u136, u137, u138, u139, u140, u141, u142, u143, u144, u145, u146, u147, u148], []⟩ w := by
  have hd : decide (fuel ≤ 0) = false := by simp; omega
  have i0 : (0 : Int) ≤ (k : Int) := by omega
  have j0 : (k : Int) < (steps.length : Int) := by omega
  have k1 : (k : Int) ≤ 1000000 := by omega
  have hsl := hc.slice
  obtain ⟨s0, s1, s2, s3, s4, s5, s6⟩ := hc.step k _ hst
  simp only at s0 s1 s2 s3 s4 s5 s6
  generalize hN : steps.length = N at *
  have HN : Hid (steps.length = N) := hN
  clear hN
  have hs := hm.slots
  have ca := hm.slot a ha
  clear hm
  generalize m.slots.getD a 0 = xa at *
  generalize m.slots.length = len at *
  have i1 : (0 : Int) ≤ (a : Int) := by omega
  have j1 : (a : Int) < (len : Int) := by omega
  obtain ⟨z, hz⟩ : ∃ z, (xa == 0) = z := ⟨_, rfl⟩

  conv => arg 2; whnf
  cases z with
  | true =>
    have hx : xa = 0 := by simpa using hz
    rw [if_pos hx] at hgo
    clear hx
    go_wp2_with fail
    go_quiet (fail)
    go_wp2
    go_step3
    refine hgo _ _ ?_ ?_
    · unfold AtNext
      (repeat apply Exists.intro)
      rfl
    · exact ⟨_, rfl⟩
  | false =>
    have hx : ¬ xa = 0 := by simpa using hz
    rw [if_neg hx] at hgo
    clear hx
    go_wp2_with fail
    go_quiet (fail)
    go_wp2
    go_step3
    refine hgo _ _ ?_ ?_
    · unfold AtNext
      (repeat apply Exists.intro)
      rfl
    · exact ⟨_, rfl⟩

set_option maxRecDepth 1000000 in
set_option maxHeartbeats 2000000 in
theorem run_loop (H : Nat) (vv rv : Value) (fuel : Int) (k : Nat) (u4 u7 u11 u13 u14 u15 u16 u17 u18 u19 u20 u21 u22 u23 u24 u25 u26 u27 u28 u29 u30 u31 u32 u33 u34 u35 u36 u37 u38 u39 u40 u41 u42 u43 u44 u45 u46 u47 u48 u49 u50 u51 u52 u53 u54 u55 u56 u57 u58 u59 u60 u61 u62 u63 u64 u65 u66 u67 u68 u69 u70 u71 u72 u73 u74 u75 u76 u77 u78 u79 u80 u81 u82 u83 u84 u85 u86 u87 u88 u89 u90 u91 u92 u93 u94 u95 u96 u97 u98 u99 u100 u101 u102 u103 u104 u105 u106 u107 u108 u109 u110 u111 u112 u113 u114 u115 u116 u117 u118 u119 u120 u121 u122 u123 u124 u125 u126 u127 u128 u129 u130 u131 u132 u133 u134 u135 u136 u137 u138 u139 u140 u141 u142 u143 u144 u145 u146 u147 u148 : Value) (Q : Exit → Act → World → Prop) (hf : 0 < fuel) (hfm : fuel ≤ 9223372036854775807) (hk : k < steps.length) (hlen : steps.length ≤ 1000000)
    (hm : MachIn B C w M SB v m) (hc : CodeIn B w cb co sb so cap steps) (l : Int) (b c : Nat) (d : Int) (dp : Nat) (t : Int) (hst : steps[k]? = some ⟨4, l, b, c, d, dp, t⟩) (hb : b < m.slots.length) (hcs : c < m.slots.length) (hdp : dp < 8)
    (hgo : ∀ a' w', AtNext cb co H M vv rv (fuel - 1) (Hx.turn ⟨4, l, b, c, d, dp, t⟩ k (Hx.begins v ⟨4, l, b, c, d, dp, t⟩ m)).2 a' → MachIn B C w' M SB v (Hx.turn ⟨4, l, b, c, d, dp, t⟩ k (Hx.begins v ⟨4, l, b, c, d, dp, t⟩ m)).1 → Below B w w' → Q (.goto 1) a' w') :
    Code.wp Tryz.prog (labelOf Tryz.f16 1) Q ⟨#[.pointer (some ⟨cb, co, none⟩), vv, rv, .int .i64 fuel, u4, .pointer (some ⟨H, 0, none⟩), .pointer (some ⟨H + 1, 0, none⟩), u7, .pointer (some ⟨H + 1 + 1, 0, none⟩), .pointer (some ⟨M, 0, none⟩), .int .i64 k, u11, .int .u8 0, u13, u14, u15, u16, u17, u18, u19, u20, u21, u22, u23, u24, u25, u26, u27, u28, u29, u30, u31, u32, u33, u34, u35, u36, u37, u38, u39, u40, u41, u42, u43, u44, u45, u46, u47, u48, u49, u50, u51, u52, u53, u54, u55, u56, u57, u58, u59, u60, u61, u62, u63, u64, u65, u66, u67, u68, u69, u70, u71, u72, u73, u74, u75, u76, u77, u78, u79, u80, u81, u82, u83, u84, u85, u86, u87, u88, u89, u90, u91, u92, u93, u94, u95, u96, u97, u98, u99, u100, u101, u102, u103, u104, u105, u106, u107, u108, u109, u110, u111, u112, u113, u114, u115, u116, u117, u118, u119, u120, u121, u122, u123, u124, u125, u126, u127, u128, u129, u130, u131, u132, u133, u134, u135, u136, u137, u138, u139, u140, u141, u142, u143, u144, u145, u146, u147, u148], []⟩ w := by
  have hd : decide (fuel ≤ 0) = false := by simp; omega
  have i0 : (0 : Int) ≤ (k : Int) := by omega
  have j0 : (k : Int) < (steps.length : Int) := by omega
  have k1 : (k : Int) ≤ 1000000 := by omega
  have hbeg := begin_any hm sb (so + k * 7) 4 l b c d dp t (hc.step k _ hst) hcs hdp
  have HB : Hid (Calls Tryz.prog 52 #[.pointer (some ⟨M, 0, none⟩), .pointer (some ⟨sb, so + k * 7, none⟩)] w fun e w' => e = .returned (.tuple #[]) ∧ MachIn B C w' M SB v (Hx.begins v ⟨4, l, b, c, d, dp, t⟩ m) ∧ Below B w w') := hbeg
  clear hbeg
  have HT : Hid (∀ w', MachIn B C w' M SB v (Hx.begins v ⟨4, l, b, c, d, dp, t⟩ m) → Below B w w' → w'.cell? ⟨cb, co, none⟩ = some (.slice (some ⟨sb, so, none⟩) steps.length cap) ∧
      Calls Tryz.prog 53 #[.pointer (some ⟨M, 0, none⟩), .slice (some ⟨sb, so, none⟩) steps.length cap, .int .i64 k] w' fun e w'' => e = .returned (.int .i64 (Hx.turn ⟨4, l, b, c, d, dp, t⟩ k (Hx.begins v ⟨4, l, b, c, d, dp, t⟩ m)).2) ∧ MachIn B C w'' M SB v (Hx.turn ⟨4, l, b, c, d, dp, t⟩ k (Hx.begins v ⟨4, l, b, c, d, dp, t⟩ m)).1 ∧ Below B w' w'') := fun w' h1 h2 => by
    have hc' := hc.keep h2
    exact ⟨hc'.slice, turn_any h1 sb so steps.length cap k _ hc.sbB hk hlen (hc'.step k _ hst) ⟨by show (0 : Int) ≤ (b : Int); omega, by show (b : Int) < _; simp [Hx.begins, Hx.Mc.putLeft]; omega⟩ ⟨by show (0 : Int) ≤ (dp : Int); omega, by show (dp : Int) < 8; omega⟩⟩
  have hsl := hc.slice
  obtain ⟨s0, s1, s2, s3, s4, s5, s6⟩ := hc.step k _ hst
  simp only at s0 s1 s2 s3 s4 s5 s6
  generalize hN : steps.length = N at *
  have HN : Hid (steps.length = N) := hN
  clear hN
  clear hm hc

  conv => arg 2; whnf
  generalize (Hx.turn ⟨4, l, b, c, d, dp, t⟩ k (Hx.begins v ⟨4, l, b, c, d, dp, t⟩ m)).2 = nx at *
  generalize (Hx.turn ⟨4, l, b, c, d, dp, t⟩ k (Hx.begins v ⟨4, l, b, c, d, dp, t⟩ m)).1 = m2 at *
  generalize Hx.begins v ⟨4, l, b, c, d, dp, t⟩ m = m1 at *
  go_wp2_with fail
  refine (HB.out).mono ?_
  rintro e w1 ⟨rfl, hm1, hb1⟩
  obtain ⟨hcl, ht⟩ := HT.out w1 hm1 hb1
  have HT2 : Hid (Calls Tryz.prog 53 #[.pointer (some ⟨M, 0, none⟩), .slice (some ⟨sb, so, none⟩) N cap, .int .i64 k] w1 fun e w'' => e = .returned (.int .i64 nx) ∧ MachIn B C w'' M SB v m2 ∧ Below B w1 w'') := ht
  clear ht
  go_wp2_with fail
  refine (HT2.out).mono ?_
  rintro e w2 ⟨rfl, hm2, hb2⟩
  go_wp2
  go_step3
  refine hgo _ _ ?_ hm2 (hb1.trans hb2)
  unfold AtNext
  (repeat apply Exists.intro)
  rfl

set_option maxRecDepth 1000000 in
set_option maxHeartbeats 2000000 in
theorem run_end (H : Nat) (vv rv : Value) (fuel : Int) (k : Nat) (u4 u7 u11 u13 u14 u15 u16 u17 u18 u19 u20 u21 u22 u23 u24 u25 u26 u27 u28 u29 u30 u31 u32 u33 u34 u35 u36 u37 u38 u39 u40 u41 u42 u43 u44 u45 u46 u47 u48 u49 u50 u51 u52 u53 u54 u55 u56 u57 u58 u59 u60 u61 u62 u63 u64 u65 u66 u67 u68 u69 u70 u71 u72 u73 u74 u75 u76 u77 u78 u79 u80 u81 u82 u83 u84 u85 u86 u87 u88 u89 u90 u91 u92 u93 u94 u95 u96 u97 u98 u99 u100 u101 u102 u103 u104 u105 u106 u107 u108 u109 u110 u111 u112 u113 u114 u115 u116 u117 u118 u119 u120 u121 u122 u123 u124 u125 u126 u127 u128 u129 u130 u131 u132 u133 u134 u135 u136 u137 u138 u139 u140 u141 u142 u143 u144 u145 u146 u147 u148 : Value) (Q : Exit → Act → World → Prop) (hf : 0 < fuel) (hfm : fuel ≤ 9223372036854775807) (hk : k < steps.length) (hlen : steps.length ≤ 1000000)
    (hm : MachIn B C w M SB v m) (hc : CodeIn B w cb co sb so cap steps) (a : Int) (b c d dp : Int) (t : Nat) (hst : steps[k]? = some ⟨0, a, b, c, d, dp, t⟩) (lp : St) (hlp : steps[t]? = some lp) (hlb : St.slot m.slots.length lp.b) (hld : 0 ≤ lp.depth ∧ lp.depth < 8)
    (hgo : ∀ a' w', AtNext cb co H M vv rv (fuel - 1) (Hx.turn lp t m).2 a' → MachIn B C w' M SB v (Hx.turn lp t m).1 → Below B w w' → Q (.goto 1) a' w') :
    Code.wp Tryz.prog (labelOf Tryz.f16 1) Q ⟨#[.pointer (some ⟨cb, co, none⟩), vv, rv, .int .i64 fuel, u4, .pointer (some ⟨H, 0, none⟩), .pointer (some ⟨H + 1, 0, none⟩), u7, .pointer (some ⟨H + 1 + 1, 0, none⟩), .pointer (some ⟨M, 0, none⟩), .int .i64 k, u11, .int .u8 0, u13, u14, u15, u16, u17, u18, u19, u20, u21, u22, u23, u24, u25, u26, u27, u28, u29, u30, u31, u32, u33, u34, u35, u36, u37, u38, u39, u40, u41, u42, u43, u44, u45, u46, u47, u48, u49, u50, u51, u52, u53, u54, u55, u56, u57, u58, u59, u60, u61, u62, u63, u64, u65, u66, u67, u68, u69, u70, u71, u72, u73, u74, u75, u76, u77, u78, u79, u80, u81, u82, u83, u84, u85, u86, u87, u88, u89, u90, u91, u92, u93, u94, u95, u96, u97, u98, u99, u100, u101, u102, u103, u104, u105, u106, u107, u108, u109, u110, u111, u112, u113, u114, u115, u116, u117, u118, u119, u120, u121, u122, u123, u124, u125, u126, u127, u128, u129, u130, u131, u132, u133, u134, u135, u136, u137, u138, u139, u140, u141, u142, u143, u144, u145, u146, u147, u148], []⟩ w := by
  have hd : decide (fuel ≤ 0) = false := by simp; omega
  have i0 : (0 : Int) ≤ (k : Int) := by omega
  have j0 : (k : Int) < (steps.length : Int) := by omega
  have k1 : (k : Int) ≤ 1000000 := by omega
  have htl : t < steps.length := by
    rcases Nat.lt_or_ge t steps.length with h | h
    · exact h
    · rw [List.getElem?_eq_none h] at hlp; cases hlp
  have HT : Hid (∀ n, Calls Tryz.prog 53 #[.pointer (some ⟨M, 0, none⟩), .slice (some ⟨sb, so, none⟩) steps.length cap, .int .i64 t] (w.drewN n) fun e w' => e = .returned (.int .i64 (Hx.turn lp t m).2) ∧ MachIn B C w' M SB v (Hx.turn lp t m).1 ∧ Below B (w.drewN n) w') := fun n => by
    have hc' := hc.keep (below_drewN (Below.refl B w) n)
    exact turn_any (hm.drewN n) sb so steps.length cap t lp hc.sbB htl hlen (hc'.step t lp hlp) hlb hld
  have hsl := hc.slice
  obtain ⟨s0, s1, s2, s3, s4, s5, s6⟩ := hc.step k _ hst
  simp only at s0 s1 s2 s3 s4 s5 s6
  generalize hN : steps.length = N at *
  have HN : Hid (steps.length = N) := hN
  clear hN
  clear hm hc hlb hld hlp htl

  conv => arg 2; whnf
  generalize (Hx.turn lp t m).2 = nx at *
  generalize (Hx.turn lp t m).1 = m2 at *
  go_wp2_with fail
  refine wp_quiet_tail 9 (by kernel_rfl) (by kernel_rfl) ?_
  simp only [List.take_succ_cons, List.take_zero, List.drop_succ_cons, List.drop_zero]
  repeat (go_big_quiet_step (fail))
  refine wpQuiet_nil ?_
  intro _ hw'
  obtain ⟨n3, hw''⟩ := hw'
  subst hw''
  go_wp2_with fail
  refine (HT.out n3).mono ?_
  rintro e w2 ⟨rfl, hm2, hb2⟩
  go_wp2
  go_step3
  refine hgo _ _ ?_ hm2 ((below_drewN (Below.refl B w) n3).trans hb2)
  unfold AtNext
  (repeat apply Exists.intro)
  rfl

set_option maxRecDepth 1000000 in
set_option maxHeartbeats 2000000 in
theorem run_skip (H : Nat) (vv rv : Value) (fuel : Int) (k : Nat) (u4 u7 u11 u13 u14 u15 u16 u17 u18 u19 u20 u21 u22 u23 u24 u25 u26 u27 u28 u29 u30 u31 u32 u33 u34 u35 u36 u37 u38 u39 u40 u41 u42 u43 u44 u45 u46 u47 u48 u49 u50 u51 u52 u53 u54 u55 u56 u57 u58 u59 u60 u61 u62 u63 u64 u65 u66 u67 u68 u69 u70 u71 u72 u73 u74 u75 u76 u77 u78 u79 u80 u81 u82 u83 u84 u85 u86 u87 u88 u89 u90 u91 u92 u93 u94 u95 u96 u97 u98 u99 u100 u101 u102 u103 u104 u105 u106 u107 u108 u109 u110 u111 u112 u113 u114 u115 u116 u117 u118 u119 u120 u121 u122 u123 u124 u125 u126 u127 u128 u129 u130 u131 u132 u133 u134 u135 u136 u137 u138 u139 u140 u141 u142 u143 u144 u145 u146 u147 u148 : Value) (Q : Exit → Act → World → Prop) (hf : 0 < fuel) (hfm : fuel ≤ 9223372036854775807) (hk : k < steps.length) (hlen : steps.length ≤ 1000000)
    (hm : MachIn B C w M SB v m) (hc : CodeIn B w cb co sb so cap steps) (a : Nat) (b c d dp : Int) (t : Nat) (hst : steps[k]? = some ⟨5, a, b, c, d, dp, t⟩) (ha : a < m.slots.length) (hz : m.slots.getD a 0 = 0) (lp : St) (hlp : steps[t]? = some lp) (hlb : St.slot m.slots.length lp.b) (hld : 0 ≤ lp.depth ∧ lp.depth < 8)
    (hgo : ∀ a' w', AtNext cb co H M vv rv (fuel - 1) (Hx.turn lp t m).2 a' → MachIn B C w' M SB v (Hx.turn lp t m).1 → Below B w w' → Q (.goto 1) a' w') :
    Code.wp Tryz.prog (labelOf Tryz.f16 1) Q ⟨#[.pointer (some ⟨cb, co, none⟩), vv, rv, .int .i64 fuel, u4, .pointer (some ⟨H, 0, none⟩), .pointer (some ⟨H + 1, 0, none⟩), u7, .pointer (some ⟨H + 1 + 1, 0, none⟩), .pointer (some ⟨M, 0, none⟩), .int .i64 k, u11, .int .u8 0, u13, u14, u15, u16, u17, u18, u19, u20, u21, u22, u23, u24, u25, u26, u27, u28, u29, u30, u31, u32, u33, u34, u35, u36, u37, u38, u39, u40, u41, u42, u43, u44, u45, u46, u47, u48, u49, u50, u51, u52, u53, u54, u55, u56, u57, u58, u59, u60, u61, u62, u63, u64, u65, u66, u67, u68, u69, u70, u71, u72, u73, u74, u75, u76, u77, u78, u79, u80, u81, u82, u83, u84, u85, u86, u87, u88, u89, u90, u91, u92, u93, u94, u95, u96, u97, u98, u99, u100, u101, u102, u103, u104, u105, u106, u107, u108, u109, u110, u111, u112, u113, u114, u115, u116, u117, u118, u119, u120, u121, u122, u123, u124, u125, u126, u127, u128, u129, u130, u131, u132, u133, u134, u135, u136, u137, u138, u139, u140, u141, u142, u143, u144, u145, u146, u147, u148], []⟩ w := by
  have hd : decide (fuel ≤ 0) = false := by simp; omega
  have i0 : (0 : Int) ≤ (k : Int) := by omega
  have j0 : (k : Int) < (steps.length : Int) := by omega
  have k1 : (k : Int) ≤ 1000000 := by omega
  have htl : t < steps.length := by
    rcases Nat.lt_or_ge t steps.length with h | h
    · exact h
    · rw [List.getElem?_eq_none h] at hlp; cases hlp
  have HT : Hid (∀ n, Calls Tryz.prog 53 #[.pointer (some ⟨M, 0, none⟩), .slice (some ⟨sb, so, none⟩) steps.length cap, .int .i64 t] (w.drewN n) fun e w' => e = .returned (.int .i64 (Hx.turn lp t m).2) ∧ MachIn B C w' M SB v (Hx.turn lp t m).1 ∧ Below B (w.drewN n) w') := fun n => by
    have hc' := hc.keep (below_drewN (Below.refl B w) n)
    exact turn_any (hm.drewN n) sb so steps.length cap t lp hc.sbB htl hlen (hc'.step t lp hlp) hlb hld
  have hsl := hc.slice
  obtain ⟨s0, s1, s2, s3, s4, s5, s6⟩ := hc.step k _ hst
  simp only at s0 s1 s2 s3 s4 s5 s6
  generalize hN : steps.length = N at *
  have HN : Hid (steps.length = N) := hN
  clear hN
  have hs := hm.slots
  have ca := hm.slot a ha
  rw [hz] at ca
  clear hm hc hlb hld hlp htl
  clear hz
  generalize m.slots.length = len at *
  have i1 : (0 : Int) ≤ (a : Int) := by omega
  have j1 : (a : Int) < (len : Int) := by omega

  conv => arg 2; whnf
  generalize (Hx.turn lp t m).2 = nx at *
  generalize (Hx.turn lp t m).1 = m2 at *
  go_wp2_with fail
  go_quiet (fail)
  go_wp2_with fail
  refine wp_quiet_tailN 9 (by kernel_rfl) (by kernel_rfl) ?_
  simp only [List.take_succ_cons, List.take_zero, List.drop_succ_cons, List.drop_zero]
  repeat (go_big_quiet_step (fail))
  refine wpQuiet_nil ?_
  intro _ hw'
  obtain ⟨n3, hw''⟩ := hw'
  subst hw''
  go_wp2_with fail
  refine (HT.out n3).mono ?_
  rintro e w2 ⟨rfl, hm2, hb2⟩
  go_wp2
  go_step3
  refine hgo _ _ ?_ hm2 ((below_drewN (Below.refl B w) n3).trans hb2)
  unfold AtNext
  (repeat apply Exists.intro)
  rfl

set_option maxRecDepth 1000000 in
set_option maxHeartbeats 2000000 in
theorem run_stay (H : Nat) (vv rv : Value) (fuel : Int) (k : Nat) (u4 u7 u11 u13 u14 u15 u16 u17 u18 u19 u20 u21 u22 u23 u24 u25 u26 u27 u28 u29 u30 u31 u32 u33 u34 u35 u36 u37 u38 u39 u40 u41 u42 u43 u44 u45 u46 u47 u48 u49 u50 u51 u52 u53 u54 u55 u56 u57 u58 u59 u60 u61 u62 u63 u64 u65 u66 u67 u68 u69 u70 u71 u72 u73 u74 u75 u76 u77 u78 u79 u80 u81 u82 u83 u84 u85 u86 u87 u88 u89 u90 u91 u92 u93 u94 u95 u96 u97 u98 u99 u100 u101 u102 u103 u104 u105 u106 u107 u108 u109 u110 u111 u112 u113 u114 u115 u116 u117 u118 u119 u120 u121 u122 u123 u124 u125 u126 u127 u128 u129 u130 u131 u132 u133 u134 u135 u136 u137 u138 u139 u140 u141 u142 u143 u144 u145 u146 u147 u148 : Value) (Q : Exit → Act → World → Prop) (hf : 0 < fuel) (hfm : fuel ≤ 9223372036854775807) (hk : k < steps.length) (hlen : steps.length ≤ 1000000)
    (hm : MachIn B C w M SB v m) (hc : CodeIn B w cb co sb so cap steps) (a : Nat) (b c d dp t : Int) (hst : steps[k]? = some ⟨5, a, b, c, d, dp, t⟩) (ha : a < m.slots.length) (hz : ¬ m.slots.getD a 0 = 0)
    (hgo : ∀ a' w', AtNext cb co H M vv rv (fuel - 1) (k + 1) a' → (∃ n, w' = w.drewN n) → Q (.goto 1) a' w') :
    Code.wp Tryz.prog (labelOf Tryz.f16 1) Q ⟨#[.pointer (some ⟨cb, co, none⟩), vv, rv, .int .i64 fuel, u4, .pointer (some ⟨H, 0, none⟩), .pointer (some ⟨H + 1, 0, none⟩), u7, .pointer (some ⟨H + 1 + 1, 0, none⟩), .pointer (some ⟨M, 0, none⟩), .int .i64 k, u11, .int .u8 0, u13, u14, u15, u16, u17, u18, u19, u20, u21, u22, u23, u24, u25, u26, u27, u28, u29, u30, u31, u32, u33, u34, u35, u36, u37, u38, u39, u40, u41, u42, u43, u44, u45, u46, u47, u48, u49, u50, u51, u52, u53, u54, u55, u56, u57, u58, u59, u60, u61, u62, u63, u64, u65, u66, u67, u68, u69, u70, u71, u72, u73, u74, u75, u76, u77, u78, u79, u80, u81, u82, u83, u84, u85, u86, u87, u88, u89, u90, u91, u92, u93, u94, u95, u96, u97, u98, u99, u100, u101, u102, u103, u104, u105, u106, u107, u108, u109, u110, u111, u112, u113, u114, u115, u116, u117, u118, u119, u120, u121, u122, u123, u124, u125, u126, u127, u128, u129, u130, u131, u132, u133, u134, u135, u136, u137, u138, u139, u140, u141, u142, u143, u144, u145, u146, u147, u148], []⟩ w := by
  have hd : decide (fuel ≤ 0) = false := by simp; omega
  have i0 : (0 : Int) ≤ (k : Int) := by omega
  have j0 : (k : Int) < (steps.length : Int) := by omega
  have k1 : (k : Int) ≤ 1000000 := by omega
  have hsl := hc.slice
  obtain ⟨s0, s1, s2, s3, s4, s5, s6⟩ := hc.step k _ hst
  simp only at s0 s1 s2 s3 s4 s5 s6
  generalize hN : steps.length = N at *
  have HN : Hid (steps.length = N) := hN
  clear hN
  have hs := hm.slots
  have ca := hm.slot a ha
  clear hm
  generalize m.slots.getD a 0 = xa at *
  generalize m.slots.length = len at *
  have i1 : (0 : Int) ≤ (a : Int) := by omega
  have j1 : (a : Int) < (len : Int) := by omega
  have hz' : (xa == 0) = false := by simpa using hz
  clear hz

  conv => arg 2; whnf
  go_wp2_with fail
  go_quiet (fail)
  go_wp2
  go_step3
  refine hgo _ _ ?_ ?_
  · unfold AtNext
    (repeat apply Exists.intro)
    rfl
  · exact ⟨_, rfl⟩

set_option maxRecDepth 1000000 in
set_option maxHeartbeats 2000000 in
theorem run_push (H : Nat) (vv rv : Value) (fuel : Int) (k : Nat) (u4 u7 u11 u13 u14 u15 u16 u17 u18 u19 u20 u21 u22 u23 u24 u25 u26 u27 u28 u29 u30 u31 u32 u33 u34 u35 u36 u37 u38 u39 u40 u41 u42 u43 u44 u45 u46 u47 u48 u49 u50 u51 u52 u53 u54 u55 u56 u57 u58 u59 u60 u61 u62 u63 u64 u65 u66 u67 u68 u69 u70 u71 u72 u73 u74 u75 u76 u77 u78 u79 u80 u81 u82 u83 u84 u85 u86 u87 u88 u89 u90 u91 u92 u93 u94 u95 u96 u97 u98 u99 u100 u101 u102 u103 u104 u105 u106 u107 u108 u109 u110 u111 u112 u113 u114 u115 u116 u117 u118 u119 u120 u121 u122 u123 u124 u125 u126 u127 u128 u129 u130 u131 u132 u133 u134 u135 u136 u137 u138 u139 u140 u141 u142 u143 u144 u145 u146 u147 u148 : Value) (Q : Exit → Act → World → Prop) (hf : 0 < fuel) (hfm : fuel ≤ 9223372036854775807) (hk : k < steps.length) (hlen : steps.length ≤ 1000000)
    (hm : MachIn B C w M SB v m) (hc : CodeIn B w cb co sb so cap steps) (a b : Nat) (c d dp t : Int) (hst : steps[k]? = some ⟨36, a, b, c, d, dp, t⟩) (ha : a < m.slots.length) (hb : b < m.slots.length) (h256 : m.acts.length ≤ 256) (m2 : Mc) (hpu : Hx.push v (m.slots.getD a 0) (m.slots.getD b 0) m = some m2)
    (hgo : ∀ a' w', AtNext cb co H M vv rv (fuel - 1) (k + 1) a' → MachIn B C w' M SB v m2 → Below B w w' → Q (.goto 1) a' w') :
    Code.wp Tryz.prog (labelOf Tryz.f16 1) Q ⟨#[.pointer (some ⟨cb, co, none⟩), vv, rv, .int .i64 fuel, u4, .pointer (some ⟨H, 0, none⟩), .pointer (some ⟨H + 1, 0, none⟩), u7, .pointer (some ⟨H + 1 + 1, 0, none⟩), .pointer (some ⟨M, 0, none⟩), .int .i64 k, u11, .int .u8 0, u13, u14, u15, u16, u17, u18, u19, u20, u21, u22, u23, u24, u25, u26, u27, u28, u29, u30, u31, u32, u33, u34, u35, u36, u37, u38, u39, u40, u41, u42, u43, u44, u45, u46, u47, u48, u49, u50, u51, u52, u53, u54, u55, u56, u57, u58, u59, u60, u61, u62, u63, u64, u65, u66, u67, u68, u69, u70, u71, u72, u73, u74, u75, u76, u77, u78, u79, u80, u81, u82, u83, u84, u85, u86, u87, u88, u89, u90, u91, u92, u93, u94, u95, u96, u97, u98, u99, u100, u101, u102, u103, u104, u105, u106, u107, u108, u109, u110, u111, u112, u113, u114, u115, u116, u117, u118, u119, u120, u121, u122, u123, u124, u125, u126, u127, u128, u129, u130, u131, u132, u133, u134, u135, u136, u137, u138, u139, u140, u141, u142, u143, u144, u145, u146, u147, u148], []⟩ w := by
  have hd : decide (fuel ≤ 0) = false := by simp; omega
  have i0 : (0 : Int) ≤ (k : Int) := by omega
  have j0 : (k : Int) < (steps.length : Int) := by omega
  have k1 : (k : Int) ≤ 1000000 := by omega
  have HT : Hid (∀ n, Calls Tryz.prog 54 #[.pointer (some ⟨M, 0, none⟩), .int .i64 (m.slots.getD a 0), .int .i64 (m.slots.getD b 0)] (w.drewN n) fun e w' => e = .returned (.bool true) ∧ (∀ m', Hx.push v (m.slots.getD a 0) (m.slots.getD b 0) m = some m' → MachIn B C w' M SB v m') ∧ Below B (w.drewN n) w') := fun n => by
    have := push_any (hm.drewN n) (m.slots.getD a 0) (m.slots.getD b 0) (hm.inSlots b).2 h256
    rw [hpu] at this ⊢
    exact this
  have hsl := hc.slice
  obtain ⟨s0, s1, s2, s3, s4, s5, s6⟩ := hc.step k _ hst
  simp only at s0 s1 s2 s3 s4 s5 s6
  generalize hN : steps.length = N at *
  have HN : Hid (steps.length = N) := hN
  clear hN
  have hs := hm.slots
  have ca := hm.slot a ha
  have cb' := hm.slot b hb
  clear hm hc
  have HPU := hpu
  generalize m.slots.getD a 0 = xa at *
  generalize m.slots.getD b 0 = xb at *
  have HP : Hid (Hx.push v xa xb m = some m2) := hpu
  clear hpu HPU
  generalize m.slots.length = len at *
  have i1 : (0 : Int) ≤ (a : Int) := by omega
  have j1 : (a : Int) < (len : Int) := by omega
  have i2 : (0 : Int) ≤ (b : Int) := by omega
  have j2 : (b : Int) < (len : Int) := by omega

  conv => arg 2; whnf
  go_wp2_with fail
  refine wp_quiet_tail 23 (by kernel_rfl) (by kernel_rfl) ?_
  simp only [List.take_succ_cons, List.take_zero, List.drop_succ_cons, List.drop_zero]
  repeat (go_big_quiet_step (fail))
  refine wpQuiet_nil ?_
  intro _ hw'
  obtain ⟨n3, hw''⟩ := hw'
  subst hw''
  go_wp2_with fail
  refine (HT.out n3).mono ?_
  rintro e w2 ⟨rfl, hm2, hb2⟩
  go_wp2
  go_step3
  refine hgo _ _ ?_ (hm2 _ HP.out) ((below_drewN (Below.refl B w) n3).trans hb2)
  unfold AtNext
  (repeat apply Exists.intro)
  rfl

set_option maxRecDepth 1000000 in
set_option maxHeartbeats 2000000 in
theorem run_over (H : Nat) (vv rv : Value) (fuel : Int) (k : Nat) (u4 u7 u11 u13 u14 u15 u16 u17 u18 u19 u20 u21 u22 u23 u24 u25 u26 u27 u28 u29 u30 u31 u32 u33 u34 u35 u36 u37 u38 u39 u40 u41 u42 u43 u44 u45 u46 u47 u48 u49 u50 u51 u52 u53 u54 u55 u56 u57 u58 u59 u60 u61 u62 u63 u64 u65 u66 u67 u68 u69 u70 u71 u72 u73 u74 u75 u76 u77 u78 u79 u80 u81 u82 u83 u84 u85 u86 u87 u88 u89 u90 u91 u92 u93 u94 u95 u96 u97 u98 u99 u100 u101 u102 u103 u104 u105 u106 u107 u108 u109 u110 u111 u112 u113 u114 u115 u116 u117 u118 u119 u120 u121 u122 u123 u124 u125 u126 u127 u128 u129 u130 u131 u132 u133 u134 u135 u136 u137 u138 u139 u140 u141 u142 u143 u144 u145 u146 u147 u148 : Value) (Q : Exit → Act → World → Prop) (hf : 0 < fuel) (hfm : fuel ≤ 9223372036854775807) (hk : k < steps.length) (hlen : steps.length ≤ 1000000)
    (hm : MachIn B C w M SB v m) (hc : CodeIn B w cb co sb so cap steps) (a b : Nat) (c d dp t : Int) (hst : steps[k]? = some ⟨36, a, b, c, d, dp, t⟩) (ha : a < m.slots.length) (hb : b < m.slots.length) (h256 : m.acts.length ≤ 256) (hpu : Hx.push v (m.slots.getD a 0) (m.slots.getD b 0) m = none)
    (hgo : ∀ a' w', AtWrong cb co H M vv rv 1 a' → Below B w w' → Q (.goto 0) a' w') :
    Code.wp Tryz.prog (labelOf Tryz.f16 1) Q ⟨#[.pointer (some ⟨cb, co, none⟩), vv, rv, .int .i64 fuel, u4, .pointer (some ⟨H, 0, none⟩), .pointer (some ⟨H + 1, 0, none⟩), u7, .pointer (some ⟨H + 1 + 1, 0, none⟩), .pointer (some ⟨M, 0, none⟩), .int .i64 k, u11, .int .u8 0, u13, u14, u15, u16, u17, u18, u19, u20, u21, u22, u23, u24, u25, u26, u27, u28, u29, u30, u31, u32, u33, u34, u35, u36, u37, u38, u39, u40, u41, u42, u43, u44, u45, u46, u47, u48, u49, u50, u51, u52, u53, u54, u55, u56, u57, u58, u59, u60, u61, u62, u63, u64, u65, u66, u67, u68, u69, u70, u71, u72, u73, u74, u75, u76, u77, u78, u79, u80, u81, u82, u83, u84, u85, u86, u87, u88, u89, u90, u91, u92, u93, u94, u95, u96, u97, u98, u99, u100, u101, u102, u103, u104, u105, u106, u107, u108, u109, u110, u111, u112, u113, u114, u115, u116, u117, u118, u119, u120, u121, u122, u123, u124, u125, u126, u127, u128, u129, u130, u131, u132, u133, u134, u135, u136, u137, u138, u139, u140, u141, u142, u143, u144, u145, u146, u147, u148], []⟩ w := by
  have hd : decide (fuel ≤ 0) = false := by simp; omega
  have i0 : (0 : Int) ≤ (k : Int) := by omega
  have j0 : (k : Int) < (steps.length : Int) := by omega
  have k1 : (k : Int) ≤ 1000000 := by omega
  have HT : Hid (∀ n, Calls Tryz.prog 54 #[.pointer (some ⟨M, 0, none⟩), .int .i64 (m.slots.getD a 0), .int .i64 (m.slots.getD b 0)] (w.drewN n) fun e w' => e = .returned (.bool false) ∧ (∀ m', Hx.push v (m.slots.getD a 0) (m.slots.getD b 0) m = some m' → MachIn B C w' M SB v m') ∧ Below B (w.drewN n) w') := fun n => by
    have := push_any (hm.drewN n) (m.slots.getD a 0) (m.slots.getD b 0) (hm.inSlots b).2 h256
    rw [hpu] at this ⊢
    exact this
  have hsl := hc.slice
  obtain ⟨s0, s1, s2, s3, s4, s5, s6⟩ := hc.step k _ hst
  simp only at s0 s1 s2 s3 s4 s5 s6
  generalize hN : steps.length = N at *
  have HN : Hid (steps.length = N) := hN
  clear hN
  have hs := hm.slots
  have ca := hm.slot a ha
  have cb' := hm.slot b hb
  clear hm hc
  have HPU := hpu
  generalize m.slots.getD a 0 = xa at *
  generalize m.slots.getD b 0 = xb at *
  have HP : Hid (Hx.push v xa xb m = none) := hpu
  clear hpu HPU
  generalize m.slots.length = len at *
  have i1 : (0 : Int) ≤ (a : Int) := by omega
  have j1 : (a : Int) < (len : Int) := by omega
  have i2 : (0 : Int) ≤ (b : Int) := by omega
  have j2 : (b : Int) < (len : Int) := by omega

  conv => arg 2; whnf
  go_wp2_with fail
  refine wp_quiet_tail 23 (by kernel_rfl) (by kernel_rfl) ?_
  simp only [List.take_succ_cons, List.take_zero, List.drop_succ_cons, List.drop_zero]
  repeat (go_big_quiet_step (fail))
  refine wpQuiet_nil ?_
  intro _ hw'
  obtain ⟨n3, hw''⟩ := hw'
  subst hw''
  go_wp2_with fail
  refine (HT.out n3).mono ?_
  rintro e w2 ⟨rfl, hm2, hb2⟩
  go_wp2
  go_step3
  refine hgo _ _ ?_ ((below_drewN (Below.refl B w) n3).trans hb2)
  unfold AtWrong
  (repeat apply Exists.intro)
  rfl

set_option maxRecDepth 1000000 in
set_option maxHeartbeats 2000000 in
theorem run_work (H : Nat) (vv rv : Value) (fuel : Int) (k : Nat) (u4 u7 u11 u13 u14 u15 u16 u17 u18 u19 u20 u21 u22 u23 u24 u25 u26 u27 u28 u29 u30 u31 u32 u33 u34 u35 u36 u37 u38 u39 u40 u41 u42 u43 u44 u45 u46 u47 u48 u49 u50 u51 u52 u53 u54 u55 u56 u57 u58 u59 u60 u61 u62 u63 u64 u65 u66 u67 u68 u69 u70 u71 u72 u73 u74 u75 u76 u77 u78 u79 u80 u81 u82 u83 u84 u85 u86 u87 u88 u89 u90 u91 u92 u93 u94 u95 u96 u97 u98 u99 u100 u101 u102 u103 u104 u105 u106 u107 u108 u109 u110 u111 u112 u113 u114 u115 u116 u117 u118 u119 u120 u121 u122 u123 u124 u125 u126 u127 u128 u129 u130 u131 u132 u133 u134 u135 u136 u137 u138 u139 u140 u141 u142 u143 u144 u145 u146 u147 u148 : Value) (Q : Exit → Act → World → Prop) (hf : 0 < fuel) (hfm : fuel ≤ 9223372036854775807) (hk : k < steps.length) (hlen : steps.length ≤ 1000000)
    (hm : MachIn B C w M SB v m) (hc : CodeIn B w cb co sb so cap steps) (s : St) (hst : steps[k]? = some s) (hs : s.worksIn m.slots.length) (q1 : (s.op == 1) = false) (q2 : (s.op == 2) = false) (q3 : (s.op == 3) = false) (q4 : (s.op == 4) = false) (q5 : (s.op == 5) = false) (q6 : (s.op == 0) = false) (q7 : (s.op == 36) = false)
    (hgo : ∀ a' w', AtNext cb co H M vv rv (fuel - 1) (k + 1) a' → MachIn B C w' M SB v (Hx.work v s m) → Below B w w' → Q (.goto 1) a' w') :
    Code.wp Tryz.prog (labelOf Tryz.f16 1) Q ⟨#[.pointer (some ⟨cb, co, none⟩), vv, rv, .int .i64 fuel, u4, .pointer (some ⟨H, 0, none⟩), .pointer (some ⟨H + 1, 0, none⟩), u7, .pointer (some ⟨H + 1 + 1, 0, none⟩), .pointer (some ⟨M, 0, none⟩), .int .i64 k, u11, .int .u8 0, u13, u14, u15, u16, u17, u18, u19, u20, u21, u22, u23, u24, u25, u26, u27, u28, u29, u30, u31, u32, u33, u34, u35, u36, u37, u38, u39, u40, u41, u42, u43, u44, u45, u46, u47, u48, u49, u50, u51, u52, u53, u54, u55, u56, u57, u58, u59, u60, u61, u62, u63, u64, u65, u66, u67, u68, u69, u70, u71, u72, u73, u74, u75, u76, u77, u78, u79, u80, u81, u82, u83, u84, u85, u86, u87, u88, u89, u90, u91, u92, u93, u94, u95, u96, u97, u98, u99, u100, u101, u102, u103, u104, u105, u106, u107, u108, u109, u110, u111, u112, u113, u114, u115, u116, u117, u118, u119, u120, u121, u122, u123, u124, u125, u126, u127, u128, u129, u130, u131, u132, u133, u134, u135, u136, u137, u138, u139, u140, u141, u142, u143, u144, u145, u146, u147, u148], []⟩ w := by
  have hd : decide (fuel ≤ 0) = false := by simp; omega
  have i0 : (0 : Int) ≤ (k : Int) := by omega
  have j0 : (k : Int) < (steps.length : Int) := by omega
  have k1 : (k : Int) ≤ 1000000 := by omega
  have hw := work_any hm sb (so + k * 7) s hc.sbB (hc.step k _ hst) hs
  have HW : Hid (Calls Tryz.prog 55 #[.pointer (some ⟨M, 0, none⟩), .pointer (some ⟨sb, so + k * 7, none⟩)] w fun e w' => e = .returned (.tuple #[]) ∧ MachIn B C w' M SB v (Hx.work v s m) ∧ Below B w w') := hw
  clear hw
  have hsl := hc.slice
  obtain ⟨s0, s1, s2, s3, s4, s5, s6⟩ := hc.step k _ hst
  generalize hN : steps.length = N at *
  have HN : Hid (steps.length = N) := hN
  clear hN
  clear hm hc

  conv => arg 2; whnf
  go_wp2_with fail
  refine (HW.out).mono ?_
  rintro e w2 ⟨rfl, hm2, hb2⟩
  go_wp2
  go_step3
  refine hgo _ _ ?_ hm2 hb2
  unfold AtNext
  (repeat apply Exists.intro)
  rfl

/-- the cell of the result, untouched yet -/
def ResCell (w : World) (H : Nat) : Prop :=
  w.cell? ⟨H + 1 + 1, 0, none⟩ = some (.int .u8 0) ∧ w.cell? ⟨H + 1 + 1, 1, none⟩ = some (.slice none 0 0) ∧ (∀ j, j < 8 → w.cell? ⟨H + 1 + 1, 2 + j, none⟩ = some (.int .i64 0)) ∧ (∀ j, w.frozen? ⟨H + 1 + 1, j, none⟩ = false)

/-- a result in its cell -/
def HasRes (w : World) (H : Nat) (r : Value) : Prop :=
  ∃ (st : Int) (va : Value) (regs : List Int), r = resultV st va regs ∧ w.cell? ⟨H + 1 + 1, 0, none⟩ = some (.int .u8 st) ∧ w.cell? ⟨H + 1 + 1, 1, none⟩ = some va ∧
    (∃ a n c, va = .slice a n c) ∧ (∀ j, j < 8 → w.cell? ⟨H + 1 + 1, 2 + j, none⟩ = some (.int .i64 (regs.getD j 0)))

theorem ResCell.keep {B : Nat} {w w' : World} {H : Nat} (h : ResCell w H) (hb : Below B w w') (hB : H + 1 + 1 < B) : ResCell w' H := by
  obtain ⟨h1, h2, h3, h4⟩ := h
  have hc : ∀ o, w'.cell? ⟨H + 1 + 1, o, none⟩ = w.cell? ⟨H + 1 + 1, o, none⟩ := fun o => hb.cell (p := ⟨H + 1 + 1, o, none⟩) hB
  exact ⟨by rw [hc]; exact h1, by rw [hc]; exact h2, fun j hj => by rw [hc]; exact h3 j hj, fun j => by rw [hb.frozen (p := ⟨H + 1 + 1, j, none⟩) hB]; exact h4 j⟩

/-- the ten stores of a result -/
def putRes (w : World) (H : Nat) (st : Int) (va : Value) (x0 x1 x2 x3 x4 x5 x6 x7 : Int) : World :=
  ((((((((((w.setCell ⟨H + 1 + 1, 0, none⟩ (.int .u8 st)).setCell ⟨H + 1 + 1, 1, none⟩ va).setCell ⟨H + 1 + 1, 2, none⟩ (.int .i64 x0)).setCell ⟨H + 1 + 1, 3, none⟩ (.int .i64 x1)).setCell ⟨H + 1 + 1, 4, none⟩ (.int .i64 x2)).setCell ⟨H + 1 + 1, 5, none⟩ (.int .i64 x3)).setCell ⟨H + 1 + 1, 6, none⟩ (.int .i64 x4)).setCell ⟨H + 1 + 1, 7, none⟩ (.int .i64 x5)).setCell ⟨H + 1 + 1, 8, none⟩ (.int .i64 x6)).setCell ⟨H + 1 + 1, 9, none⟩ (.int .i64 x7))

set_option maxRecDepth 1000000 in
set_option maxHeartbeats 2000000 in
theorem run_return (H : Nat) (vv rv : Value) (fuel : Int) (k : Nat) (u4 u7 u11 u13 u14 u15 u16 u17 u18 u19 u20 u21 u22 u23 u24 u25 u26 u27 u28 u29 u30 u31 u32 u33 u34 u35 u36 u37 u38 u39 u40 u41 u42 u43 u44 u45 u46 u47 u48 u49 u50 u51 u52 u53 u54 u55 u56 u57 u58 u59 u60 u61 u62 u63 u64 u65 u66 u67 u68 u69 u70 u71 u72 u73 u74 u75 u76 u77 u78 u79 u80 u81 u82 u83 u84 u85 u86 u87 u88 u89 u90 u91 u92 u93 u94 u95 u96 u97 u98 u99 u100 u101 u102 u103 u104 u105 u106 u107 u108 u109 u110 u111 u112 u113 u114 u115 u116 u117 u118 u119 u120 u121 u122 u123 u124 u125 u126 u127 u128 u129 u130 u131 u132 u133 u134 u135 u136 u137 u138 u139 u140 u141 u142 u143 u144 u145 u146 u147 u148 : Value) (Q : Exit → Act → World → Prop) (hf : 0 < fuel) (hfm : fuel ≤ 9223372036854775807) (hk : k < steps.length) (hlen : steps.length ≤ 1000000)
    (hm : MachIn B C w M SB v m) (hc : CodeIn B w cb co sb so cap steps) (a b c d dp t : Int) (hst : steps[k]? = some ⟨1, a, b, c, d, dp, t⟩) (h8 : 8 ≤ m.slots.length) (hH : H + 1 + 1 < B) (hres : ResCell w H)
    (hret : ∀ a' w1 va, w1.ownsRow C 76 2 va m.acts.length (actCells m.acts) → (∃ a n c, va = .slice a n c) → Below B w w1 → ResCell w1 H → a'.tmps.getD 8 undef = .pointer (some ⟨H + 1 + 1, 0, none⟩) → a'.defers = [] → Q .ret a' (putRes w1 H 0 va (m.slots.getD 0 0) (m.slots.getD 1 0) (m.slots.getD 2 0) (m.slots.getD 3 0) (m.slots.getD 4 0) (m.slots.getD 5 0) (m.slots.getD 6 0) (m.slots.getD 7 0))) :
    Code.wp Tryz.prog (labelOf Tryz.f16 1) Q ⟨#[.pointer (some ⟨cb, co, none⟩), vv, rv, .int .i64 fuel, u4, .pointer (some ⟨H, 0, none⟩), .pointer (some ⟨H + 1, 0, none⟩), u7, .pointer (some ⟨H + 1 + 1, 0, none⟩), .pointer (some ⟨M, 0, none⟩), .int .i64 k, u11, .int .u8 0, u13, u14, u15, u16, u17, u18, u19, u20, u21, u22, u23, u24, u25, u26, u27, u28, u29, u30, u31, u32, u33, u34, u35, u36, u37, u38, u39, u40, u41, u42, u43, u44, u45, u46, u47, u48, u49, u50, u51, u52, u53, u54, u55, u56, u57, u58, u59, u60, u61, u62, u63, u64, u65, u66, u67, u68, u69, u70, u71, u72, u73, u74, u75, u76, u77, u78, u79, u80, u81, u82, u83, u84, u85, u86, u87, u88, u89, u90, u91, u92, u93, u94, u95, u96, u97, u98, u99, u100, u101, u102, u103, u104, u105, u106, u107, u108, u109, u110, u111, u112, u113, u114, u115, u116, u117, u118, u119, u120, u121, u122, u123, u124, u125, u126, u127, u128, u129, u130, u131, u132, u133, u134, u135, u136, u137, u138, u139, u140, u141, u142, u143, u144, u145, u146, u147, u148], []⟩ w := by
  have hd : decide (fuel ≤ 0) = false := by simp; omega
  have i0 : (0 : Int) ≤ (k : Int) := by omega
  have j0 : (k : Int) < (steps.length : Int) := by omega
  have k1 : (k : Int) ≤ 1000000 := by omega
  have HD : Hid (Calls Tryz.prog 51 #[.pointer (some ⟨M, 0, none⟩)] w fun e w' => ∃ va, e = .returned (resultV 0 va m.slots) ∧ w'.ownsRow C 76 2 va m.acts.length (actCells m.acts) ∧ Below B w w') := done_any hm h8
  have HR : Hid (ResCell w H) := hres
  have hsl := hc.slice
  obtain ⟨s0, s1, s2, s3, s4, s5, s6⟩ := hc.step k _ hst
  simp only at s0 s1 s2 s3 s4 s5 s6
  generalize hN : steps.length = N at *
  have HN : Hid (steps.length = N) := hN
  clear hN
  clear hm hc hres

  conv => arg 2; whnf
  go_wp2_with fail
  refine (HD.out).mono ?_
  rintro e w1 ⟨va, rfl, hown, hb1⟩
  obtain ⟨aa, cc, hval⟩ : ∃ aa cc, va = .slice aa m.acts.length cc := by
    obtain ⟨h1, h2⟩ := hown
    rcases h2 with ⟨h3, h4⟩ | ⟨g, cap, cur, h3, h4⟩
    · exact ⟨none, 0, by rw [h3, h4]⟩
    · exact ⟨_, _, h3⟩
  subst hval
  have hr := HR.out.keep hb1 hH
  have HR1 : Hid (ResCell w1 H) := hr
  obtain ⟨c0, c1, c2, cf⟩ := hr
  have d0 := c2 0 (by omega)
  have d1 := c2 1 (by omega)
  have d2 := c2 2 (by omega)
  have d3 := c2 3 (by omega)
  have d4 := c2 4 (by omega)
  have d5 := c2 5 (by omega)
  have d6 := c2 6 (by omega)
  have d7 := c2 7 (by omega)
  simp only [Nat.reduceAdd] at d0 d1 d2 d3 d4 d5 d6 d7
  have HO : Hid (w1.ownsRow C 76 2 (.slice aa m.acts.length cc) m.acts.length (actCells m.acts) ∧ Below B w w1) := ⟨hown, hb1⟩
  clear hown hb1 c2
  unfold resultV
  go_wp2
  exact hret _ w1 _ HO.out.1 ⟨_, _, _, rfl⟩ HO.out.2 HR1.out rfl rfl
end Go.Proofs.YthllhabjfchgiaaGreatDoor
