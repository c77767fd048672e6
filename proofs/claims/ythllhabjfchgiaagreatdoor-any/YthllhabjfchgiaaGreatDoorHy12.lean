import Derived.Test.YthllhabjfchgiaaGreatDoorHy11
/- A pass of (*Code).Run, out of its cases; the label wrong. (Written by wip/tools/run_gen2.py.) -/
namespace Go.Proofs.YthllhabjfchgiaaGreatDoor
open Go.RowKit
open Hx (Rd Pk Vw St Mc In64 Out)

variable {B C : Nat} {w : World} {M SB : Nat} {v : Vw} {m : Mc} {cb co sb so cap : Nat} {steps : List St} {H : Nat} {vv rv : Value}

theorem len_put (m : Mc) (i x : Int) : (m.put i x).slots.length = m.slots.length := by simp [Hx.Mc.put]
theorem len_putLeft (m : Mc) (i x : Int) : (m.putLeft i x).slots.length = m.slots.length := rfl
theorem len_choose (s : St) (b : Bool) (m : Mc) : (Hx.choose s b m).slots.length = m.slots.length := by
  unfold Hx.choose; split
  · rw [len_put, len_put]
  · rfl
theorem len_work (v : Vw) (s : St) (m : Mc) : (Hx.work v s m).slots.length = m.slots.length := by
  unfold Hx.work
  repeat' split
  all_goals first | exact len_put _ _ _ | exact len_choose _ _ _
theorem acts_choose (s : St) (b : Bool) (m : Mc) : (Hx.choose s b m).acts = m.acts := by unfold Hx.choose; split <;> rfl
theorem acts_work (v : Vw) (s : St) (m : Mc) : (Hx.work v s m).acts = m.acts := by
  unfold Hx.work
  repeat' split
  all_goals first | rfl | exact acts_choose _ _ _
theorem len_turn (s : St) (k : Int) (m : Mc) : (Hx.turn s k m).1.slots.length = m.slots.length := by
  unfold Hx.turn; split
  · rfl
  · rw [len_putLeft, len_put]
theorem acts_turn (s : St) (k : Int) (m : Mc) : (Hx.turn s k m).1.acts = m.acts := by unfold Hx.turn; split <;> rfl
theorem turn_next (s : St) (k : Int) (m : Mc) : (Hx.turn s k m).2 = s.to ∨ (Hx.turn s k m).2 = k + 1 := by unfold Hx.turn; split <;> simp

theorem push_some {v : Vw} {i j : Int} {m m2 : Mc} (h : Hx.push v i j m = some m2) (ha : m.acts.length ≤ 256) : m2.slots.length = m.slots.length ∧ m2.acts.length ≤ 256 := by
  unfold Hx.push at h
  split at h
  · split at h
    · cases h
    · cases h; simp; omega
  · cases h; exact ⟨rfl, ha⟩

/-- what holds at the label next: the run still comes to o -/
structure Goes (B C : Nat) (w : World) (M SB : Nat) (v : Vw) (cb co sb so cap : Nat) (steps : List St) (n : Nat) (H : Nat) (regs : List Int) (o : Out) (fuel k : Int) (m : Mc) : Prop where
  mach : MachIn B C w M SB v m
  code : CodeIn B w cb co sb so cap steps
  res : ResCell w H
  len : m.slots.length = n
  acts : m.acts.length ≤ 256
  k0 : 0 ≤ k
  k1 : k < steps.length
  fmax : fuel ≤ 9223372036854775807
  out : Hx.runs v steps regs fuel.toNat k m = o

theorem runs_step {v : Vw} {steps : List St} {regs : List Int} {fuel k : Int} {m : Mc} {s : St} (hf : 0 < fuel) (hs : steps[k.toNat]? = some s) :
    Hx.runs v steps regs fuel.toNat k m = match Hx.step v steps regs k.toNat s m with
      | .inl o => o
      | .inr (k', m') => Hx.runs v steps regs (fuel - 1).toNat k' m' := by
  obtain ⟨f, hf'⟩ : ∃ f, fuel.toNat = f + 1 := ⟨fuel.toNat - 1, by omega⟩
  have e : (fuel - 1).toNat = f := by omega
  rw [hf', e, Hx.runs, hs]
  cases hh : Hx.step v steps regs k.toNat s m <;> simp [hh]

set_option maxRecDepth 1000000 in
set_option maxHeartbeats 2000000 in
theorem run_next {n : Nat} {regs : List Int} {o : Out} {fuel k : Int} (hfit : Hx.Fits steps n) (h8 : 8 ≤ n) (hH : H + 1 + 1 < B) (a : Act) (ha : AtNext cb co H M vv rv fuel k a) (hg : Goes B C w M SB v cb co sb so cap steps n H regs o fuel k m) (Q : Exit → Act → World → Prop)
    (hgo : ∀ a' w' fuel' k' m', AtNext cb co H M vv rv fuel' k' a' → Goes B C w' M SB v cb co sb so cap steps n H regs o fuel' k' m' → Below B w w' → 0 < fuel → fuel' = fuel - 1 → Q (.goto 1) a' w')
    (hwr : ∀ a' w' st, AtWrong cb co H M vv rv st a' → o = ⟨st, regs, []⟩ → ResCell w' H → Below B w w' → Q (.goto 0) a' w')
    (hret : ∀ a' w1 va, o = ⟨0, m.slots, m.acts⟩ → w1.ownsRow C 76 2 va m.acts.length (actCells m.acts) → (∃ a n c, va = .slice a n c) → Below B w w1 → ResCell w1 H → a'.tmps.getD 8 undef = .pointer (some ⟨H + 1 + 1, 0, none⟩) → a'.defers = [] → Q .ret a' (putRes w1 H 0 va (m.slots.getD 0 0) (m.slots.getD 1 0) (m.slots.getD 2 0) (m.slots.getD 3 0) (m.slots.getD 4 0) (m.slots.getD 5 0) (m.slots.getD 6 0) (m.slots.getD 7 0))) :
    Code.wp Tryz.prog (labelOf Tryz.f16 1) Q a w := by
  obtain ⟨hm, hc, hr, hn, hac, hk0, hk1, hfm, hout⟩ := hg
  obtain ⟨k, rfl⟩ := Int.eq_ofNat_of_zero_le hk0
  have hkn : k < steps.length := by omega
  have hlen := hfit.len
  obtain ⟨s, hst⟩ : ∃ s, steps[k]? = some s := ⟨steps[k], by simp [hkn]⟩
  have hfs := hfit.each k s hst
  unfold AtNext at ha
  obtain ⟨u4, ha⟩ := ha
  obtain ⟨u7, ha⟩ := ha
  obtain ⟨u11, ha⟩ := ha
  obtain ⟨u13, ha⟩ := ha
  obtain ⟨u14, ha⟩ := ha
  obtain ⟨u15, ha⟩ := ha
  obtain ⟨u16, ha⟩ := ha
  obtain ⟨u17, ha⟩ := ha
  obtain ⟨u18, ha⟩ := ha
  obtain ⟨u19, ha⟩ := ha
  obtain ⟨u20, ha⟩ := ha
  obtain ⟨u21, ha⟩ := ha
  obtain ⟨u22, ha⟩ := ha
  obtain ⟨u23, ha⟩ := ha
  obtain ⟨u24, ha⟩ := ha
  obtain ⟨u25, ha⟩ := ha
  obtain ⟨u26, ha⟩ := ha
  obtain ⟨u27, ha⟩ := ha
  obtain ⟨u28, ha⟩ := ha
  obtain ⟨u29, ha⟩ := ha
  obtain ⟨u30, ha⟩ := ha
  obtain ⟨u31, ha⟩ := ha
  obtain ⟨u32, ha⟩ := ha
  obtain ⟨u33, ha⟩ := ha
  obtain ⟨u34, ha⟩ := ha
  obtain ⟨u35, ha⟩ := ha
  obtain ⟨u36, ha⟩ := ha
  obtain ⟨u37, ha⟩ := ha
  obtain ⟨u38, ha⟩ := ha
  obtain ⟨u39, ha⟩ := ha
  obtain ⟨u40, ha⟩ := ha
  obtain ⟨u41, ha⟩ := ha
  obtain ⟨u42, ha⟩ := ha
  obtain ⟨u43, ha⟩ := ha
  obtain ⟨u44, ha⟩ := ha
  obtain ⟨u45, ha⟩ := ha
  obtain ⟨u46, ha⟩ := ha
  obtain ⟨u47, ha⟩ := ha
  obtain ⟨u48, ha⟩ := ha
  obtain ⟨u49, ha⟩ := ha
  obtain ⟨u50, ha⟩ := ha
  obtain ⟨u51, ha⟩ := ha
  obtain ⟨u52, ha⟩ := ha
  obtain ⟨u53, ha⟩ := ha
  obtain ⟨u54, ha⟩ := ha
  obtain ⟨u55, ha⟩ := ha
  obtain ⟨u56, ha⟩ := ha
  obtain ⟨u57, ha⟩ := ha
  obtain ⟨u58, ha⟩ := ha
  obtain ⟨u59, ha⟩ := ha
  obtain ⟨u60, ha⟩ := ha
  obtain ⟨u61, ha⟩ := ha
  obtain ⟨u62, ha⟩ := ha
  obtain ⟨u63, ha⟩ := ha
  obtain ⟨u64, ha⟩ := ha
  obtain ⟨u65, ha⟩ := ha
  obtain ⟨u66, ha⟩ := ha
  obtain ⟨u67, ha⟩ := ha
  obtain ⟨u68, ha⟩ := ha
  obtain ⟨u69, ha⟩ := ha
  obtain ⟨u70, ha⟩ := ha
  obtain ⟨u71, ha⟩ := ha
  obtain ⟨u72, ha⟩ := ha
  obtain ⟨u73, ha⟩ := ha
  obtain ⟨u74, ha⟩ := ha
  obtain ⟨u75, ha⟩ := ha
  obtain ⟨u76, ha⟩ := ha
  obtain ⟨u77, ha⟩ := ha
  obtain ⟨u78, ha⟩ := ha
  obtain ⟨u79, ha⟩ := ha
  obtain ⟨u80, ha⟩ := ha
  obtain ⟨u81, ha⟩ := ha
  obtain ⟨u82, ha⟩ := ha
  obtain ⟨u83, ha⟩ := ha
  obtain ⟨u84, ha⟩ := ha
  obtain ⟨u85, ha⟩ := ha
  obtain ⟨u86, ha⟩ := ha
  obtain ⟨u87, ha⟩ := ha
  obtain ⟨u88, ha⟩ := ha
  obtain ⟨u89, ha⟩ := ha
  obtain ⟨u90, ha⟩ := ha
  obtain ⟨u91, ha⟩ := ha
  obtain ⟨u92, ha⟩ := ha
  obtain ⟨u93, ha⟩ := ha
  obtain ⟨u94, ha⟩ := ha
  obtain ⟨u95, ha⟩ := ha
  obtain ⟨u96, ha⟩ := ha
  obtain ⟨u97, ha⟩ := ha
  obtain ⟨u98, ha⟩ := ha
  obtain ⟨u99, ha⟩ := ha
  obtain ⟨u100, ha⟩ := ha
  obtain ⟨u101, ha⟩ := ha
  obtain ⟨u102, ha⟩ := ha
  obtain ⟨u103, ha⟩ := ha
  obtain ⟨u104, ha⟩ := ha
  obtain ⟨u105, ha⟩ := ha
  obtain ⟨u106, ha⟩ := ha
  obtain ⟨u107, ha⟩ := ha
  obtain ⟨u108, ha⟩ := ha
  obtain ⟨u109, ha⟩ := ha
  obtain ⟨u110, ha⟩ := ha
  obtain ⟨u111, ha⟩ := ha
  obtain ⟨u112, ha⟩ := ha
  obtain ⟨u113, ha⟩ := ha
  obtain ⟨u114, ha⟩ := ha
  obtain ⟨u115, ha⟩ := ha
  obtain ⟨u116, ha⟩ := ha
  obtain ⟨u117, ha⟩ := ha
  obtain ⟨u118, ha⟩ := ha
  obtain ⟨u119, ha⟩ := ha
  obtain ⟨u120, ha⟩ := ha
  obtain ⟨u121, ha⟩ := ha
  obtain ⟨u122, ha⟩ := ha
  obtain ⟨u123, ha⟩ := ha
  obtain ⟨u124, ha⟩ := ha
  obtain ⟨u125, ha⟩ := ha
  obtain ⟨u126, ha⟩ := ha
  obtain ⟨u127, ha⟩ := ha
  obtain ⟨u128, ha⟩ := ha
  obtain ⟨u129, ha⟩ := ha
  obtain ⟨u130, ha⟩ := ha
  obtain ⟨u131, ha⟩ := ha
  obtain ⟨u132, ha⟩ := ha
  obtain ⟨u133, ha⟩ := ha
  obtain ⟨u134, ha⟩ := ha
  obtain ⟨u135, ha⟩ := ha
  obtain ⟨u136, ha⟩ := ha
  obtain ⟨u137, ha⟩ := ha
  obtain ⟨u138, ha⟩ := ha
  obtain ⟨u139, ha⟩ := ha
  obtain ⟨u140, ha⟩ := ha
  obtain ⟨u141, ha⟩ := ha
  obtain ⟨u142, ha⟩ := ha
  obtain ⟨u143, ha⟩ := ha
  obtain ⟨u144, ha⟩ := ha
  obtain ⟨u145, ha⟩ := ha
  obtain ⟨u146, ha⟩ := ha
  obtain ⟨u147, ha⟩ := ha
  obtain ⟨u148, ha⟩ := ha
  subst ha
  by_cases hf : 0 < fuel
  · have hrun := runs_step (v := v) (regs := regs) (m := m) hf (show steps[((k : Nat) : Int).toNat]? = some s from hst)
    rw [hout] at hrun
    simp only [Int.toNat_natCast] at hrun
    obtain ⟨q, a, b, c, d, dp, t⟩ := s
    have keep : ∀ w', Below B w w' → CodeIn B w' cb co sb so cap steps ∧ ResCell w' H := fun w' hb => ⟨hc.keep hb, hr.keep hb hH⟩
    by_cases q1 : q = 1
    · subst q1
      refine run_return H vv rv fuel k u4 u7 u11 u13 u14 u15 u16 u17 u18 u19 u20 u21 u22 u23 u24 u25 u26 u27 u28 u29 u30 u31 u32 u33 u34 u35 u36 u37 u38 u39 u40 u41 u42 u43 u44 u45 u46 u47 u48 u49 u50 u51 u52 u53 u54 u55 u56 u57 u58 u59 u60 u61 u62 u63 u64 u65 u66 u67 u68 u69 u70 u71 u72 u73 u74 u75 u76 u77 u78 u79 u80 u81 u82 u83 u84 u85 u86 u87 u88 u89 u90 u91 u92 u93 u94 u95 u96 u97 u98 u99 u100 u101 u102 u103 u104 u105 u106 u107 u108 u109 u110 u111 u112 u113 u114 u115 u116 u117 u118 u119 u120 u121 u122 u123 u124 u125 u126 u127 u128 u129 u130 u131 u132 u133 u134 u135 u136 u137 u138 u139 u140 u141 u142 u143 u144 u145 u146 u147 u148 Q hf hfm hkn hlen hm hc a b c d dp t hst (by omega) hH hr ?_
      intro a' w1 va h1 h2 h3 h4 h5 h6
      exact hret a' w1 va (by simpa [Hx.step] using hrun) h1 h2 h3 h4 h5 h6
    by_cases q3 : q = 3
    · subst q3
      have hto := hfs.elses rfl
      refine run_else H vv rv fuel k u4 u7 u11 u13 u14 u15 u16 u17 u18 u19 u20 u21 u22 u23 u24 u25 u26 u27 u28 u29 u30 u31 u32 u33 u34 u35 u36 u37 u38 u39 u40 u41 u42 u43 u44 u45 u46 u47 u48 u49 u50 u51 u52 u53 u54 u55 u56 u57 u58 u59 u60 u61 u62 u63 u64 u65 u66 u67 u68 u69 u70 u71 u72 u73 u74 u75 u76 u77 u78 u79 u80 u81 u82 u83 u84 u85 u86 u87 u88 u89 u90 u91 u92 u93 u94 u95 u96 u97 u98 u99 u100 u101 u102 u103 u104 u105 u106 u107 u108 u109 u110 u111 u112 u113 u114 u115 u116 u117 u118 u119 u120 u121 u122 u123 u124 u125 u126 u127 u128 u129 u130 u131 u132 u133 u134 u135 u136 u137 u138 u139 u140 u141 u142 u143 u144 u145 u146 u147 u148 Q hf hfm hkn hlen hc a b c d dp t hst ?_
      rintro a' w' h1 rfl
      exact hgo a' _ _ t m h1 ⟨hm, hc, hr, hn, hac, hto.1, hto.2, by omega, by rw [hrun]; simp [Hx.step]⟩ (Below.refl _ _) hf rfl
    by_cases q0 : q = 0
    · subst q0
      obtain ⟨lp, hl0, hlp, hl1, ht0, ht1, hlb, hd0, hd1⟩ := hfs.ends rfl
      simp only at hl0 hlp hl1
      obtain ⟨t, rfl⟩ := Int.eq_ofNat_of_zero_le hl0
      simp only [Int.toNat_natCast] at hlp
      refine run_end H vv rv fuel k u4 u7 u11 u13 u14 u15 u16 u17 u18 u19 u20 u21 u22 u23 u24 u25 u26 u27 u28 u29 u30 u31 u32 u33 u34 u35 u36 u37 u38 u39 u40 u41 u42 u43 u44 u45 u46 u47 u48 u49 u50 u51 u52 u53 u54 u55 u56 u57 u58 u59 u60 u61 u62 u63 u64 u65 u66 u67 u68 u69 u70 u71 u72 u73 u74 u75 u76 u77 u78 u79 u80 u81 u82 u83 u84 u85 u86 u87 u88 u89 u90 u91 u92 u93 u94 u95 u96 u97 u98 u99 u100 u101 u102 u103 u104 u105 u106 u107 u108 u109 u110 u111 u112 u113 u114 u115 u116 u117 u118 u119 u120 u121 u122 u123 u124 u125 u126 u127 u128 u129 u130 u131 u132 u133 u134 u135 u136 u137 u138 u139 u140 u141 u142 u143 u144 u145 u146 u147 u148 Q hf hfm hkn hlen hm hc a b c d dp t hst lp hlp (by rw [hn]; exact hlb) ⟨hd0, hd1⟩ ?_
      intro a' w' h1 h2 h3
      obtain ⟨k3, k4⟩ := keep w' h3
      refine hgo a' w' _ _ _ h1 ⟨h2, k3, k4, by rw [len_turn]; exact hn, by rw [acts_turn]; exact hac, ?_, ?_, by omega, by rw [hrun]; simp [Hx.step, hlp]⟩ h3 hf rfl
      · rcases turn_next lp t m with e | e <;> rw [e] <;> omega
      · rcases turn_next lp t m with e | e <;> rw [e] <;> omega
    have hnx := hfs.next q1 q3 q0
    by_cases q2 : q = 2
    · subst q2
      obtain ⟨⟨hs0, hs1⟩, hto0, hto1⟩ := hfs.ifs rfl
      simp only at hs0 hs1 hto0 hto1
      obtain ⟨a, rfl⟩ := Int.eq_ofNat_of_zero_le hs0
      refine run_if H vv rv fuel k u4 u7 u11 u13 u14 u15 u16 u17 u18 u19 u20 u21 u22 u23 u24 u25 u26 u27 u28 u29 u30 u31 u32 u33 u34 u35 u36 u37 u38 u39 u40 u41 u42 u43 u44 u45 u46 u47 u48 u49 u50 u51 u52 u53 u54 u55 u56 u57 u58 u59 u60 u61 u62 u63 u64 u65 u66 u67 u68 u69 u70 u71 u72 u73 u74 u75 u76 u77 u78 u79 u80 u81 u82 u83 u84 u85 u86 u87 u88 u89 u90 u91 u92 u93 u94 u95 u96 u97 u98 u99 u100 u101 u102 u103 u104 u105 u106 u107 u108 u109 u110 u111 u112 u113 u114 u115 u116 u117 u118 u119 u120 u121 u122 u123 u124 u125 u126 u127 u128 u129 u130 u131 u132 u133 u134 u135 u136 u137 u138 u139 u140 u141 u142 u143 u144 u145 u146 u147 u148 Q hf hfm hkn hlen hm hc a b c d dp t hst (by omega) ?_
      rintro a' w' h1 ⟨i, rfl⟩
      have hb : Below B w (w.drewN i) := below_drewN (Below.refl _ _) i
      obtain ⟨k3, k4⟩ := keep _ hb
      refine hgo a' _ _ _ m h1 ⟨hm.drewN i, k3, k4, hn, hac, ?_, ?_, by omega, by rw [hrun]; simp [Hx.step, Hx.Mc.get]⟩ hb hf rfl
      · split <;> omega
      · split <;> omega
    by_cases q4 : q = 4
    · subst q4
      obtain ⟨hto0, hto1, ⟨hb0, hb1⟩, ⟨hc0, hc1⟩, hd0, hd1⟩ := hfs.loops rfl
      simp only at hto0 hto1 hb0 hb1 hc0 hc1 hd0 hd1
      obtain ⟨b, rfl⟩ := Int.eq_ofNat_of_zero_le hb0
      obtain ⟨c, rfl⟩ := Int.eq_ofNat_of_zero_le hc0
      obtain ⟨dp, rfl⟩ := Int.eq_ofNat_of_zero_le hd0
      refine run_loop H vv rv fuel k u4 u7 u11 u13 u14 u15 u16 u17 u18 u19 u20 u21 u22 u23 u24 u25 u26 u27 u28 u29 u30 u31 u32 u33 u34 u35 u36 u37 u38 u39 u40 u41 u42 u43 u44 u45 u46 u47 u48 u49 u50 u51 u52 u53 u54 u55 u56 u57 u58 u59 u60 u61 u62 u63 u64 u65 u66 u67 u68 u69 u70 u71 u72 u73 u74 u75 u76 u77 u78 u79 u80 u81 u82 u83 u84 u85 u86 u87 u88 u89 u90 u91 u92 u93 u94 u95 u96 u97 u98 u99 u100 u101 u102 u103 u104 u105 u106 u107 u108 u109 u110 u111 u112 u113 u114 u115 u116 u117 u118 u119 u120 u121 u122 u123 u124 u125 u126 u127 u128 u129 u130 u131 u132 u133 u134 u135 u136 u137 u138 u139 u140 u141 u142 u143 u144 u145 u146 u147 u148 Q hf hfm hkn hlen hm hc a b c d dp t hst (by omega) (by omega) (by omega) ?_
      intro a' w' h1 h2 h3
      obtain ⟨k3, k4⟩ := keep w' h3
      refine hgo a' w' _ _ _ h1 ⟨h2, k3, k4, by rw [len_turn]; exact hn, by rw [acts_turn]; exact hac, ?_, ?_, by omega, by rw [hrun]; simp [Hx.step]⟩ h3 hf rfl
      · rcases turn_next ⟨4, a, b, c, d, dp, t⟩ k (Hx.begins v ⟨4, a, b, c, d, dp, t⟩ m) with e | e <;> rw [e]
        · exact hto0
        · omega
      · rcases turn_next ⟨4, a, b, c, d, dp, t⟩ k (Hx.begins v ⟨4, a, b, c, d, dp, t⟩ m) with e | e <;> rw [e]
        · exact hto1
        · omega
    by_cases q5 : q = 5
    · subst q5
      obtain ⟨⟨hs0, hs1⟩, lp, hl0, hlp, hl1, ht0, ht1, hlb, hd0, hd1⟩ := hfs.skips rfl
      simp only at hs0 hs1 hl0 hlp hl1
      obtain ⟨a, rfl⟩ := Int.eq_ofNat_of_zero_le hs0
      by_cases hz : m.slots.getD a 0 = 0
      · obtain ⟨t, rfl⟩ := Int.eq_ofNat_of_zero_le hl0
        simp only [Int.toNat_natCast] at hlp
        refine run_skip H vv rv fuel k u4 u7 u11 u13 u14 u15 u16 u17 u18 u19 u20 u21 u22 u23 u24 u25 u26 u27 u28 u29 u30 u31 u32 u33 u34 u35 u36 u37 u38 u39 u40 u41 u42 u43 u44 u45 u46 u47 u48 u49 u50 u51 u52 u53 u54 u55 u56 u57 u58 u59 u60 u61 u62 u63 u64 u65 u66 u67 u68 u69 u70 u71 u72 u73 u74 u75 u76 u77 u78 u79 u80 u81 u82 u83 u84 u85 u86 u87 u88 u89 u90 u91 u92 u93 u94 u95 u96 u97 u98 u99 u100 u101 u102 u103 u104 u105 u106 u107 u108 u109 u110 u111 u112 u113 u114 u115 u116 u117 u118 u119 u120 u121 u122 u123 u124 u125 u126 u127 u128 u129 u130 u131 u132 u133 u134 u135 u136 u137 u138 u139 u140 u141 u142 u143 u144 u145 u146 u147 u148 Q hf hfm hkn hlen hm hc a b c d dp t hst (by omega) hz lp hlp (by rw [hn]; exact hlb) ⟨hd0, hd1⟩ ?_
        intro a' w' h1 h2 h3
        obtain ⟨k3, k4⟩ := keep w' h3
        have hz' : m.get (a : Int) = 0 := by simpa [Hx.Mc.get] using hz
        refine hgo a' w' _ _ _ h1 ⟨h2, k3, k4, by rw [len_turn]; exact hn, by rw [acts_turn]; exact hac, ?_, ?_, by omega, by rw [hrun]; simp [Hx.step, hlp, hz']⟩ h3 hf rfl
        · rcases turn_next lp t m with e | e <;> rw [e] <;> omega
        · rcases turn_next lp t m with e | e <;> rw [e] <;> omega
      · refine run_stay H vv rv fuel k u4 u7 u11 u13 u14 u15 u16 u17 u18 u19 u20 u21 u22 u23 u24 u25 u26 u27 u28 u29 u30 u31 u32 u33 u34 u35 u36 u37 u38 u39 u40 u41 u42 u43 u44 u45 u46 u47 u48 u49 u50 u51 u52 u53 u54 u55 u56 u57 u58 u59 u60 u61 u62 u63 u64 u65 u66 u67 u68 u69 u70 u71 u72 u73 u74 u75 u76 u77 u78 u79 u80 u81 u82 u83 u84 u85 u86 u87 u88 u89 u90 u91 u92 u93 u94 u95 u96 u97 u98 u99 u100 u101 u102 u103 u104 u105 u106 u107 u108 u109 u110 u111 u112 u113 u114 u115 u116 u117 u118 u119 u120 u121 u122 u123 u124 u125 u126 u127 u128 u129 u130 u131 u132 u133 u134 u135 u136 u137 u138 u139 u140 u141 u142 u143 u144 u145 u146 u147 u148 Q hf hfm hkn hlen hm hc a b c d dp t hst (by omega) hz ?_
        rintro a' w' h1 ⟨i, rfl⟩
        have hb : Below B w (w.drewN i) := below_drewN (Below.refl _ _) i
        obtain ⟨k3, k4⟩ := keep _ hb
        have hz' : ¬ m.get (a : Int) = 0 := by simpa [Hx.Mc.get] using hz
        exact hgo a' _ _ _ m h1 ⟨hm.drewN i, k3, k4, hn, hac, by omega, by omega, by omega, by rw [hrun]; simp [Hx.step, hz']⟩ hb hf rfl
    by_cases q6 : q = 36
    · subst q6
      obtain ⟨⟨hs0, hs1⟩, hs2, hs3⟩ := hfs.pushes rfl
      simp only at hs0 hs1 hs2 hs3
      obtain ⟨a, rfl⟩ := Int.eq_ofNat_of_zero_le hs0
      obtain ⟨b, rfl⟩ := Int.eq_ofNat_of_zero_le hs2
      have e0 : Hx.push v (m.get (a : Int)) (m.get (b : Int)) m = Hx.push v (m.slots.getD a 0) (m.slots.getD b 0) m := by simp [Hx.Mc.get]
      cases hpu : Hx.push v (m.slots.getD a 0) (m.slots.getD b 0) m with
      | none =>
        refine run_over H vv rv fuel k u4 u7 u11 u13 u14 u15 u16 u17 u18 u19 u20 u21 u22 u23 u24 u25 u26 u27 u28 u29 u30 u31 u32 u33 u34 u35 u36 u37 u38 u39 u40 u41 u42 u43 u44 u45 u46 u47 u48 u49 u50 u51 u52 u53 u54 u55 u56 u57 u58 u59 u60 u61 u62 u63 u64 u65 u66 u67 u68 u69 u70 u71 u72 u73 u74 u75 u76 u77 u78 u79 u80 u81 u82 u83 u84 u85 u86 u87 u88 u89 u90 u91 u92 u93 u94 u95 u96 u97 u98 u99 u100 u101 u102 u103 u104 u105 u106 u107 u108 u109 u110 u111 u112 u113 u114 u115 u116 u117 u118 u119 u120 u121 u122 u123 u124 u125 u126 u127 u128 u129 u130 u131 u132 u133 u134 u135 u136 u137 u138 u139 u140 u141 u142 u143 u144 u145 u146 u147 u148 Q hf hfm hkn hlen hm hc a b c d dp t hst (by omega) (by omega) hac hpu ?_
        intro a' w' h1 h2
        exact hwr a' w' 1 h1 (by rw [hrun]; simp [Hx.step, e0.trans hpu]) (keep w' h2).2 h2
      | some m2 =>
        refine run_push H vv rv fuel k u4 u7 u11 u13 u14 u15 u16 u17 u18 u19 u20 u21 u22 u23 u24 u25 u26 u27 u28 u29 u30 u31 u32 u33 u34 u35 u36 u37 u38 u39 u40 u41 u42 u43 u44 u45 u46 u47 u48 u49 u50 u51 u52 u53 u54 u55 u56 u57 u58 u59 u60 u61 u62 u63 u64 u65 u66 u67 u68 u69 u70 u71 u72 u73 u74 u75 u76 u77 u78 u79 u80 u81 u82 u83 u84 u85 u86 u87 u88 u89 u90 u91 u92 u93 u94 u95 u96 u97 u98 u99 u100 u101 u102 u103 u104 u105 u106 u107 u108 u109 u110 u111 u112 u113 u114 u115 u116 u117 u118 u119 u120 u121 u122 u123 u124 u125 u126 u127 u128 u129 u130 u131 u132 u133 u134 u135 u136 u137 u138 u139 u140 u141 u142 u143 u144 u145 u146 u147 u148 Q hf hfm hkn hlen hm hc a b c d dp t hst (by omega) (by omega) hac m2 hpu ?_
        intro a' w' h1 h2 h3
        obtain ⟨k3, k4⟩ := keep w' h3
        obtain ⟨p1, p2⟩ := push_some hpu hac
        exact hgo a' w' _ _ m2 h1 ⟨h2, k3, k4, by omega, p2, by omega, by omega, by omega, by rw [hrun]; simp [Hx.step, e0.trans hpu]⟩ h3 hf rfl
    · refine run_work H vv rv fuel k u4 u7 u11 u13 u14 u15 u16 u17 u18 u19 u20 u21 u22 u23 u24 u25 u26 u27 u28 u29 u30 u31 u32 u33 u34 u35 u36 u37 u38 u39 u40 u41 u42 u43 u44 u45 u46 u47 u48 u49 u50 u51 u52 u53 u54 u55 u56 u57 u58 u59 u60 u61 u62 u63 u64 u65 u66 u67 u68 u69 u70 u71 u72 u73 u74 u75 u76 u77 u78 u79 u80 u81 u82 u83 u84 u85 u86 u87 u88 u89 u90 u91 u92 u93 u94 u95 u96 u97 u98 u99 u100 u101 u102 u103 u104 u105 u106 u107 u108 u109 u110 u111 u112 u113 u114 u115 u116 u117 u118 u119 u120 u121 u122 u123 u124 u125 u126 u127 u128 u129 u130 u131 u132 u133 u134 u135 u136 u137 u138 u139 u140 u141 u142 u143 u144 u145 u146 u147 u148 Q hf hfm hkn hlen hm hc _ hst (by rw [hn]; exact hfs.works q1 q2 q3 q4 q5 q0 q6) (by simpa using q1) (by simpa using q2) (by simpa using q3) (by simpa using q4) (by simpa using q5) (by simpa using q0) (by simpa using q6) ?_
      intro a' w' h1 h2 h3
      obtain ⟨k3, k4⟩ := keep w' h3
      exact hgo a' w' _ _ _ h1 ⟨h2, k3, k4, by rw [len_work]; exact hn, by rw [acts_work]; exact hac, by omega, by omega, by omega, by rw [hrun]; simp [Hx.step, q1, q2, q3, q4, q5, q0, q6]⟩ h3 hf rfl
  · refine run_starved H vv rv fuel k u4 u7 u11 u13 u14 u15 u16 u17 u18 u19 u20 u21 u22 u23 u24 u25 u26 u27 u28 u29 u30 u31 u32 u33 u34 u35 u36 u37 u38 u39 u40 u41 u42 u43 u44 u45 u46 u47 u48 u49 u50 u51 u52 u53 u54 u55 u56 u57 u58 u59 u60 u61 u62 u63 u64 u65 u66 u67 u68 u69 u70 u71 u72 u73 u74 u75 u76 u77 u78 u79 u80 u81 u82 u83 u84 u85 u86 u87 u88 u89 u90 u91 u92 u93 u94 u95 u96 u97 u98 u99 u100 u101 u102 u103 u104 u105 u106 u107 u108 u109 u110 u111 u112 u113 u114 u115 u116 u117 u118 u119 u120 u121 u122 u123 u124 u125 u126 u127 u128 u129 u130 u131 u132 u133 u134 u135 u136 u137 u138 u139 u140 u141 u142 u143 u144 u145 u146 u147 u148 Q (by omega) ?_
    intro a' h1
    refine hwr a' w 2 h1 ?_ hr (Below.refl _ _)
    rw [← hout]
    have e : fuel.toNat = 0 := by omega
    rw [e]
    rfl
end Go.Proofs.YthllhabjfchgiaaGreatDoor

/- (*Code).Run: the label wrong, what it gives back, and the whole. (Written by wip/tools/run_gen3.py.) -/
namespace Go.Proofs.YthllhabjfchgiaaGreatDoor
open Go.RowKit
open Hx (Rd Pk Vw St Mc In64 Out)

variable {B C : Nat} {w : World} {M SB : Nat} {v : Vw} {m : Mc} {cb co sb so cap : Nat} {steps : List St} {H : Nat} {vv rv : Value}

/-- the registers as they were, in their box -/
def RegBox (w : World) (H : Nat) (x0 x1 x2 x3 x4 x5 x6 x7 : Int) : Prop :=
  ∀ j, j < 8 → w.cell? ⟨H + 1, j, none⟩ = some (.int .i64 ([x0, x1, x2, x3, x4, x5, x6, x7].getD j 0))

set_option maxRecDepth 1000000 in
theorem atNext_fuel {fuel k : Int} {a : Act} (ha : AtNext cb co H M vv rv fuel k a) : a.tmps.getD 3 undef = .int .i64 fuel := by
  unfold AtNext at ha
  obtain ⟨u4, ha⟩ := ha
  obtain ⟨u7, ha⟩ := ha
  obtain ⟨u11, ha⟩ := ha
  obtain ⟨u13, ha⟩ := ha
  obtain ⟨u14, ha⟩ := ha
  obtain ⟨u15, ha⟩ := ha
  obtain ⟨u16, ha⟩ := ha
  obtain ⟨u17, ha⟩ := ha
  obtain ⟨u18, ha⟩ := ha
  obtain ⟨u19, ha⟩ := ha
  obtain ⟨u20, ha⟩ := ha
  obtain ⟨u21, ha⟩ := ha
  obtain ⟨u22, ha⟩ := ha
  obtain ⟨u23, ha⟩ := ha
  obtain ⟨u24, ha⟩ := ha
  obtain ⟨u25, ha⟩ := ha
  obtain ⟨u26, ha⟩ := ha
  obtain ⟨u27, ha⟩ := ha
  obtain ⟨u28, ha⟩ := ha
  obtain ⟨u29, ha⟩ := ha
  obtain ⟨u30, ha⟩ := ha
  obtain ⟨u31, ha⟩ := ha
  obtain ⟨u32, ha⟩ := ha
  obtain ⟨u33, ha⟩ := ha
  obtain ⟨u34, ha⟩ := ha
  obtain ⟨u35, ha⟩ := ha
  obtain ⟨u36, ha⟩ := ha
  obtain ⟨u37, ha⟩ := ha
  obtain ⟨u38, ha⟩ := ha
  obtain ⟨u39, ha⟩ := ha
  obtain ⟨u40, ha⟩ := ha
  obtain ⟨u41, ha⟩ := ha
  obtain ⟨u42, ha⟩ := ha
  obtain ⟨u43, ha⟩ := ha
  obtain ⟨u44, ha⟩ := ha
  obtain ⟨u45, ha⟩ := ha
  obtain ⟨u46, ha⟩ := ha
  obtain ⟨u47, ha⟩ := ha
  obtain ⟨u48, ha⟩ := ha
  obtain ⟨u49, ha⟩ := ha
  obtain ⟨u50, ha⟩ := ha
  obtain ⟨u51, ha⟩ := ha
  obtain ⟨u52, ha⟩ := ha
  obtain ⟨u53, ha⟩ := ha
  obtain ⟨u54, ha⟩ := ha
  obtain ⟨u55, ha⟩ := ha
  obtain ⟨u56, ha⟩ := ha
  obtain ⟨u57, ha⟩ := ha
  obtain ⟨u58, ha⟩ := ha
  obtain ⟨u59, ha⟩ := ha
  obtain ⟨u60, ha⟩ := ha
  obtain ⟨u61, ha⟩ := ha
  obtain ⟨u62, ha⟩ := ha
  obtain ⟨u63, ha⟩ := ha
  obtain ⟨u64, ha⟩ := ha
  obtain ⟨u65, ha⟩ := ha
  obtain ⟨u66, ha⟩ := ha
  obtain ⟨u67, ha⟩ := ha
  obtain ⟨u68, ha⟩ := ha
  obtain ⟨u69, ha⟩ := ha
  obtain ⟨u70, ha⟩ := ha
  obtain ⟨u71, ha⟩ := ha
  obtain ⟨u72, ha⟩ := ha
  obtain ⟨u73, ha⟩ := ha
  obtain ⟨u74, ha⟩ := ha
  obtain ⟨u75, ha⟩ := ha
  obtain ⟨u76, ha⟩ := ha
  obtain ⟨u77, ha⟩ := ha
  obtain ⟨u78, ha⟩ := ha
  obtain ⟨u79, ha⟩ := ha
  obtain ⟨u80, ha⟩ := ha
  obtain ⟨u81, ha⟩ := ha
  obtain ⟨u82, ha⟩ := ha
  obtain ⟨u83, ha⟩ := ha
  obtain ⟨u84, ha⟩ := ha
  obtain ⟨u85, ha⟩ := ha
  obtain ⟨u86, ha⟩ := ha
  obtain ⟨u87, ha⟩ := ha
  obtain ⟨u88, ha⟩ := ha
  obtain ⟨u89, ha⟩ := ha
  obtain ⟨u90, ha⟩ := ha
  obtain ⟨u91, ha⟩ := ha
  obtain ⟨u92, ha⟩ := ha
  obtain ⟨u93, ha⟩ := ha
  obtain ⟨u94, ha⟩ := ha
  obtain ⟨u95, ha⟩ := ha
  obtain ⟨u96, ha⟩ := ha
  obtain ⟨u97, ha⟩ := ha
  obtain ⟨u98, ha⟩ := ha
  obtain ⟨u99, ha⟩ := ha
  obtain ⟨u100, ha⟩ := ha
  obtain ⟨u101, ha⟩ := ha
  obtain ⟨u102, ha⟩ := ha
  obtain ⟨u103, ha⟩ := ha
  obtain ⟨u104, ha⟩ := ha
  obtain ⟨u105, ha⟩ := ha
  obtain ⟨u106, ha⟩ := ha
  obtain ⟨u107, ha⟩ := ha
  obtain ⟨u108, ha⟩ := ha
  obtain ⟨u109, ha⟩ := ha
  obtain ⟨u110, ha⟩ := ha
  obtain ⟨u111, ha⟩ := ha
  obtain ⟨u112, ha⟩ := ha
  obtain ⟨u113, ha⟩ := ha
  obtain ⟨u114, ha⟩ := ha
  obtain ⟨u115, ha⟩ := ha
  obtain ⟨u116, ha⟩ := ha
  obtain ⟨u117, ha⟩ := ha
  obtain ⟨u118, ha⟩ := ha
  obtain ⟨u119, ha⟩ := ha
  obtain ⟨u120, ha⟩ := ha
  obtain ⟨u121, ha⟩ := ha
  obtain ⟨u122, ha⟩ := ha
  obtain ⟨u123, ha⟩ := ha
  obtain ⟨u124, ha⟩ := ha
  obtain ⟨u125, ha⟩ := ha
  obtain ⟨u126, ha⟩ := ha
  obtain ⟨u127, ha⟩ := ha
  obtain ⟨u128, ha⟩ := ha
  obtain ⟨u129, ha⟩ := ha
  obtain ⟨u130, ha⟩ := ha
  obtain ⟨u131, ha⟩ := ha
  obtain ⟨u132, ha⟩ := ha
  obtain ⟨u133, ha⟩ := ha
  obtain ⟨u134, ha⟩ := ha
  obtain ⟨u135, ha⟩ := ha
  obtain ⟨u136, ha⟩ := ha
  obtain ⟨u137, ha⟩ := ha
  obtain ⟨u138, ha⟩ := ha
  obtain ⟨u139, ha⟩ := ha
  obtain ⟨u140, ha⟩ := ha
  obtain ⟨u141, ha⟩ := ha
  obtain ⟨u142, ha⟩ := ha
  obtain ⟨u143, ha⟩ := ha
  obtain ⟨u144, ha⟩ := ha
  obtain ⟨u145, ha⟩ := ha
  obtain ⟨u146, ha⟩ := ha
  obtain ⟨u147, ha⟩ := ha
  obtain ⟨u148, ha⟩ := ha
  subst ha
  rfl

set_option maxRecDepth 1000000 in
set_option maxHeartbeats 2000000 in
theorem run_wrong {st x0 x1 x2 x3 x4 x5 x6 x7 : Int} (a : Act) (ha : AtWrong cb co H M vv rv st a) (hx : RegBox w H x0 x1 x2 x3 x4 x5 x6 x7) (hr : ResCell w H) (Q : Exit → Act → World → Prop)
    (hret : ∀ a', a'.tmps.getD 8 undef = .pointer (some ⟨H + 1 + 1, 0, none⟩) → a'.defers = [] → Q .ret a' (putRes w H st (.slice none 0 0) x0 x1 x2 x3 x4 x5 x6 x7)) :
    Code.wp Tryz.prog (labelOf Tryz.f16 0) Q a w := by
  unfold AtWrong at ha
  obtain ⟨u3, ha⟩ := ha
  obtain ⟨u4, ha⟩ := ha
  obtain ⟨u7, ha⟩ := ha
  obtain ⟨u10, ha⟩ := ha
  obtain ⟨u11, ha⟩ := ha
  obtain ⟨u13, ha⟩ := ha
  obtain ⟨u14, ha⟩ := ha
  obtain ⟨u15, ha⟩ := ha
  obtain ⟨u16, ha⟩ := ha
  obtain ⟨u17, ha⟩ := ha
  obtain ⟨u18, ha⟩ := ha
  obtain ⟨u19, ha⟩ := ha
  obtain ⟨u20, ha⟩ := ha
  obtain ⟨u21, ha⟩ := ha
  obtain ⟨u22, ha⟩ := ha
  obtain ⟨u23, ha⟩ := ha
  obtain ⟨u24, ha⟩ := ha
  obtain ⟨u25, ha⟩ := ha
  obtain ⟨u26, ha⟩ := ha
  obtain ⟨u27, ha⟩ := ha
  obtain ⟨u28, ha⟩ := ha
  obtain ⟨u29, ha⟩ := ha
  obtain ⟨u30, ha⟩ := ha
  obtain ⟨u31, ha⟩ := ha
  obtain ⟨u32, ha⟩ := ha
  obtain ⟨u33, ha⟩ := ha
  obtain ⟨u34, ha⟩ := ha
  obtain ⟨u35, ha⟩ := ha
  obtain ⟨u36, ha⟩ := ha
  obtain ⟨u37, ha⟩ := ha
  obtain ⟨u38, ha⟩ := ha
  obtain ⟨u39, ha⟩ := ha
  obtain ⟨u40, ha⟩ := ha
  obtain ⟨u41, ha⟩ := ha
  obtain ⟨u42, ha⟩ := ha
  obtain ⟨u43, ha⟩ := ha
  obtain ⟨u44, ha⟩ := ha
  obtain ⟨u45, ha⟩ := ha
  obtain ⟨u46, ha⟩ := ha
  obtain ⟨u47, ha⟩ := ha
  obtain ⟨u48, ha⟩ := ha
  obtain ⟨u49, ha⟩ := ha
  obtain ⟨u50, ha⟩ := ha
  obtain ⟨u51, ha⟩ := ha
  obtain ⟨u52, ha⟩ := ha
  obtain ⟨u53, ha⟩ := ha
  obtain ⟨u54, ha⟩ := ha
  obtain ⟨u55, ha⟩ := ha
  obtain ⟨u56, ha⟩ := ha
  obtain ⟨u57, ha⟩ := ha
  obtain ⟨u58, ha⟩ := ha
  obtain ⟨u59, ha⟩ := ha
  obtain ⟨u60, ha⟩ := ha
  obtain ⟨u61, ha⟩ := ha
  obtain ⟨u62, ha⟩ := ha
  obtain ⟨u63, ha⟩ := ha
  obtain ⟨u64, ha⟩ := ha
  obtain ⟨u65, ha⟩ := ha
  obtain ⟨u66, ha⟩ := ha
  obtain ⟨u67, ha⟩ := ha
  obtain ⟨u68, ha⟩ := ha
  obtain ⟨u69, ha⟩ := ha
  obtain ⟨u70, ha⟩ := ha
  obtain ⟨u71, ha⟩ := ha
  obtain ⟨u72, ha⟩ := ha
  obtain ⟨u73, ha⟩ := ha
  obtain ⟨u74, ha⟩ := ha
  obtain ⟨u75, ha⟩ := ha
  obtain ⟨u76, ha⟩ := ha
  obtain ⟨u77, ha⟩ := ha
  obtain ⟨u78, ha⟩ := ha
  obtain ⟨u79, ha⟩ := ha
  obtain ⟨u80, ha⟩ := ha
  obtain ⟨u81, ha⟩ := ha
  obtain ⟨u82, ha⟩ := ha
  obtain ⟨u83, ha⟩ := ha
  obtain ⟨u84, ha⟩ := ha
  obtain ⟨u85, ha⟩ := ha
  obtain ⟨u86, ha⟩ := ha
  obtain ⟨u87, ha⟩ := ha
  obtain ⟨u88, ha⟩ := ha
  obtain ⟨u89, ha⟩ := ha
  obtain ⟨u90, ha⟩ := ha
  obtain ⟨u91, ha⟩ := ha
  obtain ⟨u92, ha⟩ := ha
  obtain ⟨u93, ha⟩ := ha
  obtain ⟨u94, ha⟩ := ha
  obtain ⟨u95, ha⟩ := ha
  obtain ⟨u96, ha⟩ := ha
  obtain ⟨u97, ha⟩ := ha
  obtain ⟨u98, ha⟩ := ha
  obtain ⟨u99, ha⟩ := ha
  obtain ⟨u100, ha⟩ := ha
  obtain ⟨u101, ha⟩ := ha
  obtain ⟨u102, ha⟩ := ha
  obtain ⟨u103, ha⟩ := ha
  obtain ⟨u104, ha⟩ := ha
  obtain ⟨u105, ha⟩ := ha
  obtain ⟨u106, ha⟩ := ha
  obtain ⟨u107, ha⟩ := ha
  obtain ⟨u108, ha⟩ := ha
  obtain ⟨u109, ha⟩ := ha
  obtain ⟨u110, ha⟩ := ha
  obtain ⟨u111, ha⟩ := ha
  obtain ⟨u112, ha⟩ := ha
  obtain ⟨u113, ha⟩ := ha
  obtain ⟨u114, ha⟩ := ha
  obtain ⟨u115, ha⟩ := ha
  obtain ⟨u116, ha⟩ := ha
  obtain ⟨u117, ha⟩ := ha
  obtain ⟨u118, ha⟩ := ha
  obtain ⟨u119, ha⟩ := ha
  obtain ⟨u120, ha⟩ := ha
  obtain ⟨u121, ha⟩ := ha
  obtain ⟨u122, ha⟩ := ha
  obtain ⟨u123, ha⟩ := ha
  obtain ⟨u124, ha⟩ := ha
  obtain ⟨u125, ha⟩ := ha
  obtain ⟨u126, ha⟩ := ha
  obtain ⟨u127, ha⟩ := ha
  obtain ⟨u128, ha⟩ := ha
  obtain ⟨u129, ha⟩ := ha
  obtain ⟨u130, ha⟩ := ha
  obtain ⟨u131, ha⟩ := ha
  obtain ⟨u132, ha⟩ := ha
  obtain ⟨u133, ha⟩ := ha
  obtain ⟨u134, ha⟩ := ha
  obtain ⟨u135, ha⟩ := ha
  obtain ⟨u136, ha⟩ := ha
  obtain ⟨u137, ha⟩ := ha
  obtain ⟨u138, ha⟩ := ha
  obtain ⟨u139, ha⟩ := ha
  obtain ⟨u140, ha⟩ := ha
  obtain ⟨u141, ha⟩ := ha
  obtain ⟨u142, ha⟩ := ha
  obtain ⟨u143, ha⟩ := ha
  obtain ⟨u144, ha⟩ := ha
  obtain ⟨u145, ha⟩ := ha
  obtain ⟨u146, ha⟩ := ha
  obtain ⟨u147, ha⟩ := ha
  obtain ⟨u148, ha⟩ := ha
  subst ha
  have y0 := hx 0 (by omega)
  have y1 := hx 1 (by omega)
  have y2 := hx 2 (by omega)
  have y3 := hx 3 (by omega)
  have y4 := hx 4 (by omega)
  have y5 := hx 5 (by omega)
  have y6 := hx 6 (by omega)
  have y7 := hx 7 (by omega)
  simp only [List.getD_cons_zero, List.getD_cons_succ] at y0 y1 y2 y3 y4 y5 y6 y7
  obtain ⟨c0, c1, c2, cf⟩ := hr
  have d0 := c2 0 (by omega)
  have d1 := c2 1 (by omega)
  have d2 := c2 2 (by omega)
  have d3 := c2 3 (by omega)
  have d4 := c2 4 (by omega)
  have d5 := c2 5 (by omega)
  have d6 := c2 6 (by omega)
  have d7 := c2 7 (by omega)
  simp only [Nat.reduceAdd] at d0 d1 d2 d3 d4 d5 d6 d7
  clear hx c2
  conv => arg 2; whnf
  go_wp2
  exact hret _ rfl rfl
end Go.Proofs.YthllhabjfchgiaaGreatDoor

/- (*Code).Run whole. -/
namespace Go.Proofs.YthllhabjfchgiaaGreatDoor
open Go.RowKit
open Hx (Rd Pk Vw St Mc In64 Out)

variable {B C : Nat} {w : World} {M SB : Nat} {v : Vw} {m : Mc} {cb co sb so cap : Nat} {steps : List St} {H : Nat} {vv rv : Value}

/-- what holds at Run's labels -/
def RunJ (B C : Nat) (M SB : Nat) (v : Vw) (cb co sb so cap : Nat) (steps : List St) (n H : Nat) (regs : List Int) (o : Out) (vv rv : Value) (W : World) : Nat → Act → World → Prop
  | 0, a, w => ∃ st, AtWrong cb co H M vv rv st a ∧ o = ⟨st, regs, []⟩ ∧ ResCell w H ∧ Below B W w
  | 1, a, w => ∃ fuel k m, AtNext cb co H M vv rv fuel k a ∧ Goes B C w M SB v cb co sb so cap steps n H regs o fuel k m ∧ Below B W w
  | _, _, _ => False

def runMu : Nat → Act → World → Nat
  | 1, a, _ => 1 + (intOf (a.tmps.getD 3 undef)).toNat
  | _, _, _ => 0

/-- the cells of a result that was put -/
theorem putRes_far (w : World) (H : Nat) (st : Int) (va : Value) (x0 x1 x2 x3 x4 x5 x6 x7 : Int) (x : Addr) (hx : ¬ x.block = H + 1 + 1) :
    (putRes w H st va x0 x1 x2 x3 x4 x5 x6 x7).cell? x = w.cell? x := by
  unfold putRes
  repeat rw [World.cell?_setCell_other _ _ _ _ (fun e => hx (by rw [← e]))]

theorem putRes_grown (w : World) (H : Nat) (st : Int) (va : Value) (x0 x1 x2 x3 x4 x5 x6 x7 : Int) : w.grownBy (putRes w H st va x0 x1 x2 x3 x4 x5 x6 x7) (some (H + 1 + 1)) := by
  unfold putRes
  exact (((((((((grownBy_setCell _ ⟨H + 1 + 1, 0, none⟩ _).trans (grownBy_setCell _ ⟨H + 1 + 1, 1, none⟩ _)).trans (grownBy_setCell _ ⟨H + 1 + 1, 2, none⟩ _)).trans (grownBy_setCell _ ⟨H + 1 + 1, 3, none⟩ _)).trans (grownBy_setCell _ ⟨H + 1 + 1, 4, none⟩ _)).trans (grownBy_setCell _ ⟨H + 1 + 1, 5, none⟩ _)).trans (grownBy_setCell _ ⟨H + 1 + 1, 6, none⟩ _)).trans (grownBy_setCell _ ⟨H + 1 + 1, 7, none⟩ _)).trans (grownBy_setCell _ ⟨H + 1 + 1, 8, none⟩ _)).trans (grownBy_setCell _ ⟨H + 1 + 1, 9, none⟩ _)

theorem putRes_res (w : World) (H : Nat) (hr : ResCell w H) (st : Int) (a : Option Addr) (n c : Nat) (x0 x1 x2 x3 x4 x5 x6 x7 : Int) (t : Array Value) (ht : t.getD 8 undef = .pointer (some ⟨H + 1 + 1, 0, none⟩)) :
    (results Tryz.f16 t).run Tryz.prog (putRes w H st (.slice a n c) x0 x1 x2 x3 x4 x5 x6 x7) = .ok (resultV st (.slice a n c) [x0, x1, x2, x3, x4, x5, x6, x7]) (putRes w H st (.slice a n c) x0 x1 x2 x3 x4 x5 x6 x7) := by
  obtain ⟨c0, c1, c2, cf⟩ := hr
  have d0 := c2 0 (by omega)
  have d1 := c2 1 (by omega)
  have d2 := c2 2 (by omega)
  have d3 := c2 3 (by omega)
  have d4 := c2 4 (by omega)
  have d5 := c2 5 (by omega)
  have d6 := c2 6 (by omega)
  have d7 := c2 7 (by omega)
  simp only [Nat.reduceAdd] at d0 d1 d2 d3 d4 d5 d6 d7
  have ht' : t[8]?.getD undef = .pointer (some ⟨H + 1 + 1, 0, none⟩) := by simpa using ht
  unfold putRes resultV
  simp [results, Tryz.results16, go_sem, ht', c0, c1, d0, d1, d2, d3, d4, d5, d6, d7]

/-- the three boxes that Run makes first -/
def boxes (w : World) (ar af aa : Option Addr) (nr cr nf cf na ca : Nat) (x0 x1 x2 x3 x4 x5 x6 x7 : Int) : World :=
  ((w.alloc (Obj.cells #[.slice ar nr cr, .slice af nf cf, .slice aa na ca] 25)).alloc
    (Obj.cells #[.int .i64 x0, .int .i64 x1, .int .i64 x2, .int .i64 x3, .int .i64 x4, .int .i64 x5, .int .i64 x6, .int .i64 x7] 26)).alloc
    (Obj.cells #[.int .u8 0, .slice none 0 0, .int .i64 0, .int .i64 0, .int .i64 0, .int .i64 0, .int .i64 0, .int .i64 0, .int .i64 0, .int .i64 0] 35)

section
variable (w : World) (ar af aa : Option Addr) (nr cr nf cf na ca : Nat) (x0 x1 x2 x3 x4 x5 x6 x7 : Int)
theorem boxes_size : (boxes w ar af aa nr cr nf cf na ca x0 x1 x2 x3 x4 x5 x6 x7).heap.size = w.heap.size + 1 + 1 + 1 := by simp [boxes]
theorem boxes_view (k : Nat) : (boxes w ar af aa nr cr nf cf na ca x0 x1 x2 x3 x4 x5 x6 x7).cell? ⟨w.heap.size, k, none⟩ = #[Value.slice ar nr cr, .slice af nf cf, .slice aa na ca][k]? := by
  unfold boxes
  rw [World.cell?_alloc_past _ _ _ (by simp; omega), World.cell?_alloc_past _ _ _ (by simp)]
  exact World.cell?_alloc_at _ _ _ _ rfl
theorem boxes_regs : RegBox (boxes w ar af aa nr cr nf cf na ca x0 x1 x2 x3 x4 x5 x6 x7) w.heap.size x0 x1 x2 x3 x4 x5 x6 x7 := by
  intro j hj
  unfold boxes
  rw [World.cell?_alloc_past _ _ _ (by simp), World.cell?_alloc_at _ _ _ _ (by simp)]
  have := regCells_at x0 x1 x2 x3 x4 x5 x6 x7 j hj
  rw [← this]
  simp [regCells]
theorem boxes_res : ResCell (boxes w ar af aa nr cr nf cf na ca x0 x1 x2 x3 x4 x5 x6 x7) w.heap.size := by
  have h : ∀ k, (boxes w ar af aa nr cr nf cf na ca x0 x1 x2 x3 x4 x5 x6 x7).cell? ⟨w.heap.size + 1 + 1, k, none⟩ = #[Value.int .u8 0, .slice none 0 0, .int .i64 0, .int .i64 0, .int .i64 0, .int .i64 0, .int .i64 0, .int .i64 0, .int .i64 0, .int .i64 0][k]? := fun k => World.cell?_alloc_at _ _ _ _ (by simp)
  refine ⟨by rw [h]; rfl, by rw [h]; rfl, fun j hj => ?_, fun j => World.frozen?_alloc_at _ _ _ _ (by simp)⟩
  rw [h]
  have : j = 0 ∨ j = 1 ∨ j = 2 ∨ j = 3 ∨ j = 4 ∨ j = 5 ∨ j = 6 ∨ j = 7 := by omega
  rcases this with rfl | rfl | rfl | rfl | rfl | rfl | rfl | rfl <;> rfl
theorem boxes_old : w.grownBy (boxes w ar af aa nr cr nf cf na ca x0 x1 x2 x3 x4 x5 x6 x7) none := by
  unfold boxes
  exact ((World.grownBy_alloc w _ none).trans (World.grownBy_alloc _ _ none)).trans (World.grownBy_alloc _ _ none)
end

theorem RegBox.keep {B : Nat} {w w' : World} {H : Nat} {x0 x1 x2 x3 x4 x5 x6 x7 : Int} (h : RegBox w H x0 x1 x2 x3 x4 x5 x6 x7) (hb : Below B w w') (hB : H + 1 < B) : RegBox w' H x0 x1 x2 x3 x4 x5 x6 x7 := fun j hj => by
  rw [hb.cell (p := ⟨H + 1, j, none⟩) hB]; exact h j hj

theorem ViewV.keep {B : Nat} {w w' : World} {ar af aa : Option Addr} {nr nf na : Nat} {v : Vw} (h : ViewV B w ar af aa nr nf na v) (hc : ∀ x : Addr, x.block < B → w'.cell? x = w.cell? x) : ViewV B w' ar af aa nr nf na v := by
  refine ⟨fun i r hr => ?_, fun i r hr => ?_, fun i r hr => ?_, h.lenR, h.lenF, h.lenA, h.rng⟩
  · obtain ⟨b, o, e, hb, hp⟩ := h.roads i r hr
    exact ⟨b, o, e, hb, hp.keep hb hc⟩
  · obtain ⟨b, o, e, hb, hp⟩ := h.fresh i r hr
    exact ⟨b, o, e, hb, hp.keep hb hc⟩
  · obtain ⟨b, o, e, hb, hp⟩ := h.again i r hr
    exact ⟨b, o, e, hb, hp.keep hb hc⟩
end Go.Proofs.YthllhabjfchgiaaGreatDoor
