import Derived.Test.YthllhabjfchgiaaGreatDoorHy07
/- PLAIN LAWS: blocks that end. -/
namespace Go.Proofs.YthllhabjfchgiaaGreatDoor.Hx
open Go.RowKit

/-- two blocks at least -/
theorem Inv.split2 {l : Ls} (h : Inv l) (h2 : ¬ l.blocks.length = 1) : ∃ init bo b, l.blocks = init ++ [bo] ++ [b] := by
  obtain ⟨i1, b, e⟩ := h.split
  rcases List.eq_nil_or_concat i1 with e1 | ⟨init, bo, e1⟩
  · subst e1; rw [e] at h2; simp at h2
  · exact ⟨init, bo, b, by rw [e, e1, List.concat_eq_append]⟩

theorem rev2 (init : List Bk) (bo b : Bk) : (init ++ [bo] ++ [b]).reverse = b :: bo :: init.reverse := by simp
theorem rev1 (init : List Bk) (b : Bk) : (init ++ [b]).reverse = b :: init.reverse := by simp

/-- steps with a step's goal set, and one of them -/
theorem get_set {S : List St} {p : Nat} {sp : St} (hp : S[p]? = some sp) {x : Int} {k : Nat} {s : St} (h : (S.set p { sp with to := x })[k]? = some s) :
    (k = p ∧ s = { sp with to := x }) ∨ (k ≠ p ∧ S[k]? = some s) := by
  by_cases hk : p = k
  · subst hk
    rw [List.getElem?_set_self (get_lt hp)] at h
    exact Or.inl ⟨rfl, (Option.some.inj h).symm⟩
  · rw [List.getElem?_set_ne hk] at h
    exact Or.inr ⟨fun e => hk e.symm, h⟩

variable {l : Ls}

/-- the end of an if, by what passes over its last part -/
theorem inv_endIf (h : Inv l) (init : List Bk) (bo b : Bk) (e : l.blocks = init ++ [bo] ++ [b]) (o p : Nat) (so sp : St) (ho : b.opener = o) (hso : l.steps[o]? = some so) (hop : ¬ so.op = 4) (hp : l.steps[p]? = some sp) (hpe : pend b = p)
    (hg : (endIfAt l p sp (init ++ [bo]) b).bad = false) : Inv (endIfAt l p sp (init ++ [bo]) b) := by
  have hbd := h.bound b (by rw [e]; simp)
  have hbo := h.bound bo (by rw [e]; simp)
  have hc := h.chain
  rw [e, rev2] at hc
  obtain ⟨o', s', c1, c2, c3, c4, c5⟩ := hc
  have : o' = o := by omega
  subst this
  rw [hso] at c3
  cases c3
  unfold endIfAt at hg ⊢
  have hcount := count_eq (l := { l with steps := l.steps.set p { sp with to := l.steps.length }, blocks := init ++ [bo] }) (init := init) (b := bo) rfl (max b.need b.before)
  rw [hcount] at hg ⊢
  have hmx : 0 ≤ max b.need b.before ∧ max b.need b.before ≤ 40000040 := by omega
  rw [wrap_small (by omega) (by omega)] at hg ⊢
  simp only [h.bad, Bool.false_or, decide_eq_false_iff_not] at hg
  have hpl := get_lt hp
  have hst := stk_set hp (l.steps.length : Int)
  have hself : (l.steps.set p { sp with to := (l.steps.length : Int) })[p]? = some { sp with to := (l.steps.length : Int) } := List.getElem?_set_self hpl
  have hne : ∀ k, k ≠ p → (l.steps.set p { sp with to := (l.steps.length : Int) })[k]? = l.steps[k]? := fun k hk => List.getElem?_set_ne (fun e => hk e.symm)
  have hop0 : o' ≤ p ∧ (sp.op = 2 ∨ sp.op = 3) ∧ stk l.steps l.steps.length = stk l.steps p ∧ stk l.steps l.steps.length = stk l.steps o' := by
    rcases c4 with ⟨a1, _⟩ | ⟨a1, a2, a3, a4, c, a5, a6⟩ | ⟨a1, x, t, a2, a3, a4, a5, a6, a7, a8, a9, ⟨cc, b1, b2⟩, c, b3, b4⟩
    · exact absurd a1 hop
    · have : p = o' := by unfold pend at hpe; rw [if_neg (by omega)] at hpe; omega
      subst this
      rw [hso] at hp; cases hp
      exact ⟨Nat.le_refl _, Or.inl a1, a4, a4⟩
    · have : p = x := by unfold pend at hpe; rw [if_pos (by omega)] at hpe; omega
      subst this
      rw [a5] at hp; cases hp
      exact ⟨by omega, Or.inr a6, a9.trans a8.symm, a9⟩
  obtain ⟨hop1, hop2, hop3, hop4⟩ := hop0
  refine ⟨?_, ?_, h.eight, ?_, ?_, h.slots, by simp [h.bad]; omega⟩
  · rw [rev1]
    simp only [List.length_set]
    have hlow : ∀ k, k < o' → (l.steps.set p { sp with to := (l.steps.length : Int) })[k]? = l.steps[k]? := fun k hk => hne k (by omega)
    rcases c4 with ⟨a1, _⟩ | ⟨a1, a2, a3, a4, c, a5, a6⟩ | ⟨a1, x, t, a2, a3, a4, a5, a6, a7, a8, a9, ⟨cc, b1, b2⟩, c, b3, b4⟩
    · exact absurd a1 hop
    · have : p = o' := by unfold pend at hpe; rw [if_neg (by omega)] at hpe; omega
      subst this
      rw [hso] at hp; cases hp
      refine c5.go (w := 1 + c) hlow (by omega) (by rw [hst, hst]; exact a4) (fun a cc hs => hs.ifOnly hself a1 rfl (a6.keep fun k hk _ => hne k (by omega))) ?_
      rw [a3]
      omega
    · have : p = x := by unfold pend at hpe; rw [if_pos (by omega)] at hpe; omega
      subst this
      refine c5.go (w := 1 + max (cc + 1) c) hlow (by omega) (by rw [hst, hst]; exact a9) (fun a c' hs => hs.ifElse ((hne o' (by omega)).trans hso) a1 a7 (b2.keep fun k hk _ => hne k (by omega)) hself (by rw [a5] at hp; cases hp; exact a6) rfl (b4.keep fun k hk _ => hne k (by omega))) ?_
      rw [b1, b3]
      omega
  · simp only [List.length_set]
    rw [hst]; exact h.loops
  · intro k s hk
    have hcl : Closed (l.steps.set p { sp with to := (l.steps.length : Int) }) p { sp with to := (l.steps.length : Int) } := fun _ => by
      refine ⟨by show (0 : Int) ≤ l.steps.length; omega, by show p < ((l.steps.length : Int)).toNat; omega, by simp, ?_⟩
      rw [hst, hst]
      show stk l.steps ((l.steps.length : Int)).toNat = _
      rw [Int.toNat_natCast]
      exact hop3
    rcases get_set hp hk with ⟨rfl, rfl⟩ | ⟨hkp, hks⟩
    · obtain ⟨g1, g2, g3⟩ := h.each k sp hp
      have g2' := g2.setTo hp (l.steps.length : Int)
      refine ⟨base_to g1 _, ⟨fun h4 => by have : sp.op = 4 := h4; omega, fun h0 => by have : sp.op = 0 ∨ sp.op = 5 := h0; omega⟩, fun _ => hcl⟩
    · obtain ⟨g1, g2, g3⟩ := h.each k s hks
      refine ⟨g1, g2.setTo hp _, fun hn => (g3 ?_).setTo hp _⟩
      rw [e, rev2]
      rw [rev1, opens_need] at hn
      simp only [opens, hpe]
      exact fun hm => (List.mem_cons.1 hm).elim (fun e => hkp (by omega)) hn
  · intro x hx
    rcases List.mem_append.1 hx with hx | hx
    · exact h.bound x (by rw [e]; simp [hx])
    · rw [List.mem_singleton] at hx
      subst hx
      exact ⟨by show 0 ≤ bo.need + _; omega, by show bo.need + _ ≤ _; omega, hbo.2.2⟩

/-- the end of a loop -/
theorem inv_endLoop (h : Inv l) (init : List Bk) (bo b : Bk) (e : l.blocks = init ++ [bo] ++ [b]) (o : Nat) (so st : St) (ho : b.opener = o) (hso : l.steps[o]? = some so) (hop : so.op = 4) (hs0 : st.op = 0) (hb : Base l.slots.toNat st)
    (hg : (endLoopAt l st o so).bad = false) : Inv (endLoopAt l st o so) := by
  have hbd := h.bound b (by rw [e]; simp)
  have hbo := h.bound bo (by rw [e]; simp)
  have hc := h.chain
  rw [e, rev2] at hc
  obtain ⟨o', s', c1, c2, c3, c4, c5⟩ := hc
  have : o' = o := by omega
  subst this
  rw [hso] at c3
  cases c3
  rcases c4 with ⟨a1, a2, a3, a4, c, a5, a6⟩ | ⟨a1, _⟩ | ⟨a1, _⟩
  rotate_left
  · omega
  · omega
  unfold endLoopAt endLoopOf at hg ⊢
  have hadd := add_eq e { st with to := o' }
  rw [hadd] at hg ⊢
  rw [wrap_small (x := b.need + 1) (by omega) (by omega)] at hg ⊢
  have hn1 : (listSize so.a).toNat = listSize so.a := by unfold listSize; split <;> rfl
  have hls : listSize so.a = 8 ∨ listSize so.a = 16 := by unfold listSize; split <;> simp
  have htop : Ls.top { l with steps := l.steps ++ [{ st with to := (o' : Int) }], blocks := init ++ [bo] ++ [{ b with need := b.need + 1 }], bad := l.bad || decide (40000040 < b.need + 1) } = { b with need := b.need + 1 } := by simp [Ls.top]
  rw [htop] at hg ⊢
  simp only [List.dropLast_concat] at hg ⊢
  have hcount := count_eq (l := { l with steps := (l.steps ++ [{ st with to := (o' : Int) }]).set o' { so with to := ((l.steps ++ [{ st with to := (o' : Int) }]).length : Int) }, blocks := init ++ [bo], loops := l.loops.dropLast, bad := l.bad || decide (40000040 < b.need + 1) }) (init := init) (b := bo) rfl (wrap64 (listSize so.a * (b.need + 1)))
  have hmul : 0 ≤ listSize so.a * (b.need + 1) ∧ listSize so.a * (b.need + 1) ≤ 1000000000 := by
    rcases hls with h' | h' <;> rw [h'] <;> omega
  rw [hcount] at hg ⊢
  rw [wrap_small (x := listSize so.a * (b.need + 1)) (by omega) (by omega)] at hg ⊢
  rw [wrap_small (x := bo.need + _) (by omega) (by omega)] at hg ⊢
  simp only [h.bad, Bool.false_or, Bool.or_eq_false_iff, decide_eq_false_iff_not] at hg
  obtain ⟨hg1, hg2⟩ := hg
  have hol := get_lt hso
  have hlen : (l.steps ++ [{ st with to := (o' : Int) }]).length = l.steps.length + 1 := by simp
  have hoA : (l.steps ++ [{ st with to := (o' : Int) }])[o']? = some so := by rw [List.getElem?_append_left hol]; exact hso
  have hst := stk_set hoA ((l.steps ++ [{ st with to := (o' : Int) }]).length : Int)
  have hap := stk_append l.steps { st with to := (o' : Int) }
  have hself : ((l.steps ++ [{ st with to := (o' : Int) }]).set o' { so with to := ((l.steps ++ [{ st with to := (o' : Int) }]).length : Int) })[o']? = some { so with to := ((l.steps ++ [{ st with to := (o' : Int) }]).length : Int) } := List.getElem?_set_self (by omega)
  have hne : ∀ k, k ≠ o' → k < l.steps.length → ((l.steps ++ [{ st with to := (o' : Int) }]).set o' { so with to := ((l.steps ++ [{ st with to := (o' : Int) }]).length : Int) })[k]? = l.steps[k]? := fun k hk hl => by
    rw [List.getElem?_set_ne (fun e => hk e.symm), List.getElem?_append_left hl]
  have hlast : ((l.steps ++ [{ st with to := (o' : Int) }]).set o' { so with to := ((l.steps ++ [{ st with to := (o' : Int) }]).length : Int) })[l.steps.length]? = some { st with to := (o' : Int) } := by
    rw [List.getElem?_set_ne (by omega), List.getElem?_concat_length]
  have hnext : stk (l.steps ++ [{ st with to := (o' : Int) }]) (l.steps.length + 1) = stk l.steps o' := by
    simp only [stk, List.getElem?_concat_length, hap _ (Nat.le_refl _), a4, if_pos hs0, List.tail_cons]
    rw [if_neg (by omega)]
  refine ⟨?_, ?_, ?_, ?_, ?_, h.slots, by simp [h.bad]; omega⟩
  · rw [rev1]
    simp only [List.length_set, hlen] at hself hlast hne ⊢
    refine c5.go (w := 1 + (listSize so.a).toNat * (c + 1)) (fun k hk => hne k (by omega) (by omega)) (by omega) ?_ (fun a c' hs => Seg.loop (s := { so with to := ((l.steps.length + 1 : Nat) : Int) }) hs hself hop (by show ((l.steps.length + 1 : Nat) : Int) = _; omega) (a6.keep fun k hk hk2 => hne k (by omega) hk2) hlast hs0) ?_
    · rw [hlen] at hst
      rw [hst, hst, hnext, hap o' (by omega)]
    · have a5' : b.need = c := by omega
      rw [a5']
      push_cast
      rw [hn1]
      omega
  · simp only [List.length_set, hlen] at hst ⊢
    rw [hst, hnext, h.loops, a4]
    simp
  · have := h.eight
    simp only [List.length_dropLast]
    omega
  · intro k s hk
    have hcl : Closed ((l.steps ++ [{ st with to := (o' : Int) }]).set o' { so with to := ((l.steps ++ [{ st with to := (o' : Int) }]).length : Int) }) o' { so with to := ((l.steps ++ [{ st with to := (o' : Int) }]).length : Int) } := fun _ => by
      refine ⟨by show (0 : Int) ≤ ((l.steps ++ [{ st with to := (o' : Int) }]).length : Int); omega, by show o' < ((l.steps ++ [{ st with to := (o' : Int) }]).length : Int).toNat; omega, by simp, ?_⟩
      rw [hst, hst]
      show stk _ ((l.steps ++ [{ st with to := (o' : Int) }]).length : Int).toNat = _
      rw [Int.toNat_natCast, hlen, hnext, hap o' (by omega)]
    rcases get_set hoA hk with ⟨rfl, rfl⟩ | ⟨hkp, hks⟩
    · obtain ⟨g1, g2, g3⟩ := h.each k so hso
      have g2' := (g2.append (by omega) { st with to := (k : Int) }).setTo hoA ((l.steps ++ [{ st with to := (k : Int) }]).length : Int)
      exact ⟨base_to g1 _, ⟨g2'.depth, fun h0 => by have : so.op = 0 ∨ so.op = 5 := h0; omega⟩, fun _ => hcl⟩
    · rcases get_append hks with ⟨hkl, hks⟩ | ⟨rfl, rfl⟩
      · obtain ⟨g1, g2, g3⟩ := h.each k s hks
        refine ⟨g1, (g2.append (by omega) _).setTo hoA _, fun hn => ((g3 ?_).append hkl _).setTo hoA _⟩
        rw [e, rev2]
        rw [rev1, opens_need] at hn
        simp only [opens, pend, a2, c1]
        exact fun hm => (List.mem_cons.1 hm).elim (fun e => hkp (by simp at e; omega)) hn
      · refine ⟨base_to hb _, ⟨fun h4 => by have : st.op = 4 := h4; omega, fun _ => ⟨by show (0 : Int) ≤ o'; omega, ?_⟩⟩, fun _ ho => by have : st.op = 2 ∨ st.op = 3 ∨ st.op = 4 := ho; omega⟩
        rw [hst, hap _ (Nat.le_refl _), a4]
        simp
  · intro x hx
    rcases List.mem_append.1 hx with hx | hx
    · exact h.bound x (by rw [e]; simp [hx])
    · rw [List.mem_singleton] at hx
      subst hx
      exact ⟨by show 0 ≤ bo.need + _; omega, by show bo.need + _ ≤ _; omega, hbo.2.2⟩
end Go.Proofs.YthllhabjfchgiaaGreatDoor.Hx

/- PLAIN LAWS: code that was looked over is sound. -/
namespace Go.Proofs.YthllhabjfchgiaaGreatDoor.Hx
open Go.RowKit
variable {l : Ls}

/-- the other part of an if -/
theorem inv_divide (h : Inv l) (init : List Bk) (bo b : Bk) (e : l.blocks = init ++ [bo] ++ [b]) (o : Nat) (so st : St) (ho : b.opener = o) (hso : l.steps[o]? = some so) (hop : so.op = 2) (hot : ¬ 0 < b.other) (hs3 : st.op = 3) (hb : Base l.slots.toNat st)
    (hg : (divideAt l st o so).bad = false) : Inv (divideAt l st o so) := by
  have hbd := h.bound b (by rw [e]; simp)
  have hc := h.chain
  rw [e, rev2] at hc
  obtain ⟨o', s', c1, c2, c3, c4, c5⟩ := hc
  have : o' = o := by omega
  subst this
  rw [hso] at c3
  cases c3
  rcases c4 with ⟨a1, _⟩ | ⟨a1, a2, a3, a4, c, a5, a6⟩ | ⟨a1, x, t, a2, a3, _⟩
  · omega
  rotate_left
  · omega
  unfold divideAt divideOf at hg ⊢
  rw [add_eq e st] at hg ⊢
  rw [wrap_small (x := b.need + 1) (by omega) (by omega)] at hg ⊢
  have htop : Ls.top { l with steps := l.steps ++ [st], blocks := init ++ [bo] ++ [{ b with need := b.need + 1 }], bad := l.bad || decide (40000040 < b.need + 1) } = { b with need := b.need + 1 } := by simp [Ls.top]
  rw [htop] at hg ⊢
  simp only [List.dropLast_concat] at hg ⊢
  simp only [h.bad, Bool.false_or, decide_eq_false_iff_not] at hg
  have hol := get_lt hso
  have hlen : (l.steps ++ [st]).length = l.steps.length + 1 := by simp
  have hoA : (l.steps ++ [st])[o']? = some so := by rw [List.getElem?_append_left hol]; exact hso
  have hst := stk_set hoA ((l.steps ++ [st]).length : Int)
  have hap := stk_append l.steps st
  have hself : ((l.steps ++ [st]).set o' { so with to := ((l.steps ++ [st]).length : Int) })[o']? = some { so with to := ((l.steps ++ [st]).length : Int) } := List.getElem?_set_self (by omega)
  have hne : ∀ k, k ≠ o' → k < l.steps.length → ((l.steps ++ [st]).set o' { so with to := ((l.steps ++ [st]).length : Int) })[k]? = l.steps[k]? := fun k hk hl => by
    rw [List.getElem?_set_ne (fun e => hk e.symm), List.getElem?_append_left hl]
  have hlast : ((l.steps ++ [st]).set o' { so with to := ((l.steps ++ [st]).length : Int) })[l.steps.length]? = some st := by
    rw [List.getElem?_set_ne (by omega), List.getElem?_concat_length]
  have hnext : stk (l.steps ++ [st]) (l.steps.length + 1) = stk l.steps l.steps.length := stk_next _ _ (by omega) (by omega)
  refine ⟨?_, ?_, h.eight, ?_, ?_, h.slots, by simp [h.bad]; omega⟩
  · rw [rev2]
    simp only [List.length_set, hlen] at hself hlast hne hst ⊢
    refine ⟨o', { so with to := ((l.steps.length + 1 : Nat) : Int) }, ho, by omega, hself, Or.inr (Or.inr ⟨hop, l.steps.length, st, rfl, by omega, by omega, hlast, hs3, by show ((l.steps.length + 1 : Nat) : Int) = _; omega, ?_, ?_, ⟨c, ?_, a6.keep fun k hk hk2 => hne k (by omega) hk2⟩, 0, rfl, Seg.nil _ _⟩), c5.keep fun k hk => hne k (by omega) (by omega)⟩
    · rw [hst, hst, hap _ (Nat.le_refl _), hap o' (by omega)]; exact a4
    · rw [hst, hst, hnext, hap o' (by omega)]; exact a4
    · show b.need + 1 = _
      omega
  · simp only [List.length_set, hlen] at hst ⊢
    rw [hst, hnext]; exact h.loops
  · intro k s hk
    have hcl : Closed ((l.steps ++ [st]).set o' { so with to := ((l.steps ++ [st]).length : Int) }) o' { so with to := ((l.steps ++ [st]).length : Int) } := fun _ => by
      refine ⟨by show (0 : Int) ≤ ((l.steps ++ [st]).length : Int); omega, by show o' < ((l.steps ++ [st]).length : Int).toNat; omega, by simp, ?_⟩
      rw [hst, hst]
      show stk _ ((l.steps ++ [st]).length : Int).toNat = _
      rw [Int.toNat_natCast, hlen, hnext, hap o' (by omega)]
      exact a4
    rcases get_set hoA hk with ⟨rfl, rfl⟩ | ⟨hkp, hks⟩
    · obtain ⟨g1, g2, g3⟩ := h.each k so hso
      exact ⟨base_to g1 _, ⟨fun h4 => by have : so.op = 4 := h4; omega, fun h0 => by have : so.op = 0 ∨ so.op = 5 := h0; omega⟩, fun _ => hcl⟩
    · rcases get_append hks with ⟨hkl, hks⟩ | ⟨rfl, rfl⟩
      · obtain ⟨g1, g2, g3⟩ := h.each k s hks
        refine ⟨g1, (g2.append (by omega) _).setTo hoA _, fun hn => ((g3 ?_).append hkl _).setTo hoA _⟩
        rw [e, rev2]
        rw [rev2] at hn
        simp only [opens, pend, a2, c1] at hn ⊢
        exact fun hm => (List.mem_cons.1 hm).elim (fun e => hkp (by simp at e; omega)) fun hm => hn (List.mem_cons_of_mem _ hm)
      · refine ⟨hb, ⟨fun h4 => by omega, fun h0 => by omega⟩, fun hn => ?_⟩
        rw [rev2] at hn
        simp only [opens, pend] at hn
        rw [if_pos (by omega)] at hn
        exact absurd List.mem_cons_self hn
  · intro x hx
    rcases List.mem_append.1 hx with hx | hx
    · exact h.bound x (by rw [e]; exact List.mem_append_left _ hx)
    · rw [List.mem_singleton] at hx
      subst hx
      exact ⟨by simp, by simp, by show 0 ≤ b.need + 1; omega, by show b.need + 1 ≤ _; omega⟩

/-- what Load gives -/
structure Final (l : Ls) : Prop where
  sound : Sound l.steps l.slots.toNat
  need : (cost l.steps 0 : Int) ≤ l.need
  most : l.need ≤ 40000040
  slots : 8 ≤ l.slots ∧ l.slots ≤ 2008
  blocks : l.blocks = []

theorem fin_endCode (h : Inv l) (h1 : l.blocks.length = 1) (hl : l.steps.length ≤ 900000) (hg : (endCodeAt l).bad = false) : Final (endCodeAt l) := by
  obtain ⟨init, b, e⟩ := h.split
  have hi : init = [] := by
    rw [e] at h1
    simp at h1
    exact h1
  subst hi
  have hbd := h.bound b (by rw [e]; simp)
  have hc := h.chain
  rw [e] at hc
  obtain ⟨c1, c2, c, c3, c4⟩ := hc
  unfold endCodeAt at hg ⊢
  rw [add_eq e ⟨1, 0, 0, 0, 0, 0, 0⟩] at hg ⊢
  rw [wrap_small (x := b.need + 1) (by omega) (by omega)] at hg ⊢
  have htop : Ls.top { l with steps := l.steps ++ [⟨1, 0, 0, 0, 0, 0, 0⟩], blocks := [] ++ [{ b with need := b.need + 1 }], bad := l.bad || decide (40000040 < b.need + 1) } = { b with need := b.need + 1 } := by simp [Ls.top]
  rw [htop]
  simp only [h.bad, Bool.false_or, decide_eq_false_iff_not] at hg
  have hap := stk_append l.steps ⟨1, 0, 0, 0, 0, 0, 0⟩
  have hlen : (l.steps ++ [(⟨1, 0, 0, 0, 0, 0, 0⟩ : St)]).length = l.steps.length + 1 := by simp
  have hlast : (l.steps ++ [(⟨1, 0, 0, 0, 0, 0, 0⟩ : St)])[l.steps.length]? = some ⟨1, 0, 0, 0, 0, 0, 0⟩ := List.getElem?_concat_length ..
  have hcl : ∀ (k : Nat) (s : St), l.steps[k]? = some s → Closed l.steps k s := fun k s hk => (h.each k s hk).2.2 (by rw [e]; simp [opens])
  -- a loop around
  have hloop : ∀ (k : Nat) (s : St), l.steps[k]? = some s → (s.op = 0 ∨ s.op = 5) → isLoop (l.steps ++ [⟨1, 0, 0, 0, 0, 0, 0⟩]) l.slots.toNat s.to := fun k s hk ho => by
    obtain ⟨g1, g2, g3⟩ := h.each k s hk
    obtain ⟨b1, b2⟩ := g2.back ho
    cases hs : stk l.steps k with
    | nil => rw [hs] at b2; cases b2
    | cons p r =>
      rw [hs] at b2
      simp only [List.head?_cons, Option.some.injEq] at b2
      obtain ⟨sl, l1, l2, l3, l4⟩ := stk_cons l.steps k p r hs
      have hp := get_lt l1
      obtain ⟨d1, d2, d3, d4⟩ := hcl p sl l1 (Or.inr (Or.inr l2))
      obtain ⟨e1, _, e3⟩ := (h.each p sl l1).1.loops l2
      refine ⟨sl, b1, ?_, by rw [hlen]; omega, d1, by rw [hlen]; omega, e1, e3⟩
      rw [← b2, List.getElem?_append_left hp]
      exact l1
  have hsound : Sound (l.steps ++ [⟨1, 0, 0, 0, 0, 0, 0⟩]) l.slots.toNat := by
    refine ⟨⟨by omega, by omega, fun k s hk => ?_⟩, fun k s hk ho => ?_, fun k s hk ho => ?_, fun k s hk ho => ?_⟩
    · rcases get_append hk with ⟨hk, hks⟩ | ⟨rfl, rfl⟩
      · obtain ⟨g1, g2, g3⟩ := h.each k s hks
        have g4 := hcl k s hks
        refine ⟨by have := g1.op; omega, fun _ _ _ => by omega, fun h2 => ?_, fun h3 => ?_, fun h4 => ?_, fun h5 => ⟨g1.skips h5, hloop k s hks (Or.inr h5)⟩, fun h0 => hloop k s hks (Or.inl h0), g1.pushes, g1.works⟩
        · obtain ⟨d1, d2, d3, d4⟩ := g4 (Or.inl h2)
          exact ⟨g1.ifs h2, d1, by omega⟩
        · obtain ⟨d1, d2, d3, d4⟩ := g4 (Or.inr (Or.inl h3))
          exact ⟨d1, by omega⟩
        · obtain ⟨d1, d2, d3, d4⟩ := g4 (Or.inr (Or.inr h4))
          exact ⟨d1, by omega, g1.loops h4⟩
      · exact ⟨by simp, fun h => absurd rfl h, fun h => by simp at h, fun h => by simp at h, fun h => by simp at h, fun h => by simp at h, fun h => by simp at h, fun h => by simp at h, fun h => absurd rfl h⟩
    · rcases get_append hk with ⟨hk, hks⟩ | ⟨rfl, rfl⟩
      · obtain ⟨d1, d2, d3, d4⟩ := hcl k s hks ho
        exact ⟨d2, by rw [hap _ (by omega), hap _ (by omega)]; exact d4⟩
      · simp at ho
    · rcases get_append hk with ⟨hk, hks⟩ | ⟨rfl, rfl⟩
      · rw [hap _ (by omega)]; exact (h.each k s hks).2.1.depth ho
      · simp at ho
    · rcases get_append hk with ⟨hk, hks⟩ | ⟨rfl, rfl⟩
      · rw [hap _ (by omega)]; exact ((h.each k s hks).2.1.back ho).2
      · simp at ho
  refine ⟨hsound, ?_, by show b.need + 1 ≤ _; omega, h.slots, rfl⟩
  have g1 := c4.2 _ hsound.ahead fun k _ hk => List.getElem?_append_left hk
  have g2 := cost_at hsound.ahead hlast
  rw [if_pos (Or.inr rfl)] at g2
  show (cost (l.steps ++ [⟨1, 0, 0, 0, 0, 0, 0⟩]) 0 : Int) ≤ b.need + 1
  omega

/-- an instruction -/
theorem inv_instr (h : Inv l) (s : St) (hb : Base l.slots.toNat s) (hl : l.steps.length ≤ 900000) (hg : (instr l s).bad = false) : Inv (instr l s) ∨ Final (instr l s) := by
  unfold instr at hg ⊢
  by_cases h2 : s.op = 2
  · rw [if_pos h2] at hg ⊢
    exact Or.inl (inv_open h s hb (Or.inl h2) (fun e => by omega) l.loops (by rw [if_neg (by omega)]) h.eight hg)
  rw [if_neg h2] at hg ⊢
  by_cases h4 : s.op = 4
  · rw [if_pos h4] at hg ⊢
    by_cases h8 : l.loops.length = 8
    · rw [if_pos h8] at hg; cases hg
    · rw [if_neg h8] at hg ⊢
      have he := h.eight
      exact Or.inl (inv_open h { s with depth := l.loops.length } (base_depth hb _ (by omega) (by omega)) (Or.inr h4) (fun _ => rfl) _ (by rw [if_pos h4]) (by simp; omega) hg)
  rw [if_neg h4] at hg ⊢
  by_cases h3 : s.op = 3
  · rw [if_pos h3] at hg ⊢
    by_cases hx : l.blocks.length = 1 ∨ 0 < l.top.other
    · rw [if_pos hx] at hg; cases hg
    · rw [if_neg hx] at hg ⊢
      obtain ⟨init, bo, b, e⟩ := h.split2 (fun e => hx (Or.inl e))
      have hc := h.chain
      rw [e, rev2] at hc
      obtain ⟨o, so, c1, c2, c3, c4, c5⟩ := hc
      have ht : l.top = b := top_eq e
      have hto : l.top.opener.toNat = o := by rw [ht, c1]; simp
      rw [hto, c3] at hg ⊢
      simp only at hg ⊢
      by_cases hso : so.op = 2
      · rw [if_pos hso] at hg ⊢
        exact Or.inl (inv_divide h init bo b e o so s c1 c3 hso (fun e => hx (Or.inr (by rw [ht]; exact e))) h3 hb hg)
      · rw [if_neg hso] at hg; cases hg
  rw [if_neg h3] at hg ⊢
  by_cases h0 : s.op = 0
  · rw [if_pos h0] at hg ⊢
    by_cases hx : l.blocks.length = 1
    · rw [if_pos hx] at hg ⊢
      exact Or.inr (fin_endCode h hx hl hg)
    · rw [if_neg hx] at hg ⊢
      obtain ⟨init, bo, b, e⟩ := h.split2 hx
      have hc := h.chain
      rw [e, rev2] at hc
      obtain ⟨o, so, c1, c2, c3, c4, c5⟩ := hc
      have ht : l.top = b := top_eq e
      have hto : l.top.opener.toNat = o := by rw [ht, c1]; simp
      have hdl : l.blocks.dropLast = init ++ [bo] := by rw [e]; simp
      rw [hto, c3] at hg ⊢
      simp only at hg ⊢
      by_cases hso : so.op = 4
      · rw [if_pos hso] at hg ⊢
        exact Or.inl (inv_endLoop h init bo b e o so s c1 c3 hso h0 hb hg)
      · rw [if_neg hso] at hg ⊢
        rw [ht, hdl] at hg ⊢
        rcases c4 with ⟨a1, _⟩ | ⟨a1, a2, a3, a4, c, a5, a6⟩ | ⟨a1, x, t, a2, a3, a4, a5, _⟩
        · exact absurd a1 hso
        · rw [if_neg (by omega)] at hg ⊢
          exact Or.inl (inv_endIf h init bo b e o o so so c1 c3 hso c3 (by unfold pend; rw [if_neg (by omega), c1]) hg)
        · have hxt : b.other.toNat = x := by omega
          rw [if_pos (by omega), hxt, a5] at hg ⊢
          simp only at hg ⊢
          exact Or.inl (inv_endIf h init bo b e o x so t c1 c3 hso a5 (by unfold pend; rw [if_pos (by omega), a2]) hg)
  rw [if_neg h0] at hg ⊢
  by_cases h5 : s.op = 5
  · rw [if_pos h5] at hg ⊢
    unfold skipStep at hg ⊢
    by_cases hx : l.loops = []
    · rw [if_pos hx] at hg; cases hg
    · rw [if_neg hx] at hg ⊢
      refine Or.inl (inv_add h { s with to := l.loops.getLastD 0 } (base_to hb _) h0 h2 h3 h4 (fun _ => ?_) hg)
      have hlo := h.loops
      cases hs : stk l.steps l.steps.length with
      | nil => rw [hs] at hlo; exact absurd hlo hx
      | cons p r =>
        rw [hs] at hlo
        have : l.loops.getLastD 0 = (p : Int) := by rw [hlo]; simp
        show 0 ≤ l.loops.getLastD 0 ∧ _ = some (l.loops.getLastD 0).toNat
        rw [this]
        exact ⟨by omega, by simp⟩
  · rw [if_neg h5] at hg ⊢
    exact Or.inl (inv_add h s hb h0 h2 h3 h4 (fun e => absurd e h5) hg)
end Go.Proofs.YthllhabjfchgiaaGreatDoor.Hx

/- PLAIN LAWS: what Load takes is sound. -/
namespace Go.Proofs.YthllhabjfchgiaaGreatDoor.Hx
open Go.RowKit

theorem in_signed (x : Int) (h0 : 0 ≤ x) (h1 : x < 18446744073709551616) : In64 (signed x) := by
  unfold signed
  split
  · exact in_bits _ _ _
  · unfold In64; omega

theorem or_bd (x y : Int) : 0 ≤ bits .or .u64 x y ∧ bits .or .u64 x y < 18446744073709551616 := ⟨bits_lo_u64 _ _ _, by have := bits_hi_u64 .or x y; omega⟩

theorem in_readGo (s : List UInt8) (p : Nat) : ∀ (r i : Nat) (acc : Int), In64 (readGo s p r i acc).1 ∧ 0 ≤ (readGo s p r i acc).2 ∧ (readGo s p r i acc).2 ≤ i + r
  | 0, i, acc => ⟨in_zero, by simp [readGo], by simp only [readGo]; omega⟩
  | r + 1, i, acc => by
    have ih := in_readGo s p r (i + 1) (bits .or .u64 acc (IntKind.u64.wrap (((s.getD (p + i) 0).toNat % 128 : Nat) * 2 ^ (i * 7))))
    have hb := or_bd acc (IntKind.u64.wrap (((s.getD (p + i) 0).toNat % 128 : Nat) * 2 ^ (i * 7)))
    simp only [readGo]
    split
    · exact ⟨in_zero, by simp, by simp only; omega⟩
    · split
      · exact ⟨in_signed _ hb.1 hb.2, by simp only; omega, by simp only; omega⟩
      · exact ⟨ih.1, ih.2.1, by have := ih.2.2; push_cast at this; omega⟩

theorem in_read (s : List UInt8) (p : Nat) (hp : p ≤ s.length) : In64 (read s p).1 ∧ 0 ≤ (read s p).2 ∧ (p : Int) + (read s p).2 ≤ s.length := by
  have := in_readGo s p (min (s.length - p) 10) 0 0
  unfold read
  exact ⟨this.1, this.2.1, by have := this.2.2; omega⟩

theorem readNums_ok (bs : List UInt8) : ∀ (cs : List UInt8) (p : Nat) (sl : Int) (ns : List Int) (p' : Nat) (sl' : Int), readNums bs cs p sl = some (ns, p', sl') → p ≤ bs.length → sl ≤ 2008 →
    ns.length = cs.length ∧ p ≤ p' ∧ p' ≤ bs.length ∧ sl ≤ sl' ∧ sl' ≤ 2008 ∧ (∀ x ∈ ns, In64 x) ∧ (∀ i, cs[i]? = some 115 → 0 ≤ ns.getD i 0 ∧ ns.getD i 0 < sl')
  | [], p, sl, ns, p', sl', h, hp, hs => by
    simp only [readNums] at h
    cases h
    exact ⟨rfl, Nat.le_refl _, hp, Int.le_refl _, hs, by simp, by simp⟩
  | c :: cs, p, sl, ns, p', sl', h, hp, hs => by
    obtain ⟨r1, r2, r3⟩ := in_read bs p hp
    simp only [readNums] at h
    split at h
    · cases h
    rename_i h0
    split at h
    · cases h
    rename_i h1
    split at h
    · cases h
    rename_i h2
    cases hr : readNums bs cs (p + (read bs p).2.toNat) (if c = 115 then max sl ((read bs p).1 + 1) else sl) with
    | none => rw [hr] at h; cases h
    | some q =>
      obtain ⟨ns1, p1, sl1⟩ := q
      rw [hr] at h
      simp only [Option.map_some, Option.some.injEq, Prod.mk.injEq] at h
      obtain ⟨e1, e2, e3⟩ := h
      subst e1; subst e2; subst e3
      have hsl : (if c = 115 then max sl ((read bs p).1 + 1) else sl) ≤ 2008 ∧ sl ≤ (if c = 115 then max sl ((read bs p).1 + 1) else sl) ∧ (c = 115 → 0 ≤ (read bs p).1 ∧ (read bs p).1 < (if c = 115 then max sl ((read bs p).1 + 1) else sl)) := by
        by_cases hc : c = 115
        · have h3 : ¬ ((read bs p).1 < 0 ∨ 2008 ≤ (read bs p).1) := fun e => h1 ⟨hc, e⟩
          simp only [if_pos hc]
          refine ⟨by omega, by omega, fun _ => ⟨by omega, by omega⟩⟩
        · simp only [if_neg hc]
          exact ⟨hs, Int.le_refl _, fun e => absurd e hc⟩
      obtain ⟨g1, g2, g3, g4, g5, g6, g7⟩ := readNums_ok bs cs _ _ _ _ _ hr (by omega) hsl.1
      refine ⟨by simp [g1], by omega, g3, by omega, g5, fun x hx => ?_, fun i hi => ?_⟩
      · rcases List.mem_cons.1 hx with rfl | hx
        · exact r1
        · exact g6 x hx
      · cases i with
        | zero =>
          simp only [List.getElem?_cons_zero, Option.some.injEq] at hi
          have := hsl.2.2 hi
          simp only [List.getD_cons_zero]
          omega
        | succ i =>
          simp only [List.getElem?_cons_succ] at hi
          simp only [List.getD_cons_succ]
          exact g7 i hi

theorem base_of (o : Int) (ns : List Int) (n : Nat) (hn : 8 ≤ n) (h0 : 0 ≤ o) (h1 : o ≤ 36) (hlen : ns.length = (shape o).length) (hin : ∀ x ∈ ns, In64 x) (f : ∀ i : Nat, (shape o)[i]? = some 115 → St.slot n (ns.getD i 0)) :
    Base n ⟨o, ns.getD 0 0, ns.getD 1 0, ns.getD 2 0, ns.getD 3 0, 0, 0⟩ := by
  have g : ∀ i : Nat, (shape o).length ≤ i → St.slot n (ns.getD i 0) := fun i hi => by
    rw [List.getD_eq_getElem?_getD, List.getElem?_eq_none (by omega)]
    exact ⟨by simp, by simp; omega⟩
  have hb : In64 (ns.getD 1 0) := by
    rw [List.getD_eq_getElem?_getD]
    cases he : ns[1]? with
    | none => exact in_zero
    | some x => exact hin x (List.mem_of_getElem? he)
  have A := f 0
  have B := f 1
  have C := f 2
  have D := f 3
  have gC := g 2
  clear hlen hin f g
  generalize ns.getD 0 0 = a at *
  generalize ns.getD 1 0 = b at *
  generalize ns.getD 2 0 = c at *
  generalize ns.getD 3 0 = d at *
  have hc : o = 0 ∨ o = 1 ∨ o = 2 ∨ o = 3 ∨ o = 4 ∨ o = 5 ∨ o = 6 ∨ o = 7 ∨ o = 8 ∨ o = 9 ∨ o = 10 ∨ o = 11 ∨ o = 12 ∨ o = 13 ∨ o = 14 ∨ o = 15 ∨ o = 16 ∨ o = 17 ∨ o = 18 ∨ o = 19 ∨ o = 20 ∨ o = 21 ∨ o = 22 ∨ o = 23 ∨ o = 24 ∨ o = 25 ∨ o = 26 ∨ o = 27 ∨ o = 28 ∨ o = 29 ∨ o = 30 ∨ o = 31 ∨ o = 32 ∨ o = 33 ∨ o = 34 ∨ o = 35 ∨ o = 36 := by omega
  rcases hc with rfl | rfl | rfl | rfl | rfl | rfl | rfl | rfl | rfl | rfl | rfl | rfl | rfl | rfl | rfl | rfl | rfl | rfl | rfl | rfl | rfl | rfl | rfl | rfl | rfl | rfl | rfl | rfl | rfl | rfl | rfl | rfl | rfl | rfl | rfl | rfl | rfl
  all_goals refine ⟨⟨by simp, by simp⟩, ?_, ?_, ?_, ?_, ?_⟩
  all_goals first
    | (intro h; simp at h; done)
    | exact fun _ => A (by decide)
    | exact fun _ => ⟨A (by decide), B (by decide)⟩
    | exact fun _ => ⟨B (by decide), C (by decide), by simp, by simp⟩
    | exact fun _ _ _ _ _ _ h => absurd rfl h
    | exact fun _ _ _ _ _ h _ => absurd rfl h
    | exact fun _ _ _ _ h _ _ => absurd rfl h
    | exact fun _ _ _ h _ _ _ => absurd rfl h
    | exact fun _ _ h _ _ _ _ => absurd rfl h
    | exact fun _ h _ _ _ _ _ => absurd rfl h
    | exact fun h _ _ _ _ _ _ => absurd rfl h
    | exact fun _ _ _ _ _ _ _ => ⟨hb, A (by decide), Or.inl rfl⟩
    | exact fun _ _ _ _ _ _ _ => ⟨hb, A (by decide), Or.inr (Or.inl rfl)⟩
    | exact fun _ _ _ _ _ _ _ => ⟨hb, A (by decide), Or.inr (Or.inr ⟨B (by decide), Or.inl rfl⟩)⟩
    | (refine fun _ _ _ _ _ _ _ => ⟨hb, A (by decide), Or.inr (Or.inr ⟨B (by decide), Or.inr ⟨C (by decide), fun h => ?_⟩⟩)⟩; simp at h; done)
    | (refine fun _ _ _ _ _ _ _ => ⟨hb, A (by decide), Or.inr (Or.inr ⟨B (by decide), Or.inr ⟨gC (by decide), fun h => ?_⟩⟩)⟩; simp at h; done)
    | exact fun _ _ _ _ _ _ _ => ⟨hb, A (by decide), Or.inr (Or.inr ⟨B (by decide), Or.inr ⟨C (by decide), fun _ => D (by decide)⟩⟩)⟩

theorem readStep_ok {bs : List UInt8} {l l' : Ls} {s : St} (h : readStep bs l = some (s, l')) (hp : 0 ≤ l.pos) (hsl : 8 ≤ l.slots ∧ l.slots ≤ 2008) :
    Base l'.slots.toNat s ∧ l.pos < l'.pos ∧ l'.pos ≤ bs.length ∧ l.slots ≤ l'.slots ∧ l'.slots ≤ 2008 ∧ l' = { l with pos := l'.pos, slots := l'.slots } := by
  unfold readStep at h
  split at h
  · cases h
  rename_i o ho
  have hlt : l.pos.toNat < bs.length := by
    rcases Nat.lt_or_ge l.pos.toNat bs.length with h' | h'
    · exact h'
    · rw [List.getElem?_eq_none h'] at ho; cases ho
  split at h
  · rename_i hop
    split at h
    · cases h
    rename_i ns p sl hr
    cases h
    obtain ⟨g1, g2, g3, g4, g5, g6, g7⟩ := readNums_ok bs _ _ _ _ _ _ hr (by omega) hsl.2
    have hop' : 0 ≤ (o.toNat : Int) ∧ (o.toNat : Int) ≤ 36 := of_decide_eq_true hop
    refine ⟨base_of _ _ _ (by show 8 ≤ sl.toNat; omega) hop'.1 hop'.2 g1 g6 (fun i hi => ?_), by show l.pos < (p : Int); omega, by show (p : Int) ≤ _; omega, g4, g5, rfl⟩
    obtain ⟨k1, k2⟩ := g7 i hi
    exact ⟨k1, by show _ < (sl.toNat : Int); omega⟩
  · cases h

theorem Inv.read {l : Ls} (h : Inv l) {p sl : Int} (h1 : l.slots ≤ sl) (h2 : sl ≤ 2008) : Inv { l with pos := p, slots := sl } :=
  ⟨h.chain, h.loops, h.eight, fun k s hk => ⟨(h.each k s hk).1.more (by show l.slots.toNat ≤ sl.toNat; omega), (h.each k s hk).2⟩, h.bound, ⟨by show 8 ≤ sl; have := h.slots; omega, h2⟩, h.bad⟩

theorem count_steps (l : Ls) (x : Int) : (l.count x).steps = l.steps ∧ (l.count x).pos = l.pos := ⟨rfl, rfl⟩

theorem instr_len (l : Ls) (s : St) : (instr l s).steps.length ≤ l.steps.length + 1 ∧ (instr l s).pos = l.pos := by
  unfold instr
  repeat' split
  all_goals first
    | exact ⟨Nat.le_succ _, rfl⟩
    | (refine ⟨?_, rfl⟩; simp [openStep, loopStep, divideAt, divideOf, endCodeAt, endLoopAt, endLoopOf, endIfAt, addStep, Ls.count]; done)
    | skip
  · unfold skipStep
    split
    · exact ⟨Nat.le_succ _, rfl⟩
    · refine ⟨?_, rfl⟩
      simp [addStep, Ls.count]

theorem Chain.len {S : List St} : ∀ {bs : List Bk} {d e : Nat}, Chain S d e bs → bs.length ≤ e + 1
  | [], _, _, h => h.elim
  | [b], d, e, _ => by simp
  | b :: b' :: r, d, e, ⟨o, s, h1, h2, h3, h4, h5⟩ => by
    have := h5.len
    simp only [List.length_cons] at this ⊢
    omega

theorem Inv.blocks {l : Ls} (h : Inv l) : l.blocks ≠ [] ∧ l.blocks.length ≤ l.steps.length + 1 := by
  obtain ⟨init, b, e⟩ := h.split
  refine ⟨by rw [e]; simp, ?_⟩
  have := h.chain.len
  simpa using this

theorem loadGo_bad (bs : List UInt8) (f : Nat) (l : Ls) (h : l.bad = true) : loadGo bs f l = l := by
  cases f with
  | zero => rfl
  | succ f => simp only [loadGo, if_pos (show l.blocks = [] ∨ l.bad = true from Or.inr h)]

theorem loadGo_done (bs : List UInt8) (f : Nat) (l : Ls) (h : l.blocks = []) : loadGo bs f l = l := by
  cases f with
  | zero => rfl
  | succ f => simp only [loadGo, if_pos (show l.blocks = [] ∨ l.bad = true from Or.inl h)]

/-- one round of Load -/
theorem loadGo_next (bs : List UInt8) (f : Nat) (l l' : Ls) (s : St) (h : Inv l) (hr : readStep bs l = some (s, l')) : loadGo bs (f + 1) l = loadGo bs f (instr l' s) := by
  have h1 : ¬ (l.blocks = [] ∨ l.bad = true) := fun e => e.elim h.blocks.1 (fun e => by rw [h.bad] at e; cases e)
  simp only [loadGo, if_neg h1, hr]

theorem loadGo_final (bs : List UInt8) (hbs : bs.length ≤ 100000) : ∀ (f : Nat) (l : Ls), Inv l → 0 ≤ l.pos → (l.steps.length : Int) ≤ l.pos → l.pos ≤ bs.length → bs.length - l.pos < f → (loadGo bs f l).bad = false → Final (loadGo bs f l)
  | 0, l, _, _, _, h2, h3, _ => by omega
  | f + 1, l, h, h0, h1, h2, h3, hb => by
    have hn : ¬ (l.blocks = [] ∨ l.bad = true) := fun e => e.elim h.blocks.1 (fun e => by rw [h.bad] at e; cases e)
    cases hr : readStep bs l with
    | none =>
      simp only [loadGo, if_neg hn, hr] at hb
      cases hb
    | some q =>
      obtain ⟨s, l'⟩ := q
      rw [loadGo_next bs f l l' s h hr] at hb ⊢
      obtain ⟨g1, g2, g3, g4, g5, g6⟩ := readStep_ok hr h0 h.slots
      have hi : Inv l' := by rw [g6]; exact h.read g4 g5
      have hs : l'.steps = l.steps := by rw [g6]
      obtain ⟨k1, k2⟩ := instr_len l' s
      have hbad : (instr l' s).bad = false := by
        cases hbb : (instr l' s).bad with
        | false => rfl
        | true => rw [loadGo_bad bs f _ hbb, hbb] at hb; cases hb
      rcases inv_instr hi s g1 (by rw [hs]; omega) hbad with hv | hv
      · exact loadGo_final bs hbs f _ hv (by rw [k2]; omega) (by rw [k2]; rw [hs] at k1; omega) (by rw [k2]; exact g3) (by rw [k2]; omega) hb
      · rw [loadGo_done bs f _ hv.blocks]; exact hv

theorem inv_first : Inv firstLs := by
  refine ⟨⟨rfl, rfl, 0, rfl, Seg.nil _ _⟩, rfl, by simp [firstLs], fun k s hk => by simp [firstLs] at hk, fun b hb => ?_, ⟨by simp [firstLs], by simp [firstLs]⟩, rfl⟩
  simp only [firstLs, List.mem_singleton] at hb
  subst hb
  exact ⟨by simp, by simp, by simp, by simp⟩

theorem loaded_final (bs : List UInt8) (hbs : bs.length ≤ 100000) (hb : (loaded bs).bad = false) : Final (loaded bs) :=
  loadGo_final bs hbs _ _ inv_first (by simp [firstLs]) (by simp [firstLs]) (by simp [firstLs]) (by simp only [firstLs]; omega) hb

/-- a run of code that Load takes, with as much fuel as it needs, is never starved; with any other fuel it gives the same, or is starved -/
theorem loaded_runs (bs : List UInt8) (hbs : bs.length ≤ 100000) (hb : (loaded bs).bad = false) (v : Vw) (hv : v.small) (regs : List Int) (m : Mc) (hm : LeftOk m) (f : Nat) :
    (runs v (loaded bs).steps regs (loaded bs).need.toNat 0 m).status ≠ 2 ∧
    ((runs v (loaded bs).steps regs f 0 m).status = 2 → f < (loaded bs).need.toNat) ∧
    ((runs v (loaded bs).steps regs f 0 m).status ≠ 2 → runs v (loaded bs).steps regs f 0 m = runs v (loaded bs).steps regs (loaded bs).need.toNat 0 m) := by
  have hf := loaded_final bs hbs hb
  have hpos := hf.sound.fits.pos
  have hne := hf.need
  have key : ∀ g, (loaded bs).need.toNat ≤ g → (runs v (loaded bs).steps regs g 0 m).status ≠ 2 := fun g hg => by
    refine runs_ends hf.sound hv g 0 m (Int.le_refl _) (by omega) hm ?_
    show cost (loaded bs).steps 0 + around (loaded bs).steps m.left [] ≤ g
    simp only [around]
    omega
  refine ⟨key _ (Nat.le_refl _), fun h => ?_, fun h => ?_⟩
  · rcases Nat.lt_or_ge f (loaded bs).need.toNat with h' | h'
    · exact h'
    · exact absurd h (key f h')
  · rcases Nat.le_total f (loaded bs).need.toNat with h' | h'
    · exact (runs_more _ _ _ _ h' h).symm
    · exact runs_more _ _ _ _ h' (key _ (Nat.le_refl _))
end Go.Proofs.YthllhabjfchgiaaGreatDoor.Hx
