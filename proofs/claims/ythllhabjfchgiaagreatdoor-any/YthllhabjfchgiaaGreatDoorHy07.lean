import Derived.Test.YthllhabjfchgiaaGreatDoorHy06
/- PLAIN LAWS: how many steps a run takes at most. -/
namespace Go.Proofs.YthllhabjfchgiaaGreatDoor.Hx
open Go.RowKit

/-- how many steps it takes at most from step k on, up to the next turn of the loop around it -/
def costOf (S : List St) : Nat → Nat → Nat
  | 0, _ => 0
  | f + 1, k => match S[k]? with
    | none => 0
    | some s =>
      if s.op = 0 ∨ s.op = 1 then 1
      else if s.op = 2 then 1 + max (costOf S f (k + 1)) (costOf S f s.to.toNat)
      else if s.op = 3 then 1 + costOf S f s.to.toNat
      else if s.op = 4 then 1 + (listSize s.a).toNat * costOf S f (k + 1) + costOf S f s.to.toNat
      else 1 + costOf S f (k + 1)

def cost (S : List St) (k : Nat) : Nat := costOf S (S.length - k) k

/-- what leads on leads ahead -/
def Ahead (S : List St) : Prop := ∀ (k : Nat) (s : St), S[k]? = some s → (s.op = 2 ∨ s.op = 3 ∨ s.op = 4) → k < s.to.toNat

theorem costOf_end (S : List St) (f k : Nat) (h : S.length ≤ k) : costOf S f k = 0 := by
  cases f with
  | zero => rfl
  | succ f => simp only [costOf, List.getElem?_eq_none h]

theorem costOf_eq {S : List St} (hS : Ahead S) : ∀ (f g k : Nat), S.length - k ≤ f → S.length - k ≤ g → costOf S f k = costOf S g k
  | 0, g, k, h1, _ => by rw [costOf_end S g k (by omega), costOf_end S 0 k (by omega)]
  | f + 1, 0, k, _, h2 => by rw [costOf_end S _ k (by omega), costOf_end S 0 k (by omega)]
  | f + 1, g + 1, k, h1, h2 => by
    cases hk : S[k]? with
    | none => simp only [costOf, hk]
    | some s =>
      have e1 := costOf_eq hS f g (k + 1) (by omega) (by omega)
      simp only [costOf, hk]
      by_cases hj : s.op = 2 ∨ s.op = 3 ∨ s.op = 4
      · have := hS k s hk hj
        rw [e1, costOf_eq hS f g s.to.toNat (by omega) (by omega)]
      · have h2 : ¬ s.op = 2 := fun e => hj (Or.inl e)
        have h3 : ¬ s.op = 3 := fun e => hj (Or.inr (Or.inl e))
        have h4 : ¬ s.op = 4 := fun e => hj (Or.inr (Or.inr e))
        simp only [if_neg h2, if_neg h3, if_neg h4, e1]

theorem cost_at {S : List St} (hS : Ahead S) {k : Nat} {s : St} (hk : S[k]? = some s) : cost S k =
    if s.op = 0 ∨ s.op = 1 then 1
    else if s.op = 2 then 1 + max (cost S (k + 1)) (cost S s.to.toNat)
    else if s.op = 3 then 1 + cost S s.to.toNat
    else if s.op = 4 then 1 + (listSize s.a).toNat * cost S (k + 1) + cost S s.to.toNat
    else 1 + cost S (k + 1) := by
  have hlt : k < S.length := by
    rcases Nat.lt_or_ge k S.length with h | h
    · exact h
    · rw [List.getElem?_eq_none h] at hk; cases hk
  obtain ⟨f, hf⟩ : ∃ f, S.length - k = f + 1 := ⟨S.length - k - 1, by omega⟩
  have e1 : costOf S f (k + 1) = cost S (k + 1) := costOf_eq hS _ _ _ (by omega) (Nat.le_refl _)
  unfold cost at *
  rw [hf]
  simp only [costOf, hk, e1]
  by_cases hj : s.op = 2 ∨ s.op = 3 ∨ s.op = 4
  · have := hS k s hk hj
    rw [costOf_eq hS f (S.length - s.to.toNat) s.to.toNat (by omega) (Nat.le_refl _)]
  · have h2 : ¬ s.op = 2 := fun e => hj (Or.inl e)
    have h3 : ¬ s.op = 3 := fun e => hj (Or.inr (Or.inl e))
    have h4 : ¬ s.op = 4 := fun e => hj (Or.inr (Or.inr e))
    simp only [if_neg h2, if_neg h3, if_neg h4]

theorem cost_pos {S : List St} (hS : Ahead S) {k : Nat} {s : St} (hk : S[k]? = some s) : 1 ≤ cost S k := by
  rw [cost_at hS hk]
  repeat' split
  all_goals omega

/-- the loops that are open ahead of step k, the innermost first -/
def stk (S : List St) : Nat → List Nat
  | 0 => []
  | k + 1 => match S[k]? with
    | none => stk S k
    | some s => if s.op = 4 then k :: stk S k else if s.op = 0 then (stk S k).tail else stk S k

theorem stk_cons (S : List St) (k : Nat) : ∀ (p : Nat) (r : List Nat), stk S k = p :: r → ∃ s, S[p]? = some s ∧ s.op = 4 ∧ r = stk S p ∧ p < k := by
  induction k using Nat.strongRecOn with
  | _ k ih =>
    intro p r h
    cases k with
    | zero => cases h
    | succ k =>
      simp only [stk] at h
      cases hk : S[k]? with
      | none =>
        rw [hk] at h
        obtain ⟨s, h1, h2, h3, h4⟩ := ih k (by omega) p r h
        exact ⟨s, h1, h2, h3, by omega⟩
      | some s =>
        rw [hk] at h
        simp only at h
        by_cases h4 : s.op = 4
        · rw [if_pos h4] at h
          cases h
          exact ⟨s, hk, h4, rfl, by omega⟩
        · rw [if_neg h4] at h
          by_cases h0 : s.op = 0
          · rw [if_pos h0] at h
            cases hq : stk S k with
            | nil => rw [hq] at h; cases h
            | cons q t =>
              rw [hq] at h
              obtain ⟨s', h1, h2, h3, h5⟩ := ih k (by omega) q t hq
              rw [List.tail_cons, h3] at h
              obtain ⟨s2, g1, g2, g3, g4⟩ := ih q (by omega) p r h
              exact ⟨s2, g1, g2, g3, by omega⟩
          · rw [if_neg h0] at h
            obtain ⟨s', h1, h2, h3, h5⟩ := ih k (by omega) p r h
            exact ⟨s', h1, h2, h3, by omega⟩

/-- what the loops around have still to do -/
def around (S : List St) (left : List Int) : List Nat → Nat
  | [] => 0
  | p :: r => (match S[p]? with | none => 0 | some s => pop (left.getD r.length 0) * cost S (p + 1) + cost S s.to.toNat) + around S left r

theorem around_set (S : List St) (left : List Int) (d : Nat) (x : Int) : ∀ (r : List Nat), r.length ≤ d → around S (left.set d x) r = around S left r
  | [], _ => rfl
  | p :: r, h => by
    have h' : r.length + 1 ≤ d := by simpa using h
    have e : (left.set d x).getD r.length 0 = left.getD r.length 0 := by
      rw [List.getD_eq_getElem?_getD, List.getD_eq_getElem?_getD, List.getElem?_set_ne (by omega)]
    simp only [around, e, around_set S left d x r (by omega)]

def most (S : List St) (m : Mc) (k : Nat) : Nat := cost S k + around S m.left (stk S k)

/-- code whose steps lead where they may -/
structure Sound (S : List St) (n : Nat) : Prop where
  fits : Fits S n
  flow : ∀ (k : Nat) (s : St), S[k]? = some s → (s.op = 2 ∨ s.op = 3 ∨ s.op = 4) → k < s.to.toNat ∧ stk S s.to.toNat = stk S k
  depth : ∀ (k : Nat) (s : St), S[k]? = some s → s.op = 4 → s.depth = (stk S k).length
  back : ∀ (k : Nat) (s : St), S[k]? = some s → (s.op = 0 ∨ s.op = 5) → (stk S k).head? = some s.to.toNat

theorem Sound.ahead {S : List St} {n : Nat} (h : Sound S n) : Ahead S := fun k s hk ho => (h.flow k s hk ho).1

structure LeftOk (m : Mc) : Prop where
  len : m.left.length = 8
  bd : ∀ x ∈ m.left, 0 ≤ x ∧ x < 18446744073709551616

theorem LeftOk.at {m : Mc} (h : LeftOk m) (i : Int) : 0 ≤ m.leftAt i ∧ m.leftAt i < 18446744073709551616 := by
  unfold Mc.leftAt
  rw [List.getD_eq_getElem?_getD]
  cases he : m.left[i.toNat]? with
  | none => simp
  | some x => exact h.bd x (List.mem_of_getElem? he)

theorem LeftOk.put {m : Mc} (h : LeftOk m) (i x : Int) (h0 : 0 ≤ x) (h1 : x < 18446744073709551616) : LeftOk (m.putLeft i x) := by
  refine ⟨by simp [Mc.putLeft, h.len], fun y hy => ?_⟩
  rcases List.mem_or_eq_of_mem_set hy with h2 | h2
  · exact h.bd y h2
  · subst h2; exact ⟨h0, h1⟩

theorem LeftOk.slots {m m' : Mc} (h : LeftOk m) (e : m'.left = m.left) : LeftOk m' := ⟨by rw [e]; exact h.len, by rw [e]; exact h.bd⟩

theorem put_left (m : Mc) (i x : Int) : (m.put i x).left = m.left := rfl

theorem choose_left (s : St) (b : Bool) (m : Mc) : (choose s b m).left = m.left := by
  unfold choose; split <;> rfl

theorem work_left (v : Vw) (s : St) (m : Mc) : (work v s m).left = m.left := by
  unfold work
  repeat' split
  all_goals first | rfl | exact choose_left _ _ _

theorem push_left {v : Vw} {i j : Int} {m m' : Mc} (h : push v i j m = some m') : m'.left = m.left := by
  unfold push at h
  split at h
  · split at h
    · cases h
    · cases h; rfl
  · cases h; rfl

/-- a turn of the loop at p -/
theorem turn_most {S : List St} {n : Nat} (h : Sound S n) {p : Nat} {s : St} (hp : S[p]? = some s) (h4 : s.op = 4) {m : Mc} (hm : LeftOk m) :
    0 ≤ (turn s p m).2 ∧ (turn s p m).2 < S.length ∧ LeftOk (turn s p m).1 ∧
      most S (turn s p m).1 (turn s p m).2.toNat ≤ pop (m.left.getD (stk S p).length 0) * cost S (p + 1) + cost S s.to.toNat + around S m.left (stk S p) := by
  have hd := h.depth p s hp h4
  obtain ⟨f0, f1, f2, f3, f4, f5⟩ := (h.fits.each p s hp).loops h4
  obtain ⟨g1, g2⟩ := h.flow p s hp (Or.inr (Or.inr h4))
  have hnx := (h.fits.each p s hp).next (by omega) (by omega) (by omega)
  have hdn : s.depth.toNat = (stk S p).length := by omega
  have hbd := hm.at s.depth
  unfold turn
  by_cases hz : m.leftAt s.depth = 0
  · rw [if_pos hz]
    refine ⟨f0, f1, hm, ?_⟩
    simp only [most, g2]
    omega
  · rw [if_neg hz]
    have hpop := pop_less (m.leftAt s.depth) hbd.1 hbd.2 hz
    have hlt := less_bd (m.leftAt s.depth) (IntKind.u64.wrap (m.leftAt s.depth - 1))
    have hstk : stk S (p + 1) = p :: stk S p := by
      simp only [stk, hp, if_pos h4]
    have e0 : m.left.getD (stk S p).length 0 = m.leftAt s.depth := by
      unfold Mc.leftAt; rw [hdn]
    generalize bits .and .u64 (m.leftAt s.depth) (IntKind.u64.wrap (m.leftAt s.depth - 1)) = y at *
    refine ⟨by show (0 : Int) ≤ (p : Int) + 1; omega, by show ((p : Int) + 1) < _; omega, (hm.slots (put_left m s.b _)).put _ _ hlt.1 hlt.2, ?_⟩
    show most S _ ((p : Int) + 1).toNat ≤ _
    have e1 : ((p : Int) + 1).toNat = p + 1 := by omega
    rw [e1, e0]
    have ha : ∀ L : List Int, around S L (p :: stk S p) = pop (L.getD (stk S p).length 0) * cost S (p + 1) + cost S s.to.toNat + around S L (stk S p) := fun L => by
      simp only [around, hp]
    unfold most
    rw [hstk, ha]
    have e2 : ((m.put s.b (tz (m.leftAt s.depth))).putLeft s.depth y).left = m.left.set (stk S p).length y := by
      simp [Mc.putLeft, put_left, hdn]
    rw [e2, around_set _ _ _ _ _ (Nat.le_refl _)]
    have e3 : (m.left.set (stk S p).length y).getD (stk S p).length 0 = y := by
      rw [List.getD_eq_getElem?_getD, List.getElem?_set_self (by rw [hm.len]; omega)]
      rfl
    rw [e3, ← hpop, Nat.add_mul]
    omega

/-- a step leaves fewer steps to do -/
theorem step_most {v : Vw} {S : List St} {n : Nat} (h : Sound S n) (hv : v.small) {regs : List Int} {k : Nat} {s : St} (hk : S[k]? = some s) {m : Mc} (hm : LeftOk m) :
    (∀ o, step v S regs k s m = .inl o → o.status ≠ 2) ∧
    (∀ k' m', step v S regs k s m = .inr (k', m') → 0 ≤ k' ∧ k' < S.length ∧ LeftOk m' ∧ most S m' k'.toNat + 1 ≤ most S m k) := by
  have hf := h.fits.each k s hk
  have hc := cost_at h.ahead hk
  have nx : ¬ s.op = 4 → ¬ s.op = 0 → stk S (k + 1) = stk S k := fun a b => by
    simp only [stk, hk, if_neg a, if_neg b]
  have ek : ((k : Int) + 1).toNat = k + 1 := by omega
  -- a turn of the loop around
  have hback : (s.op = 0 ∨ s.op = 5) → ∃ l, S[s.to.toNat]? = some l ∧ l.op = 4 ∧ 0 ≤ s.to ∧ 0 ≤ (turn l s.to m).2 ∧ (turn l s.to m).2 < S.length ∧ LeftOk (turn l s.to m).1 ∧ most S (turn l s.to m).1 (turn l s.to m).2.toNat + 1 ≤ most S m k := by
    intro ho
    have hb := h.back k s hk ho
    have h0 : 0 ≤ s.to := by
      rcases ho with ho | ho
      · obtain ⟨l, h0, _⟩ := hf.ends ho; exact h0
      · obtain ⟨_, l, h0, _⟩ := hf.skips ho; exact h0
    cases hs : stk S k with
    | nil => rw [hs] at hb; cases hb
    | cons p r =>
      rw [hs] at hb
      simp only [List.head?_cons, Option.some.injEq] at hb
      obtain ⟨l, l1, l2, l3, l4⟩ := stk_cons S k p r hs
      obtain ⟨t1, t2, t3, t4⟩ := turn_most h l1 l2 hm
      have hto : s.to = (p : Int) := by omega
      rw [hto]
      refine ⟨l, by simpa using l1, l2, by omega, t1, t2, t3, ?_⟩
      have : most S m k = cost S k + ((pop (m.left.getD r.length 0) * cost S (p + 1) + cost S l.to.toNat) + around S m.left r) := by
        unfold most; rw [hs]; simp only [around, l1]
      have hpos := cost_pos h.ahead hk
      rw [this, l3]
      omega
  unfold step
  by_cases h1 : s.op = 1
  · rw [if_pos h1]
    exact ⟨fun o ho => by cases ho; simp, fun k' m' ho => by cases ho⟩
  rw [if_neg h1]
  by_cases h2 : s.op = 2
  · rw [if_pos h2]
    clear hback
    obtain ⟨_, f1, f2⟩ := hf.ifs h2
    obtain ⟨g1, g2⟩ := h.flow k s hk (Or.inl h2)
    have hn := hf.next h1 (by omega) (by omega)
    rw [if_neg (by omega), if_pos h2] at hc
    refine ⟨fun o ho => (by cases ho), fun k' m' ho => ?_⟩
    cases ho
    refine ⟨by split <;> omega, by split <;> omega, hm, ?_⟩
    unfold most
    rw [hc]
    split
    · rw [g2]; omega
    · rw [ek, nx (by omega) (by omega)]; omega
  rw [if_neg h2]
  by_cases h3 : s.op = 3
  · rw [if_pos h3]
    clear hback
    obtain ⟨f1, f2⟩ := hf.elses h3
    obtain ⟨g1, g2⟩ := h.flow k s hk (Or.inr (Or.inl h3))
    rw [if_neg (by omega), if_neg h2, if_pos h3] at hc
    refine ⟨fun o ho => (by cases ho), fun k' m' ho => ?_⟩
    cases ho
    refine ⟨f1, f2, hm, ?_⟩
    unfold most
    rw [hc, g2]
    omega
  rw [if_neg h3]
  by_cases h4 : s.op = 4
  · rw [if_pos h4]
    clear hback
    rw [if_neg (by omega), if_neg h2, if_neg h3, if_pos h4] at hc
    refine ⟨fun o ho => (by cases ho), fun k' m' ho => ?_⟩
    cases ho
    have hb := begins_bd (m.get s.c) (v.all s.a)
    have hm' : LeftOk (begins v s m) := hm.put _ _ hb.1 hb.2
    obtain ⟨t1, t2, t3, t4⟩ := turn_most h hk h4 hm'
    refine ⟨t1, t2, t3, ?_⟩
    have hd := h.depth k s hk h4
    obtain ⟨_, _, _, _, _, f5⟩ := hf.loops h4
    have hdn : s.depth.toNat = (stk S k).length := by omega
    have e1 : (begins v s m).left = m.left.set (stk S k).length (unsigned (bits .and .i64 (m.get s.c) (v.all s.a))) := by
      simp [begins, Mc.putLeft, hdn]
    rw [e1, around_set _ _ _ _ _ (Nat.le_refl _)] at t4
    have e3 : ∀ y, (m.left.set (stk S k).length y).getD (stk S k).length 0 = y := fun y => by
      rw [List.getD_eq_getElem?_getD, List.getElem?_set_self (by rw [hm.len]; omega)]
      rfl
    rw [e3] at t4
    have hp := pop_begins v hv (m.get s.c) s.a
    have hp2 : pop (unsigned (bits .and .i64 (m.get s.c) (v.all s.a))) ≤ (listSize s.a).toNat := by omega
    have hp3 := Nat.mul_le_mul_right (cost S (k + 1)) hp2
    have : most S m k = cost S k + around S m.left (stk S k) := rfl
    rw [this, hc]
    omega
  rw [if_neg h4]
  by_cases h5 : s.op = 5
  · rw [if_pos h5]
    have hn := hf.next h1 h3 (by omega)
    obtain ⟨l, l1, l2, l3, t1, t2, t3, t4⟩ := hback (Or.inr h5)
    rw [if_neg (by omega), if_neg h2, if_neg h3, if_neg h4] at hc
    rw [l1]
    refine ⟨fun o ho => ?_, fun k' m' ho => ?_⟩
    · split at ho <;> cases ho
    · split at ho
      · cases ho; exact ⟨t1, t2, t3, t4⟩
      · cases ho
        refine ⟨by omega, by omega, hm, ?_⟩
        unfold most
        rw [hc, ek, nx h4 (by omega)]
        omega
  rw [if_neg h5]
  by_cases h0 : s.op = 0
  · rw [if_pos h0]
    obtain ⟨l, l1, l2, l3, t1, t2, t3, t4⟩ := hback (Or.inl h0)
    rw [l1]
    refine ⟨fun o ho => (by cases ho), fun k' m' ho => ?_⟩
    cases ho
    exact ⟨t1, t2, t3, t4⟩
  rw [if_neg h0]
  have hn := hf.next h1 h3 h0
  rw [if_neg (by omega), if_neg h2, if_neg h3, if_neg h4] at hc
  by_cases h36 : s.op = 36
  · rw [if_pos h36]
    cases hpu : push v (m.get s.a) (m.get s.b) m with
    | none => exact ⟨fun o ho => by cases ho; simp, fun k' m' ho => by cases ho⟩
    | some m1 =>
      refine ⟨fun o ho => (by cases ho), fun k' m' ho => ?_⟩
      cases ho
      refine ⟨by omega, by omega, hm.slots (push_left hpu), ?_⟩
      unfold most
      rw [hc, ek, nx h4 h0, push_left hpu]
      omega
  · rw [if_neg h36]
    refine ⟨fun o ho => (by cases ho), fun k' m' ho => ?_⟩
    cases ho
    refine ⟨by omega, by omega, hm.slots (work_left _ _ _), ?_⟩
    unfold most
    rw [hc, ek, nx h4 h0, work_left]
    omega

/-- with as much fuel as that a run ends -/
theorem runs_ends {v : Vw} {S : List St} {n : Nat} (h : Sound S n) (hv : v.small) {regs : List Int} :
    ∀ (f : Nat) (k : Int) (m : Mc), 0 ≤ k → k < S.length → LeftOk m → most S m k.toNat ≤ f → (runs v S regs f k m).status ≠ 2
  | 0, k, m, h0, h1, hm, hf => by
    have hk : S[k.toNat]? = some S[k.toNat] := List.getElem?_eq_getElem (by omega)
    have := cost_pos h.ahead hk
    unfold most at hf
    omega
  | f + 1, k, m, h0, h1, hm, hf => by
    have hk : S[k.toNat]? = some S[k.toNat] := List.getElem?_eq_getElem (by omega)
    obtain ⟨g1, g2⟩ := step_most (regs := regs) h hv hk hm
    simp only [runs, hk]
    cases hs : step v S regs k.toNat S[k.toNat] m with
    | inl o => exact g1 o hs
    | inr p =>
      obtain ⟨k', m'⟩ := p
      obtain ⟨a, b, c, d⟩ := g2 k' m' hs
      exact runs_ends h hv f k' m' a b c (by omega)

/-- more fuel changes nothing -/
theorem runs_more {v : Vw} {S : List St} {regs : List Int} : ∀ (f g : Nat) (k : Int) (m : Mc), f ≤ g → (runs v S regs f k m).status ≠ 2 → runs v S regs g k m = runs v S regs f k m
  | 0, _, _, _, _, h => absurd rfl h
  | f + 1, 0, _, _, hg, _ => by omega
  | f + 1, g + 1, k, m, hg, h => by
    simp only [runs] at h ⊢
    cases hk : S[k.toNat]? with
    | none => rfl
    | some s =>
      rw [hk] at h
      simp only at h ⊢
      cases hs : step v S regs k.toNat s m with
      | inl o => rfl
      | inr p =>
        obtain ⟨k', m'⟩ := p
        rw [hs] at h
        exact runs_more f g k' m' (by omega) h
end Go.Proofs.YthllhabjfchgiaaGreatDoor.Hx

/- PLAIN LAWS: what the loader keeps. -/
namespace Go.Proofs.YthllhabjfchgiaaGreatDoor.Hx
open Go.RowKit

/-- from step a on it takes c steps at most to come to step b -/
def Seg (S : List St) (a b c : Nat) : Prop := a ≤ b ∧ ∀ S' : List St, Ahead S' → (∀ k, a ≤ k → k < b → S'[k]? = S[k]?) → cost S' a ≤ c + cost S' b

theorem Seg.nil (S : List St) (a : Nat) : Seg S a a 0 := ⟨Nat.le_refl _, fun _ _ _ => by omega⟩

theorem Seg.keep {S S2 : List St} {a b c : Nat} (h : Seg S a b c) (hk : ∀ k, a ≤ k → k < b → S2[k]? = S[k]?) : Seg S2 a b c :=
  ⟨h.1, fun S' h1 h2 => h.2 S' h1 fun k ha hb => (h2 k ha hb).trans (hk k ha hb)⟩

theorem Seg.step {S : List St} {a b c : Nat} (h : Seg S a b c) {s : St} (hs : S[b]? = some s) (h2 : ¬ s.op = 2) (h3 : ¬ s.op = 3) (h4 : ¬ s.op = 4) : Seg S a (b + 1) (c + 1) := by
  refine ⟨by have := h.1; omega, fun S' h1 hS => ?_⟩
  have e1 := h.2 S' h1 fun k ha hb => hS k ha (by omega)
  have e2 := cost_at h1 ((hS b h.1 (by omega)).trans hs)
  rw [if_neg h2, if_neg h3, if_neg h4] at e2
  split at e2 <;> omega

theorem Seg.ifOnly {S : List St} {a o e c c1 : Nat} (h : Seg S a o c) {s : St} (hs : S[o]? = some s) (h2 : s.op = 2) (hto : s.to = e) (hin : Seg S (o + 1) e c1) : Seg S a e (c + (1 + c1)) := by
  have hoe := hin.1
  refine ⟨by have := h.1; omega, fun S' h1 hS => ?_⟩
  have e1 := h.2 S' h1 fun k ha hb => hS k ha (by omega)
  have e2 := cost_at h1 ((hS o h.1 (by omega)).trans hs)
  have e3 := hin.2 S' h1 fun k ha hb => hS k (by have := h.1; omega) hb
  rw [if_neg (by omega), if_pos h2, hto, Int.toNat_natCast] at e2
  omega

theorem Seg.ifElse {S : List St} {a o x e c c1 c2 : Nat} (h : Seg S a o c) {s t : St} (hs : S[o]? = some s) (h2 : s.op = 2) (hto : s.to = x + 1) (hin : Seg S (o + 1) x c1) (ht : S[x]? = some t) (h3 : t.op = 3) (htt : t.to = e) (hin2 : Seg S (x + 1) e c2) :
    Seg S a e (c + (1 + max (c1 + 1) c2)) := by
  have hox := hin.1
  have hxe := hin2.1
  have hao := h.1
  refine ⟨by omega, fun S' h1 hS => ?_⟩
  have e1 := h.2 S' h1 fun k ha hb => hS k ha (by omega)
  have e2 := cost_at h1 ((hS o h.1 (by omega)).trans hs)
  have e3 := hin.2 S' h1 fun k ha hb => hS k (by omega) (by omega)
  have e4 := cost_at h1 ((hS x (by omega) (by omega)).trans ht)
  have e5 := hin2.2 S' h1 fun k ha hb => hS k (by omega) hb
  have hto' : s.to.toNat = x + 1 := by omega
  rw [if_neg (by omega), if_pos h2, hto'] at e2
  rw [if_neg (by omega), if_neg (by omega), if_pos h3, htt, Int.toNat_natCast] at e4
  omega

theorem Seg.loop {S : List St} {a o e c c1 : Nat} (h : Seg S a o c) {s t : St} (hs : S[o]? = some s) (h4 : s.op = 4) (hto : s.to = (e : Int) + 1) (hin : Seg S (o + 1) e c1) (ht : S[e]? = some t) (h0 : t.op = 0) :
    Seg S a (e + 1) (c + (1 + (listSize s.a).toNat * (c1 + 1))) := by
  have hoe := hin.1
  have hao := h.1
  refine ⟨by omega, fun S' h1 hS => ?_⟩
  have e1 := h.2 S' h1 fun k ha hb => hS k ha (by omega)
  have e2 := cost_at h1 ((hS o h.1 (by omega)).trans hs)
  have e3 := hin.2 S' h1 fun k ha hb => hS k (by omega) (by omega)
  have e4 := cost_at h1 ((hS e (by omega) (by omega)).trans ht)
  have hto' : s.to.toNat = e + 1 := by omega
  rw [if_neg (by omega), if_neg (by omega), if_neg (by omega), if_pos h4, hto'] at e2
  rw [if_pos (Or.inl h0)] at e4
  have e5 : (listSize s.a).toNat * cost S' (o + 1) ≤ (listSize s.a).toNat * (c1 + 1) := Nat.mul_le_mul_left _ (by omega)
  omega

theorem stk_keep {S S2 : List St} {e : Nat} (hk : ∀ k, k < e → S2[k]? = S[k]?) : ∀ j, j ≤ e → stk S2 j = stk S j
  | 0, _ => rfl
  | j + 1, h => by
    have h1 := stk_keep hk j (by omega)
    simp only [stk, hk j (by omega), h1]

theorem stk_set {S : List St} {p : Nat} {s : St} (hp : S[p]? = some s) (x : Int) : ∀ j, stk (S.set p { s with to := x }) j = stk S j
  | 0 => rfl
  | j + 1 => by
    have h1 := stk_set hp x j
    have hlt : p < S.length := by
      rcases Nat.lt_or_ge p S.length with h | h
      · exact h
      · rw [List.getElem?_eq_none h] at hp; cases hp
    by_cases hj : p = j
    · subst hj
      simp only [stk, h1, List.getElem?_set_self hlt, hp]
    · simp only [stk, h1, List.getElem?_set_ne hj]

/-- the blocks that are open, the innermost first: what is done from each one's beginning up to step e, and, of those around it, up to the step that opened it -/
def Chain (S : List St) : Nat → Nat → List Bk → Prop
  | _, _, [] => False
  | d, e, [b] => b.other = 0 ∧ stk S e = [] ∧ ∃ c : Nat, b.need = c + d ∧ Seg S 0 e c
  | d, e, b :: b' :: r => (∃ (o : Nat) (s : St), b.opener = o ∧ o < e ∧ S[o]? = some s ∧
      ((s.op = 4 ∧ b.other = 0 ∧ b.before = 0 ∧ stk S e = o :: stk S o ∧ ∃ c : Nat, b.need = c + d ∧ Seg S (o + 1) e c) ∨
       (s.op = 2 ∧ b.other = 0 ∧ b.before = 0 ∧ stk S e = stk S o ∧ ∃ c : Nat, b.need = c + d ∧ Seg S (o + 1) e c) ∨
       (s.op = 2 ∧ ∃ (x : Nat) (t : St), b.other = x ∧ o < x ∧ x < e ∧ S[x]? = some t ∧ t.op = 3 ∧ s.to = (x : Int) + 1 ∧ stk S x = stk S o ∧ stk S e = stk S o ∧
         (∃ c1 : Nat, b.before = (c1 : Int) + 1 ∧ Seg S (o + 1) x c1) ∧ ∃ c : Nat, b.need = c + d ∧ Seg S (x + 1) e c)) ∧
      Chain S 1 o (b' :: r))

theorem Chain.keep {S S2 : List St} : ∀ {bs : List Bk} {d e : Nat}, Chain S d e bs → (∀ k, k < e → S2[k]? = S[k]?) → Chain S2 d e bs
  | [], _, _, h, _ => h.elim
  | [b], d, e, ⟨h1, h2, c, h3, h4⟩, hk => ⟨h1, (stk_keep hk e (Nat.le_refl _)).trans h2, c, h3, h4.keep fun k _ hb => hk k hb⟩
  | b :: b' :: r, d, e, ⟨o, s, h1, h2, h3, h4, h5⟩, hk => by
    have ke := stk_keep hk e (Nat.le_refl _)
    have ko := stk_keep hk o (by omega)
    refine ⟨o, s, h1, h2, (hk o h2).trans h3, ?_, h5.keep fun k hb => hk k (by omega)⟩
    rcases h4 with ⟨a1, a2, a3, a4, c, a5, a6⟩ | ⟨a1, a2, a3, a4, c, a5, a6⟩ | ⟨a1, x, t, a2, a3, a4, a5, a6, a7, a8, a9, ⟨c1, b1, b2⟩, c, b3, b4⟩
    · exact Or.inl ⟨a1, a2, a3, by rw [ke, ko]; exact a4, c, a5, a6.keep fun k _ hb => hk k hb⟩
    · exact Or.inr (Or.inl ⟨a1, a2, a3, by rw [ke, ko]; exact a4, c, a5, a6.keep fun k _ hb => hk k hb⟩)
    · refine Or.inr (Or.inr ⟨a1, x, t, a2, a3, a4, (hk x a4).trans a5, a6, a7, ?_, by rw [ke, ko]; exact a9, ⟨c1, b1, b2.keep fun k _ hb => hk k (by omega)⟩, c, b3, b4.keep fun k _ hb => hk k hb⟩)
      rw [stk_keep hk x (by omega), ko]; exact a8

/-- the innermost block goes on to step e -/
theorem Chain.go {S S2 : List St} {d o : Nat} {b : Bk} {r : List Bk} (h : Chain S d o (b :: r)) (hk : ∀ k, k < o → S2[k]? = S[k]?) {e w d' : Nat} (hoe : o ≤ e) (hst : stk S2 e = stk S2 o)
    (hseg : ∀ a c, Seg S2 a o c → Seg S2 a e (c + w)) {need' : Int} (hn : need' + d = b.need + w + d') : Chain S2 d' e ({ b with need := need' } :: r) := by
  have h' := h.keep hk
  cases r with
  | nil =>
    obtain ⟨h1, h2, c, h3, h4⟩ := h'
    exact ⟨h1, hst.trans h2, c + w, by show need' = _; push_cast; omega, hseg _ _ h4⟩
  | cons b' r =>
    obtain ⟨o', s, h1, h2, h3, h4, h5⟩ := h'
    refine ⟨o', s, h1, by omega, h3, ?_, h5⟩
    rcases h4 with ⟨a1, a2, a3, a4, c, a5, a6⟩ | ⟨a1, a2, a3, a4, c, a5, a6⟩ | ⟨a1, x, t, a2, a3, a4, a5, a6, a7, a8, a9, b1, c, b3, b4⟩
    · exact Or.inl ⟨a1, a2, a3, hst.trans a4, c + w, by show need' = _; push_cast; omega, hseg _ _ a6⟩
    · exact Or.inr (Or.inl ⟨a1, a2, a3, hst.trans a4, c + w, by show need' = _; push_cast; omega, hseg _ _ a6⟩)
    · exact Or.inr (Or.inr ⟨a1, x, t, a2, a3, by omega, a5, a6, a7, a8, hst.trans a9, b1, c + w, by show need' = _; push_cast; omega, hseg _ _ b4⟩)

/-- the step of a block that leads nowhere yet -/
def pend (b : Bk) : Int := if 0 < b.other then b.other else b.opener

def opens : List Bk → List Int
  | [] => []
  | [_] => []
  | b :: b' :: r => pend b :: opens (b' :: r)

theorem opens_need (b : Bk) (r : List Bk) (x : Int) : opens ({ b with need := x } :: r) = opens (b :: r) := by
  cases r <;> rfl

theorem Chain.opens_lt {S : List St} : ∀ {bs : List Bk} {d e : Nat}, Chain S d e bs → ∀ x ∈ opens bs, 0 ≤ x ∧ x < e
  | [], _, _, h => h.elim
  | [b], d, e, _ => fun x hx => by cases hx
  | b :: b' :: r, d, e, ⟨o, s, h1, h2, h3, h4, h5⟩ => fun x hx => by
    rcases List.mem_cons.1 hx with rfl | hx
    · rcases h4 with ⟨a1, a2, _⟩ | ⟨a1, a2, _⟩ | ⟨a1, x, t, a2, a3, a4, _⟩
      · unfold pend; rw [if_neg (by omega)]; omega
      · unfold pend; rw [if_neg (by omega)]; omega
      · unfold pend; rw [if_pos (by omega)]; omega
    · have := h5.opens_lt x hx
      omega

/-- the slots of a step are such as there are -/
structure Base (n : Nat) (s : St) : Prop where
  op : 0 ≤ s.op ∧ s.op ≤ 36
  ifs : s.op = 2 → St.slot n s.a
  loops : s.op = 4 → St.slot n s.b ∧ St.slot n s.c ∧ 0 ≤ s.depth ∧ s.depth < 8
  skips : s.op = 5 → St.slot n s.a
  pushes : s.op = 36 → St.slot n s.a ∧ St.slot n s.b
  works : ¬ s.op = 1 → ¬ s.op = 2 → ¬ s.op = 3 → ¬ s.op = 4 → ¬ s.op = 5 → ¬ s.op = 0 → ¬ s.op = 36 → s.worksIn n

theorem slot_more {n m : Nat} (h : n ≤ m) {x : Int} (hx : St.slot n x) : St.slot m x := ⟨hx.1, by have := hx.2; omega⟩

theorem Base.more {n m : Nat} (h : n ≤ m) {s : St} (hb : Base n s) : Base m s := by
  refine ⟨hb.op, fun e => slot_more h (hb.ifs e), fun e => ⟨slot_more h (hb.loops e).1, slot_more h (hb.loops e).2.1, (hb.loops e).2.2⟩, fun e => slot_more h (hb.skips e), fun e => ⟨slot_more h (hb.pushes e).1, slot_more h (hb.pushes e).2⟩, fun a b c d e f g => ?_⟩
  obtain ⟨w1, w2, w3⟩ := hb.works a b c d e f g
  refine ⟨w1, slot_more h w2, ?_⟩
  rcases w3 with w3 | w3 | ⟨w3, w4⟩
  · exact Or.inl w3
  · exact Or.inr (Or.inl w3)
  · refine Or.inr (Or.inr ⟨slot_more h w3, ?_⟩)
    rcases w4 with w4 | ⟨w4, w5⟩
    · exact Or.inl w4
    · exact Or.inr ⟨slot_more h w4, fun e => slot_more h (w5 e)⟩

/-- a step that leads on leads to one that there is or that is next -/
def Closed (S : List St) (k : Nat) (s : St) : Prop := (s.op = 2 ∨ s.op = 3 ∨ s.op = 4) → 0 ≤ s.to ∧ k < s.to.toNat ∧ s.to ≤ S.length ∧ stk S s.to.toNat = stk S k

structure Back (S : List St) (k : Nat) (s : St) : Prop where
  depth : s.op = 4 → s.depth = (stk S k).length
  back : (s.op = 0 ∨ s.op = 5) → 0 ≤ s.to ∧ (stk S k).head? = some s.to.toNat

/-- what the loader keeps from instruction to instruction -/
structure Inv (l : Ls) : Prop where
  chain : Chain l.steps 0 l.steps.length l.blocks.reverse
  loops : l.loops = (stk l.steps l.steps.length).reverse.map Int.ofNat
  eight : l.loops.length ≤ 8
  each : ∀ (k : Nat) (s : St), l.steps[k]? = some s → Base l.slots.toNat s ∧ Back l.steps k s ∧ ((k : Int) ∉ opens l.blocks.reverse → Closed l.steps k s)
  bound : ∀ b ∈ l.blocks, 0 ≤ b.need ∧ b.need ≤ 40000040 ∧ 0 ≤ b.before ∧ b.before ≤ 40000040
  slots : 8 ≤ l.slots ∧ l.slots ≤ 2008
  bad : l.bad = false
end Go.Proofs.YthllhabjfchgiaaGreatDoor.Hx

/- PLAIN LAWS: each instruction keeps what the loader keeps. -/
namespace Go.Proofs.YthllhabjfchgiaaGreatDoor.Hx
open Go.RowKit


theorem count_eq {l : Ls} {init : List Bk} {b : Bk} (h : l.blocks = init ++ [b]) (more : Int) :
    l.count more = { l with blocks := init ++ [{ b with need := wrap64 (b.need + more) }], bad := l.bad || decide (40000040 < wrap64 (b.need + more)) } := by
  simp [Ls.count, Ls.top, h]

theorem add_eq {l : Ls} {init : List Bk} {b : Bk} (h : l.blocks = init ++ [b]) (st : St) :
    addStep l st = { l with steps := l.steps ++ [st], blocks := init ++ [{ b with need := wrap64 (b.need + 1) }], bad := l.bad || decide (40000040 < wrap64 (b.need + 1)) } := by
  unfold addStep
  rw [count_eq (l := { l with steps := l.steps ++ [st] }) h]

theorem top_eq {l : Ls} {init : List Bk} {b : Bk} (h : l.blocks = init ++ [b]) : l.top = b := by simp [Ls.top, h]

theorem wrap_small {x : Int} (h0 : 0 ≤ x) (h1 : x ≤ 9000000000) : wrap64 x = x := by unfold wrap64; omega

theorem Inv.split {l : Ls} (h : Inv l) : ∃ init b, l.blocks = init ++ [b] := by
  have hc := h.chain
  rcases List.eq_nil_or_concat l.blocks with e | ⟨init, b, e⟩
  · rw [e] at hc; exact hc.elim
  · exact ⟨init, b, by rw [e, List.concat_eq_append]⟩

theorem stk_append (S : List St) (st : St) : ∀ j, j ≤ S.length → stk (S ++ [st]) j = stk S j :=
  stk_keep fun _ hk => List.getElem?_append_left hk

theorem stk_next (S : List St) (st : St) (h4 : ¬ st.op = 4) (h0 : ¬ st.op = 0) : stk (S ++ [st]) (S.length + 1) = stk S S.length := by
  simp only [stk, List.getElem?_concat_length, if_neg h4, if_neg h0, stk_append S st _ (Nat.le_refl _)]

theorem Closed.append {S : List St} {k : Nat} {s : St} (h : Closed S k s) (hk : k < S.length) (t : St) : Closed (S ++ [t]) k s := fun ho => by
  obtain ⟨h0, h1, h2, h3⟩ := h ho
  refine ⟨h0, h1, by simp; omega, ?_⟩
  rw [stk_append S t _ (by omega), stk_append S t _ (by omega)]
  exact h3

theorem Back.append {S : List St} {k : Nat} {s : St} (h : Back S k s) (hk : k ≤ S.length) (t : St) : Back (S ++ [t]) k s := by
  have e := stk_append S t k hk
  exact ⟨fun ho => by rw [e]; exact h.depth ho, fun ho => by rw [e]; exact h.back ho⟩

theorem Closed.setTo {S : List St} {k : Nat} {s : St} (h : Closed S k s) {p : Nat} {sp : St} (hp : S[p]? = some sp) (x : Int) : Closed (S.set p { sp with to := x }) k s := fun ho => by
  obtain ⟨h0, h1, h2, h3⟩ := h ho
  exact ⟨h0, h1, by simpa using h2, by rw [stk_set hp, stk_set hp]; exact h3⟩

theorem Back.setTo {S : List St} {k : Nat} {s : St} (h : Back S k s) {p : Nat} {sp : St} (hp : S[p]? = some sp) (x : Int) : Back (S.set p { sp with to := x }) k s :=
  ⟨fun ho => by rw [stk_set hp]; exact h.depth ho, fun ho => by rw [stk_set hp]; exact h.back ho⟩

theorem base_to {n : Nat} {s : St} (h : Base n s) (x : Int) : Base n { s with to := x } := ⟨h.op, h.ifs, h.loops, h.skips, h.pushes, h.works⟩

theorem base_depth {n : Nat} {s : St} (h : Base n s) (x : Int) (h0 : 0 ≤ x) (h1 : x < 8) : Base n { s with depth := x } := ⟨h.op, h.ifs, fun e => ⟨(h.loops e).1, (h.loops e).2.1, h0, h1⟩, h.skips, h.pushes, h.works⟩

theorem get_lt {S : List St} {k : Nat} {s : St} (h : S[k]? = some s) : k < S.length := by
  rcases Nat.lt_or_ge k S.length with h' | h'
  · exact h'
  · rw [List.getElem?_eq_none h'] at h; cases h

/-- a step more, of the steps that there are one -/
theorem get_append {S : List St} {t : St} {k : Nat} {s : St} (h : (S ++ [t])[k]? = some s) : (k < S.length ∧ S[k]? = some s) ∨ (k = S.length ∧ s = t) := by
  have hlt := get_lt h
  rw [List.length_append, List.length_singleton] at hlt
  by_cases hk : k < S.length
  · rw [List.getElem?_append_left hk] at h
    exact Or.inl ⟨hk, h⟩
  · have : k = S.length := by omega
    subst this
    rw [List.getElem?_concat_length] at h
    exact Or.inr ⟨rfl, (Option.some.inj h).symm⟩

variable {l : Ls}

/-- a plain step -/
theorem inv_add (h : Inv l) (st : St) (hb : Base l.slots.toNat st) (h0 : ¬ st.op = 0) (h2 : ¬ st.op = 2) (h3 : ¬ st.op = 3) (h4 : ¬ st.op = 4) (hback : st.op = 5 → 0 ≤ st.to ∧ (stk l.steps l.steps.length).head? = some st.to.toNat) (hg : (addStep l st).bad = false) : Inv (addStep l st) := by
  obtain ⟨init, b, e⟩ := h.split
  have hbd := h.bound b (by rw [e]; simp)
  rw [add_eq e] at hg ⊢
  rw [wrap_small (by omega) (by omega)] at hg ⊢
  simp only [h.bad, Bool.false_or, decide_eq_false_iff_not] at hg
  have hc := h.chain
  rw [e] at hc
  simp only [List.reverse_append, List.reverse_cons, List.reverse_nil, List.nil_append, List.singleton_append] at hc
  refine ⟨?_, ?_, h.eight, ?_, ?_, h.slots, by simp [h.bad]; omega⟩
  · simp only [List.reverse_append, List.reverse_cons, List.reverse_nil, List.nil_append, List.singleton_append, List.length_append, List.length_cons, List.length_nil]
    refine hc.go (w := 1) (fun k hk => List.getElem?_append_left hk) (by omega) ?_ ?_ (by omega)
    · rw [stk_next _ _ h4 h0, stk_append _ _ _ (Nat.le_refl _)]
    · exact fun a c hs => hs.step (List.getElem?_concat_length ..) h2 h3 h4
  · simp only [List.length_append, List.length_cons, List.length_nil]
    rw [stk_next _ _ h4 h0]; exact h.loops
  · intro k s hk
    rcases get_append hk with ⟨hk, hks⟩ | ⟨rfl, rfl⟩
    · obtain ⟨g1, g2, g3⟩ := h.each k s hks
      refine ⟨g1, g2.append (by omega) st, fun hn => (g3 ?_).append hk st⟩
      rw [e]
      simp only [List.reverse_append, List.reverse_cons, List.reverse_nil, List.nil_append, List.singleton_append] at hn ⊢
      rwa [opens_need] at hn
    · refine ⟨hb, ⟨fun ho => absurd ho h4, fun ho => ?_⟩, fun _ ho => by omega⟩
      rw [stk_append _ _ _ (Nat.le_refl _)]
      exact hback (ho.resolve_left h0)
  · intro x hx
    rcases List.mem_append.1 hx with hx | hx
    · exact h.bound x (by rw [e]; exact List.mem_append_left _ hx)
    · rw [List.mem_singleton] at hx
      subst hx
      exact ⟨by show 0 ≤ b.need + 1; omega, by show b.need + 1 ≤ _; omega, hbd.2.2⟩

/-- a block more -/
theorem inv_open (h : Inv l) (st : St) (hb : Base l.slots.toNat st) (ho : st.op = 2 ∨ st.op = 4) (hd : st.op = 4 → st.depth = l.loops.length) (lo : List Int) (hlo : lo = if st.op = 4 then l.loops ++ [(l.steps.length : Int)] else l.loops) (h8 : lo.length ≤ 8)
    (hg : (openStep l st).bad = false) : Inv { openStep l st with loops := lo } := by
  obtain ⟨init, b, e⟩ := h.split
  have hbd := h.bound b (by rw [e]; simp)
  unfold openStep at hg ⊢
  rw [add_eq e] at hg ⊢
  rw [wrap_small (by omega) (by omega)] at hg ⊢
  simp only [h.bad, Bool.false_or, decide_eq_false_iff_not] at hg
  have hc := h.chain
  rw [e] at hc
  simp only [List.reverse_append, List.reverse_cons, List.reverse_nil, List.nil_append, List.singleton_append] at hc
  have ha := stk_append l.steps st _ (Nat.le_refl l.steps.length)
  have hgn : (l.steps ++ [st])[l.steps.length]? = some st := List.getElem?_concat_length ..
  have hout : Chain (l.steps ++ [st]) 1 l.steps.length ({ b with need := b.need + 1 } :: init.reverse) :=
    hc.go (w := 0) (fun k hk => List.getElem?_append_left hk) (Nat.le_refl _) rfl (fun a c hs => hs) (by omega)
  refine ⟨?_, ?_, h8, ?_, ?_, h.slots, by simp [h.bad]; omega⟩
  · simp only [List.reverse_append, List.reverse_cons, List.reverse_nil, List.nil_append, List.length_append, List.length_cons, List.length_nil, List.cons_append]
    refine ⟨l.steps.length, st, rfl, by omega, hgn, ?_, hout⟩
    rcases ho with ho | ho
    · refine Or.inr (Or.inl ⟨ho, rfl, rfl, ?_, 0, rfl, Seg.nil _ _⟩)
      rw [stk_next _ _ (by omega) (by omega), ha]
    · refine Or.inl ⟨ho, rfl, rfl, ?_, 0, rfl, Seg.nil _ _⟩
      simp only [stk, hgn, if_pos ho]
  · simp only [List.length_append, List.length_cons, List.length_nil]
    rw [hlo]
    rcases ho with ho | ho
    · rw [if_neg (by omega), stk_next _ _ (by omega) (by omega)]; exact h.loops
    · rw [if_pos ho]
      simp only [stk, hgn, if_pos ho, ha, List.reverse_cons, List.map_append, ← h.loops]
      rfl
  · intro k s hk
    rcases get_append hk with ⟨hk, hks⟩ | ⟨rfl, rfl⟩
    · obtain ⟨g1, g2, g3⟩ := h.each k s hks
      refine ⟨g1, g2.append (by omega) st, fun hn => (g3 ?_).append hk st⟩
      rw [e]
      simp only [List.reverse_append, List.reverse_cons, List.reverse_nil, List.nil_append, List.cons_append] at hn ⊢
      simp only [opens, opens_need] at hn
      exact fun hm => hn (List.mem_cons_of_mem _ hm)
    · refine ⟨hb, ⟨fun h4 => ?_, fun h0 => by omega⟩, fun hn => ?_⟩
      · rw [hd h4, ha, h.loops]; simp
      · simp only [List.reverse_append, List.reverse_cons, List.reverse_nil, List.nil_append, List.cons_append, opens] at hn
        exact absurd (by simp [pend]) hn
  · intro x hx
    rcases List.mem_append.1 hx with hx | hx
    · rcases List.mem_append.1 hx with hx | hx
      · exact h.bound x (by rw [e]; exact List.mem_append_left _ hx)
      · rw [List.mem_singleton] at hx
        subst hx
        exact ⟨by show 0 ≤ b.need + 1; omega, by show b.need + 1 ≤ _; omega, hbd.2.2⟩
    · rw [List.mem_singleton] at hx
      subst hx
      exact ⟨by simp, by simp, by simp, by simp⟩
end Go.Proofs.YthllhabjfchgiaaGreatDoor.Hx
