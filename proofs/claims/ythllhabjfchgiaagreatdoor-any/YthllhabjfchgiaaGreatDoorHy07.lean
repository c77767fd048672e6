import Derived.Test.YthllhabjfchgiaaGreatDoorHy06
/- PLAIN LAWS: what the loader keeps. -/
namespace Go.Proofs.YthllhabjfchgiaaGreatDoor.Hx
open Go.RowKit

/-- from step a on it takes c steps at most to come to step b -/
def Seg (S : List St) (a b c : Nat) : Prop := a ≤ b ∧ ∀ S' : List St, Ahead S' → (∀ k, a ≤ k → k < b → S'[k]? = S[k]?) → cost S' a ≤ c + cost S' b

theorem Seg.nil (S : List St) (a : Nat) : Seg S a a 0 := ⟨Nat.le_refl _, fun _ _ _ => by omega⟩

theorem Seg.keep {S S2 : List St} {a b c : Nat} (h : Seg S a b c) (hk : ∀ k, a ≤ k → k < b → S2[k]? = S[k]?) : Seg S2 a b c :=
  ⟨h.1, fun S' h1 h2 => h.2 S' h1 fun k ha hb => (h2 k ha hb).trans (hk k ha hb)⟩

theorem Seg.step {S : List St} {a b c : Nat} (h : Seg S a b c) {s : St} (hs : S[b]? = some s) (h2 : ¬ s.op = 2) (h3 : ¬ s.op = 3) (h4 : ¬ s.op = 4) : Seg S a (b + 1) (c + 1) := by
  refine ⟨by have := h.1; omega, fun S' h1 hS => ?_⟩
  have e1 := h.2 S' h1 fun k ha hb => hS k ha (by omega)
  have e2 := cost_at h1 ((hS b h.1 (by omega)).trans hs)
  rw [if_neg h2, if_neg h3, if_neg h4] at e2
  split at e2 <;> omega

theorem Seg.ifOnly {S : List St} {a o e c c1 : Nat} (h : Seg S a o c) {s : St} (hs : S[o]? = some s) (h2 : s.op = 2) (hto : s.to = e) (hin : Seg S (o + 1) e c1) : Seg S a e (c + (1 + c1)) := by
  have hoe := hin.1
  refine ⟨by have := h.1; omega, fun S' h1 hS => ?_⟩
  have e1 := h.2 S' h1 fun k ha hb => hS k ha (by omega)
  have e2 := cost_at h1 ((hS o h.1 (by omega)).trans hs)
  have e3 := hin.2 S' h1 fun k ha hb => hS k (by have := h.1; omega) hb
  rw [if_neg (by omega), if_pos h2, hto, Int.toNat_natCast] at e2
  omega

theorem Seg.ifElse {S : List St} {a o x e c c1 c2 : Nat} (h : Seg S a o c) {s t : St} (hs : S[o]? = some s) (h2 : s.op = 2) (hto : s.to = x + 1) (hin : Seg S (o + 1) x c1) (ht : S[x]? = some t) (h3 : t.op = 3) (htt : t.to = e) (hin2 : Seg S (x + 1) e c2) :
    Seg S a e (c + (1 + max (c1 + 1) c2)) := by
  have hox := hin.1
  have hxe := hin2.1
  have hao := h.1
  refine ⟨by omega, fun S' h1 hS => ?_⟩
  have e1 := h.2 S' h1 fun k ha hb => hS k ha (by omega)
  have e2 := cost_at h1 ((hS o h.1 (by omega)).trans hs)
  have e3 := hin.2 S' h1 fun k ha hb => hS k (by omega) (by omega)
  have e4 := cost_at h1 ((hS x (by omega) (by omega)).trans ht)
  have e5 := hin2.2 S' h1 fun k ha hb => hS k (by omega) hb
  have hto' : s.to.toNat = x + 1 := by omega
  rw [if_neg (by omega), if_pos h2, hto'] at e2
  rw [if_neg (by omega), if_neg (by omega), if_pos h3, htt, Int.toNat_natCast] at e4
  omega

theorem Seg.loop {S : List St} {a o e c c1 : Nat} (h : Seg S a o c) {s t : St} (hs : S[o]? = some s) (h4 : s.op = 4) (hto : s.to = (e : Int) + 1) (hin : Seg S (o + 1) e c1) (ht : S[e]? = some t) (h0 : t.op = 0) :
    Seg S a (e + 1) (c + (1 + (listSize s.a).toNat * (c1 + 1))) := by
  have hoe := hin.1
  have hao := h.1
  refine ⟨by omega, fun S' h1 hS => ?_⟩
  have e1 := h.2 S' h1 fun k ha hb => hS k ha (by omega)
  have e2 := cost_at h1 ((hS o h.1 (by omega)).trans hs)
  have e3 := hin.2 S' h1 fun k ha hb => hS k (by omega) (by omega)
  have e4 := cost_at h1 ((hS e (by omega) (by omega)).trans ht)
  have hto' : s.to.toNat = e + 1 := by omega
  rw [if_neg (by omega), if_neg (by omega), if_neg (by omega), if_pos h4, hto'] at e2
  rw [if_pos (Or.inl h0)] at e4
  have e5 : (listSize s.a).toNat * cost S' (o + 1) ≤ (listSize s.a).toNat * (c1 + 1) := Nat.mul_le_mul_left _ (by omega)
  omega

theorem stk_keep {S S2 : List St} {e : Nat} (hk : ∀ k, k < e → S2[k]? = S[k]?) : ∀ j, j ≤ e → stk S2 j = stk S j
  | 0, _ => rfl
  | j + 1, h => by
    have h1 := stk_keep hk j (by omega)
    simp only [stk, hk j (by omega), h1]

theorem stk_set {S : List St} {p : Nat} {s : St} (hp : S[p]? = some s) (x : Int) : ∀ j, stk (S.set p { s with to := x }) j = stk S j
  | 0 => rfl
  | j + 1 => by
    have h1 := stk_set hp x j
    have hlt : p < S.length := by
      rcases Nat.lt_or_ge p S.length with h | h
      · exact h
      · rw [List.getElem?_eq_none h] at hp; cases hp
    by_cases hj : p = j
    · subst hj
      simp only [stk, h1, List.getElem?_set_self hlt, hp]
    · simp only [stk, h1, List.getElem?_set_ne hj]

/-- the blocks that are open, the innermost first: what is done from each one's beginning up to step e, and, of those around it, up to the step that opened it -/
def Chain (S : List St) : Nat → Nat → List Bk → Prop
  | _, _, [] => False
  | d, e, [b] => b.other = 0 ∧ stk S e = [] ∧ ∃ c : Nat, b.need = c + d ∧ Seg S 0 e c
  | d, e, b :: b' :: r => (∃ (o : Nat) (s : St), b.opener = o ∧ o < e ∧ S[o]? = some s ∧
      ((s.op = 4 ∧ b.other = 0 ∧ b.before = 0 ∧ stk S e = o :: stk S o ∧ ∃ c : Nat, b.need = c + d ∧ Seg S (o + 1) e c) ∨
       (s.op = 2 ∧ b.other = 0 ∧ b.before = 0 ∧ stk S e = stk S o ∧ ∃ c : Nat, b.need = c + d ∧ Seg S (o + 1) e c) ∨
       (s.op = 2 ∧ ∃ (x : Nat) (t : St), b.other = x ∧ o < x ∧ x < e ∧ S[x]? = some t ∧ t.op = 3 ∧ s.to = (x : Int) + 1 ∧ stk S x = stk S o ∧ stk S e = stk S o ∧
         (∃ c1 : Nat, b.before = (c1 : Int) + 1 ∧ Seg S (o + 1) x c1) ∧ ∃ c : Nat, b.need = c + d ∧ Seg S (x + 1) e c)) ∧
      Chain S 1 o (b' :: r))

theorem Chain.keep {S S2 : List St} : ∀ {bs : List Bk} {d e : Nat}, Chain S d e bs → (∀ k, k < e → S2[k]? = S[k]?) → Chain S2 d e bs
  | [], _, _, h, _ => h.elim
  | [b], d, e, ⟨h1, h2, c, h3, h4⟩, hk => ⟨h1, (stk_keep hk e (Nat.le_refl _)).trans h2, c, h3, h4.keep fun k _ hb => hk k hb⟩
  | b :: b' :: r, d, e, ⟨o, s, h1, h2, h3, h4, h5⟩, hk => by
    have ke := stk_keep hk e (Nat.le_refl _)
    have ko := stk_keep hk o (by omega)
    refine ⟨o, s, h1, h2, (hk o h2).trans h3, ?_, h5.keep fun k hb => hk k (by omega)⟩
    rcases h4 with ⟨a1, a2, a3, a4, c, a5, a6⟩ | ⟨a1, a2, a3, a4, c, a5, a6⟩ | ⟨a1, x, t, a2, a3, a4, a5, a6, a7, a8, a9, ⟨c1, b1, b2⟩, c, b3, b4⟩
    · exact Or.inl ⟨a1, a2, a3, by rw [ke, ko]; exact a4, c, a5, a6.keep fun k _ hb => hk k hb⟩
    · exact Or.inr (Or.inl ⟨a1, a2, a3, by rw [ke, ko]; exact a4, c, a5, a6.keep fun k _ hb => hk k hb⟩)
    · refine Or.inr (Or.inr ⟨a1, x, t, a2, a3, a4, (hk x a4).trans a5, a6, a7, ?_, by rw [ke, ko]; exact a9, ⟨c1, b1, b2.keep fun k _ hb => hk k (by omega)⟩, c, b3, b4.keep fun k _ hb => hk k hb⟩)
      rw [stk_keep hk x (by omega), ko]; exact a8

/-- the innermost block goes on to step e -/
theorem Chain.go {S S2 : List St} {d o : Nat} {b : Bk} {r : List Bk} (h : Chain S d o (b :: r)) (hk : ∀ k, k < o → S2[k]? = S[k]?) {e w d' : Nat} (hoe : o ≤ e) (hst : stk S2 e = stk S2 o)
    (hseg : ∀ a c, Seg S2 a o c → Seg S2 a e (c + w)) {need' : Int} (hn : need' + d = b.need + w + d') : Chain S2 d' e ({ b with need := need' } :: r) := by
  have h' := h.keep hk
  cases r with
  | nil =>
    obtain ⟨h1, h2, c, h3, h4⟩ := h'
    exact ⟨h1, hst.trans h2, c + w, by show need' = _; push_cast; omega, hseg _ _ h4⟩
  | cons b' r =>
    obtain ⟨o', s, h1, h2, h3, h4, h5⟩ := h'
    refine ⟨o', s, h1, by omega, h3, ?_, h5⟩
    rcases h4 with ⟨a1, a2, a3, a4, c, a5, a6⟩ | ⟨a1, a2, a3, a4, c, a5, a6⟩ | ⟨a1, x, t, a2, a3, a4, a5, a6, a7, a8, a9, b1, c, b3, b4⟩
    · exact Or.inl ⟨a1, a2, a3, hst.trans a4, c + w, by show need' = _; push_cast; omega, hseg _ _ a6⟩
    · exact Or.inr (Or.inl ⟨a1, a2, a3, hst.trans a4, c + w, by show need' = _; push_cast; omega, hseg _ _ a6⟩)
    · exact Or.inr (Or.inr ⟨a1, x, t, a2, a3, by omega, a5, a6, a7, a8, hst.trans a9, b1, c + w, by show need' = _; push_cast; omega, hseg _ _ b4⟩)

/-- the step of a block that leads nowhere yet -/
def pend (b : Bk) : Int := if 0 < b.other then b.other else b.opener

def opens : List Bk → List Int
  | [] => []
  | [_] => []
  | b :: b' :: r => pend b :: opens (b' :: r)

theorem opens_need (b : Bk) (r : List Bk) (x : Int) : opens ({ b with need := x } :: r) = opens (b :: r) := by
  cases r <;> rfl

theorem Chain.opens_lt {S : List St} : ∀ {bs : List Bk} {d e : Nat}, Chain S d e bs → ∀ x ∈ opens bs, 0 ≤ x ∧ x < e
  | [], _, _, h => h.elim
  | [b], d, e, _ => fun x hx => by cases hx
  | b :: b' :: r, d, e, ⟨o, s, h1, h2, h3, h4, h5⟩ => fun x hx => by
    rcases List.mem_cons.1 hx with rfl | hx
    · rcases h4 with ⟨a1, a2, _⟩ | ⟨a1, a2, _⟩ | ⟨a1, x, t, a2, a3, a4, _⟩
      · unfold pend; rw [if_neg (by omega)]; omega
      · unfold pend; rw [if_neg (by omega)]; omega
      · unfold pend; rw [if_pos (by omega)]; omega
    · have := h5.opens_lt x hx
      omega

/-- the slots of a step are such as there are -/
structure Base (n : Nat) (s : St) : Prop where
  op : 0 ≤ s.op ∧ s.op ≤ 36
  ifs : s.op = 2 → St.slot n s.a
  loops : s.op = 4 → St.slot n s.b ∧ St.slot n s.c ∧ 0 ≤ s.depth ∧ s.depth < 8
  skips : s.op = 5 → St.slot n s.a
  pushes : s.op = 36 → St.slot n s.a ∧ St.slot n s.b
  works : ¬ s.op = 1 → ¬ s.op = 2 → ¬ s.op = 3 → ¬ s.op = 4 → ¬ s.op = 5 → ¬ s.op = 0 → ¬ s.op = 36 → s.worksIn n

theorem slot_more {n m : Nat} (h : n ≤ m) {x : Int} (hx : St.slot n x) : St.slot m x := ⟨hx.1, by have := hx.2; omega⟩

theorem Base.more {n m : Nat} (h : n ≤ m) {s : St} (hb : Base n s) : Base m s := by
  refine ⟨hb.op, fun e => slot_more h (hb.ifs e), fun e => ⟨slot_more h (hb.loops e).1, slot_more h (hb.loops e).2.1, (hb.loops e).2.2⟩, fun e => slot_more h (hb.skips e), fun e => ⟨slot_more h (hb.pushes e).1, slot_more h (hb.pushes e).2⟩, fun a b c d e f g => ?_⟩
  obtain ⟨w1, w2, w3⟩ := hb.works a b c d e f g
  refine ⟨w1, slot_more h w2, ?_⟩
  rcases w3 with w3 | w3 | ⟨w3, w4⟩
  · exact Or.inl w3
  · exact Or.inr (Or.inl w3)
  · refine Or.inr (Or.inr ⟨slot_more h w3, ?_⟩)
    rcases w4 with w4 | ⟨w4, w5⟩
    · exact Or.inl w4
    · exact Or.inr ⟨slot_more h w4, fun e => slot_more h (w5 e)⟩

/-- a step that leads on leads to one that there is or that is next -/
def Closed (S : List St) (k : Nat) (s : St) : Prop := (s.op = 2 ∨ s.op = 3 ∨ s.op = 4) → 0 ≤ s.to ∧ k < s.to.toNat ∧ s.to ≤ S.length ∧ stk S s.to.toNat = stk S k

structure Back (S : List St) (k : Nat) (s : St) : Prop where
  depth : s.op = 4 → s.depth = (stk S k).length
  back : (s.op = 0 ∨ s.op = 5) → 0 ≤ s.to ∧ (stk S k).head? = some s.to.toNat

/-- what the loader keeps from instruction to instruction -/
structure Inv (l : Ls) : Prop where
  chain : Chain l.steps 0 l.steps.length l.blocks.reverse
  loops : l.loops = (stk l.steps l.steps.length).reverse.map Int.ofNat
  eight : l.loops.length ≤ 8
  each : ∀ (k : Nat) (s : St), l.steps[k]? = some s → Base l.slots.toNat s ∧ Back l.steps k s ∧ ((k : Int) ∉ opens l.blocks.reverse → Closed l.steps k s)
  bound : ∀ b ∈ l.blocks, 0 ≤ b.need ∧ b.need ≤ 40000040 ∧ 0 ≤ b.before ∧ b.before ≤ 40000040
  slots : 8 ≤ l.slots ∧ l.slots ≤ 2008
  bad : l.bad = false
end Go.Proofs.YthllhabjfchgiaaGreatDoor.Hx

/- PLAIN LAWS: each instruction keeps what the loader keeps. -/
namespace Go.Proofs.YthllhabjfchgiaaGreatDoor.Hx
open Go.RowKit


theorem count_eq {l : Ls} {init : List Bk} {b : Bk} (h : l.blocks = init ++ [b]) (more : Int) :
    l.count more = { l with blocks := init ++ [{ b with need := wrap64 (b.need + more) }], bad := l.bad || decide (40000040 < wrap64 (b.need + more)) } := by
  simp [Ls.count, Ls.top, h]

theorem add_eq {l : Ls} {init : List Bk} {b : Bk} (h : l.blocks = init ++ [b]) (st : St) :
    addStep l st = { l with steps := l.steps ++ [st], blocks := init ++ [{ b with need := wrap64 (b.need + 1) }], bad := l.bad || decide (40000040 < wrap64 (b.need + 1)) } := by
  unfold addStep
  rw [count_eq (l := { l with steps := l.steps ++ [st] }) h]

theorem top_eq {l : Ls} {init : List Bk} {b : Bk} (h : l.blocks = init ++ [b]) : l.top = b := by simp [Ls.top, h]

theorem wrap_small {x : Int} (h0 : 0 ≤ x) (h1 : x ≤ 9000000000) : wrap64 x = x := by unfold wrap64; omega

theorem Inv.split {l : Ls} (h : Inv l) : ∃ init b, l.blocks = init ++ [b] := by
  have hc := h.chain
  rcases List.eq_nil_or_concat l.blocks with e | ⟨init, b, e⟩
  · rw [e] at hc; exact hc.elim
  · exact ⟨init, b, by rw [e, List.concat_eq_append]⟩

theorem stk_append (S : List St) (st : St) : ∀ j, j ≤ S.length → stk (S ++ [st]) j = stk S j :=
  stk_keep fun _ hk => List.getElem?_append_left hk

theorem stk_next (S : List St) (st : St) (h4 : ¬ st.op = 4) (h0 : ¬ st.op = 0) : stk (S ++ [st]) (S.length + 1) = stk S S.length := by
  simp only [stk, List.getElem?_concat_length, if_neg h4, if_neg h0, stk_append S st _ (Nat.le_refl _)]

theorem Closed.append {S : List St} {k : Nat} {s : St} (h : Closed S k s) (hk : k < S.length) (t : St) : Closed (S ++ [t]) k s := fun ho => by
  obtain ⟨h0, h1, h2, h3⟩ := h ho
  refine ⟨h0, h1, by simp; omega, ?_⟩
  rw [stk_append S t _ (by omega), stk_append S t _ (by omega)]
  exact h3

theorem Back.append {S : List St} {k : Nat} {s : St} (h : Back S k s) (hk : k ≤ S.length) (t : St) : Back (S ++ [t]) k s := by
  have e := stk_append S t k hk
  exact ⟨fun ho => by rw [e]; exact h.depth ho, fun ho => by rw [e]; exact h.back ho⟩

theorem Closed.setTo {S : List St} {k : Nat} {s : St} (h : Closed S k s) {p : Nat} {sp : St} (hp : S[p]? = some sp) (x : Int) : Closed (S.set p { sp with to := x }) k s := fun ho => by
  obtain ⟨h0, h1, h2, h3⟩ := h ho
  exact ⟨h0, h1, by simpa using h2, by rw [stk_set hp, stk_set hp]; exact h3⟩

theorem Back.setTo {S : List St} {k : Nat} {s : St} (h : Back S k s) {p : Nat} {sp : St} (hp : S[p]? = some sp) (x : Int) : Back (S.set p { sp with to := x }) k s :=
  ⟨fun ho => by rw [stk_set hp]; exact h.depth ho, fun ho => by rw [stk_set hp]; exact h.back ho⟩

theorem base_to {n : Nat} {s : St} (h : Base n s) (x : Int) : Base n { s with to := x } := ⟨h.op, h.ifs, h.loops, h.skips, h.pushes, h.works⟩

theorem base_depth {n : Nat} {s : St} (h : Base n s) (x : Int) (h0 : 0 ≤ x) (h1 : x < 8) : Base n { s with depth := x } := ⟨h.op, h.ifs, fun e => ⟨(h.loops e).1, (h.loops e).2.1, h0, h1⟩, h.skips, h.pushes, h.works⟩

theorem get_lt {S : List St} {k : Nat} {s : St} (h : S[k]? = some s) : k < S.length := by
  rcases Nat.lt_or_ge k S.length with h' | h'
  · exact h'
  · rw [List.getElem?_eq_none h'] at h; cases h

/-- a step more, of the steps that there are one -/
theorem get_append {S : List St} {t : St} {k : Nat} {s : St} (h : (S ++ [t])[k]? = some s) : (k < S.length ∧ S[k]? = some s) ∨ (k = S.length ∧ s = t) := by
  have hlt := get_lt h
  rw [List.length_append, List.length_singleton] at hlt
  by_cases hk : k < S.length
  · rw [List.getElem?_append_left hk] at h
    exact Or.inl ⟨hk, h⟩
  · have : k = S.length := by omega
    subst this
    rw [List.getElem?_concat_length] at h
    exact Or.inr ⟨rfl, (Option.some.inj h).symm⟩

variable {l : Ls}

/-- a plain step -/
theorem inv_add (h : Inv l) (st : St) (hb : Base l.slots.toNat st) (h0 : ¬ st.op = 0) (h2 : ¬ st.op = 2) (h3 : ¬ st.op = 3) (h4 : ¬ st.op = 4) (hback : st.op = 5 → 0 ≤ st.to ∧ (stk l.steps l.steps.length).head? = some st.to.toNat) (hg : (addStep l st).bad = false) : Inv (addStep l st) := by
  obtain ⟨init, b, e⟩ := h.split
  have hbd := h.bound b (by rw [e]; simp)
  rw [add_eq e] at hg ⊢
  rw [wrap_small (by omega) (by omega)] at hg ⊢
  simp only [h.bad, Bool.false_or, decide_eq_false_iff_not] at hg
  have hc := h.chain
  rw [e] at hc
  simp only [List.reverse_append, List.reverse_cons, List.reverse_nil, List.nil_append, List.singleton_append] at hc
  refine ⟨?_, ?_, h.eight, ?_, ?_, h.slots, by simp [h.bad]; omega⟩
  · simp only [List.reverse_append, List.reverse_cons, List.reverse_nil, List.nil_append, List.singleton_append, List.length_append, List.length_cons, List.length_nil]
    refine hc.go (w := 1) (fun k hk => List.getElem?_append_left hk) (by omega) ?_ ?_ (by omega)
    · rw [stk_next _ _ h4 h0, stk_append _ _ _ (Nat.le_refl _)]
    · exact fun a c hs => hs.step (List.getElem?_concat_length ..) h2 h3 h4
  · simp only [List.length_append, List.length_cons, List.length_nil]
    rw [stk_next _ _ h4 h0]; exact h.loops
  · intro k s hk
    rcases get_append hk with ⟨hk, hks⟩ | ⟨rfl, rfl⟩
    · obtain ⟨g1, g2, g3⟩ := h.each k s hks
      refine ⟨g1, g2.append (by omega) st, fun hn => (g3 ?_).append hk st⟩
      rw [e]
      simp only [List.reverse_append, List.reverse_cons, List.reverse_nil, List.nil_append, List.singleton_append] at hn ⊢
      rwa [opens_need] at hn
    · refine ⟨hb, ⟨fun ho => absurd ho h4, fun ho => ?_⟩, fun _ ho => by omega⟩
      rw [stk_append _ _ _ (Nat.le_refl _)]
      exact hback (ho.resolve_left h0)
  · intro x hx
    rcases List.mem_append.1 hx with hx | hx
    · exact h.bound x (by rw [e]; exact List.mem_append_left _ hx)
    · rw [List.mem_singleton] at hx
      subst hx
      exact ⟨by show 0 ≤ b.need + 1; omega, by show b.need + 1 ≤ _; omega, hbd.2.2⟩

/-- a block more -/
theorem inv_open (h : Inv l) (st : St) (hb : Base l.slots.toNat st) (ho : st.op = 2 ∨ st.op = 4) (hd : st.op = 4 → st.depth = l.loops.length) (lo : List Int) (hlo : lo = if st.op = 4 then l.loops ++ [(l.steps.length : Int)] else l.loops) (h8 : lo.length ≤ 8)
    (hg : (openStep l st).bad = false) : Inv { openStep l st with loops := lo } := by
  obtain ⟨init, b, e⟩ := h.split
  have hbd := h.bound b (by rw [e]; simp)
  unfold openStep at hg ⊢
  rw [add_eq e] at hg ⊢
  rw [wrap_small (by omega) (by omega)] at hg ⊢
  simp only [h.bad, Bool.false_or, decide_eq_false_iff_not] at hg
  have hc := h.chain
  rw [e] at hc
  simp only [List.reverse_append, List.reverse_cons, List.reverse_nil, List.nil_append, List.singleton_append] at hc
  have ha := stk_append l.steps st _ (Nat.le_refl l.steps.length)
  have hgn : (l.steps ++ [st])[l.steps.length]? = some st := List.getElem?_concat_length ..
  have hout : Chain (l.steps ++ [st]) 1 l.steps.length ({ b with need := b.need + 1 } :: init.reverse) :=
    hc.go (w := 0) (fun k hk => List.getElem?_append_left hk) (Nat.le_refl _) rfl (fun a c hs => hs) (by omega)
  refine ⟨?_, ?_, h8, ?_, ?_, h.slots, by simp [h.bad]; omega⟩
  · simp only [List.reverse_append, List.reverse_cons, List.reverse_nil, List.nil_append, List.length_append, List.length_cons, List.length_nil, List.cons_append]
    refine ⟨l.steps.length, st, rfl, by omega, hgn, ?_, hout⟩
    rcases ho with ho | ho
    · refine Or.inr (Or.inl ⟨ho, rfl, rfl, ?_, 0, rfl, Seg.nil _ _⟩)
      rw [stk_next _ _ (by omega) (by omega), ha]
    · refine Or.inl ⟨ho, rfl, rfl, ?_, 0, rfl, Seg.nil _ _⟩
      simp only [stk, hgn, if_pos ho]
  · simp only [List.length_append, List.length_cons, List.length_nil]
    rw [hlo]
    rcases ho with ho | ho
    · rw [if_neg (by omega), stk_next _ _ (by omega) (by omega)]; exact h.loops
    · rw [if_pos ho]
      simp only [stk, hgn, if_pos ho, ha, List.reverse_cons, List.map_append, ← h.loops]
      rfl
  · intro k s hk
    rcases get_append hk with ⟨hk, hks⟩ | ⟨rfl, rfl⟩
    · obtain ⟨g1, g2, g3⟩ := h.each k s hks
      refine ⟨g1, g2.append (by omega) st, fun hn => (g3 ?_).append hk st⟩
      rw [e]
      simp only [List.reverse_append, List.reverse_cons, List.reverse_nil, List.nil_append, List.cons_append] at hn ⊢
      simp only [opens, opens_need] at hn
      exact fun hm => hn (List.mem_cons_of_mem _ hm)
    · refine ⟨hb, ⟨fun h4 => ?_, fun h0 => by omega⟩, fun hn => ?_⟩
      · rw [hd h4, ha, h.loops]; simp
      · simp only [List.reverse_append, List.reverse_cons, List.reverse_nil, List.nil_append, List.cons_append, opens] at hn
        exact absurd (by simp [pend]) hn
  · intro x hx
    rcases List.mem_append.1 hx with hx | hx
    · rcases List.mem_append.1 hx with hx | hx
      · exact h.bound x (by rw [e]; exact List.mem_append_left _ hx)
      · rw [List.mem_singleton] at hx
        subst hx
        exact ⟨by show 0 ≤ b.need + 1; omega, by show b.need + 1 ≤ _; omega, hbd.2.2⟩
    · rw [List.mem_singleton] at hx
      subst hx
      exact ⟨by simp, by simp, by simp, by simp⟩
end Go.Proofs.YthllhabjfchgiaaGreatDoor.Hx

/- PLAIN LAWS: blocks that end. -/
namespace Go.Proofs.YthllhabjfchgiaaGreatDoor.Hx
open Go.RowKit

/-- two blocks at least -/
theorem Inv.split2 {l : Ls} (h : Inv l) (h2 : ¬ l.blocks.length = 1) : ∃ init bo b, l.blocks = init ++ [bo] ++ [b] := by
  obtain ⟨i1, b, e⟩ := h.split
  rcases List.eq_nil_or_concat i1 with e1 | ⟨init, bo, e1⟩
  · subst e1; rw [e] at h2; simp at h2
  · exact ⟨init, bo, b, by rw [e, e1, List.concat_eq_append]⟩

theorem rev2 (init : List Bk) (bo b : Bk) : (init ++ [bo] ++ [b]).reverse = b :: bo :: init.reverse := by simp
theorem rev1 (init : List Bk) (b : Bk) : (init ++ [b]).reverse = b :: init.reverse := by simp

/-- steps with a step's goal set, and one of them -/
theorem get_set {S : List St} {p : Nat} {sp : St} (hp : S[p]? = some sp) {x : Int} {k : Nat} {s : St} (h : (S.set p { sp with to := x })[k]? = some s) :
    (k = p ∧ s = { sp with to := x }) ∨ (k ≠ p ∧ S[k]? = some s) := by
  by_cases hk : p = k
  · subst hk
    rw [List.getElem?_set_self (get_lt hp)] at h
    exact Or.inl ⟨rfl, (Option.some.inj h).symm⟩
  · rw [List.getElem?_set_ne hk] at h
    exact Or.inr ⟨fun e => hk e.symm, h⟩

variable {l : Ls}

/-- the end of an if, by what passes over its last part -/
theorem inv_endIf (h : Inv l) (init : List Bk) (bo b : Bk) (e : l.blocks = init ++ [bo] ++ [b]) (o p : Nat) (so sp : St) (ho : b.opener = o) (hso : l.steps[o]? = some so) (hop : ¬ so.op = 4) (hp : l.steps[p]? = some sp) (hpe : pend b = p)
    (hg : (endIfAt l p sp (init ++ [bo]) b).bad = false) : Inv (endIfAt l p sp (init ++ [bo]) b) := by
  have hbd := h.bound b (by rw [e]; simp)
  have hbo := h.bound bo (by rw [e]; simp)
  have hc := h.chain
  rw [e, rev2] at hc
  obtain ⟨o', s', c1, c2, c3, c4, c5⟩ := hc
  have : o' = o := by omega
  subst this
  rw [hso] at c3
  cases c3
  unfold endIfAt at hg ⊢
  have hcount := count_eq (l := { l with steps := l.steps.set p { sp with to := l.steps.length }, blocks := init ++ [bo] }) (init := init) (b := bo) rfl (max b.need b.before)
  rw [hcount] at hg ⊢
  have hmx : 0 ≤ max b.need b.before ∧ max b.need b.before ≤ 40000040 := by omega
  rw [wrap_small (by omega) (by omega)] at hg ⊢
  simp only [h.bad, Bool.false_or, decide_eq_false_iff_not] at hg
  have hpl := get_lt hp
  have hst := stk_set hp (l.steps.length : Int)
  have hself : (l.steps.set p { sp with to := (l.steps.length : Int) })[p]? = some { sp with to := (l.steps.length : Int) } := List.getElem?_set_self hpl
  have hne : ∀ k, k ≠ p → (l.steps.set p { sp with to := (l.steps.length : Int) })[k]? = l.steps[k]? := fun k hk => List.getElem?_set_ne (fun e => hk e.symm)
  have hop0 : o' ≤ p ∧ (sp.op = 2 ∨ sp.op = 3) ∧ stk l.steps l.steps.length = stk l.steps p ∧ stk l.steps l.steps.length = stk l.steps o' := by
    rcases c4 with ⟨a1, _⟩ | ⟨a1, a2, a3, a4, c, a5, a6⟩ | ⟨a1, x, t, a2, a3, a4, a5, a6, a7, a8, a9, ⟨cc, b1, b2⟩, c, b3, b4⟩
    · exact absurd a1 hop
    · have : p = o' := by unfold pend at hpe; rw [if_neg (by omega)] at hpe; omega
      subst this
      rw [hso] at hp; cases hp
      exact ⟨Nat.le_refl _, Or.inl a1, a4, a4⟩
    · have : p = x := by unfold pend at hpe; rw [if_pos (by omega)] at hpe; omega
      subst this
      rw [a5] at hp; cases hp
      exact ⟨by omega, Or.inr a6, a9.trans a8.symm, a9⟩
  obtain ⟨hop1, hop2, hop3, hop4⟩ := hop0
  refine ⟨?_, ?_, h.eight, ?_, ?_, h.slots, by simp [h.bad]; omega⟩
  · rw [rev1]
    simp only [List.length_set]
    have hlow : ∀ k, k < o' → (l.steps.set p { sp with to := (l.steps.length : Int) })[k]? = l.steps[k]? := fun k hk => hne k (by omega)
    rcases c4 with ⟨a1, _⟩ | ⟨a1, a2, a3, a4, c, a5, a6⟩ | ⟨a1, x, t, a2, a3, a4, a5, a6, a7, a8, a9, ⟨cc, b1, b2⟩, c, b3, b4⟩
    · exact absurd a1 hop
    · have : p = o' := by unfold pend at hpe; rw [if_neg (by omega)] at hpe; omega
      subst this
      rw [hso] at hp; cases hp
      refine c5.go (w := 1 + c) hlow (by omega) (by rw [hst, hst]; exact a4) (fun a cc hs => hs.ifOnly hself a1 rfl (a6.keep fun k hk _ => hne k (by omega))) ?_
      rw [a3]
      omega
    · have : p = x := by unfold pend at hpe; rw [if_pos (by omega)] at hpe; omega
      subst this
      refine c5.go (w := 1 + max (cc + 1) c) hlow (by omega) (by rw [hst, hst]; exact a9) (fun a c' hs => hs.ifElse ((hne o' (by omega)).trans hso) a1 a7 (b2.keep fun k hk _ => hne k (by omega)) hself (by rw [a5] at hp; cases hp; exact a6) rfl (b4.keep fun k hk _ => hne k (by omega))) ?_
      rw [b1, b3]
      omega
  · simp only [List.length_set]
    rw [hst]; exact h.loops
  · intro k s hk
    have hcl : Closed (l.steps.set p { sp with to := (l.steps.length : Int) }) p { sp with to := (l.steps.length : Int) } := fun _ => by
      refine ⟨by show (0 : Int) ≤ l.steps.length; omega, by show p < ((l.steps.length : Int)).toNat; omega, by simp, ?_⟩
      rw [hst, hst]
      show stk l.steps ((l.steps.length : Int)).toNat = _
      rw [Int.toNat_natCast]
      exact hop3
    rcases get_set hp hk with ⟨rfl, rfl⟩ | ⟨hkp, hks⟩
    · obtain ⟨g1, g2, g3⟩ := h.each k sp hp
      have g2' := g2.setTo hp (l.steps.length : Int)
      refine ⟨base_to g1 _, ⟨fun h4 => by have : sp.op = 4 := h4; omega, fun h0 => by have : sp.op = 0 ∨ sp.op = 5 := h0; omega⟩, fun _ => hcl⟩
    · obtain ⟨g1, g2, g3⟩ := h.each k s hks
      refine ⟨g1, g2.setTo hp _, fun hn => (g3 ?_).setTo hp _⟩
      rw [e, rev2]
      rw [rev1, opens_need] at hn
      simp only [opens, hpe]
      exact fun hm => (List.mem_cons.1 hm).elim (fun e => hkp (by omega)) hn
  · intro x hx
    rcases List.mem_append.1 hx with hx | hx
    · exact h.bound x (by rw [e]; simp [hx])
    · rw [List.mem_singleton] at hx
      subst hx
      exact ⟨by show 0 ≤ bo.need + _; omega, by show bo.need + _ ≤ _; omega, hbo.2.2⟩

/-- the end of a loop -/
theorem inv_endLoop (h : Inv l) (init : List Bk) (bo b : Bk) (e : l.blocks = init ++ [bo] ++ [b]) (o : Nat) (so st : St) (ho : b.opener = o) (hso : l.steps[o]? = some so) (hop : so.op = 4) (hs0 : st.op = 0) (hb : Base l.slots.toNat st)
    (hg : (endLoopAt l st o so).bad = false) : Inv (endLoopAt l st o so) := by
  have hbd := h.bound b (by rw [e]; simp)
  have hbo := h.bound bo (by rw [e]; simp)
  have hc := h.chain
  rw [e, rev2] at hc
  obtain ⟨o', s', c1, c2, c3, c4, c5⟩ := hc
  have : o' = o := by omega
  subst this
  rw [hso] at c3
  cases c3
  rcases c4 with ⟨a1, a2, a3, a4, c, a5, a6⟩ | ⟨a1, _⟩ | ⟨a1, _⟩
  rotate_left
  · omega
  · omega
  unfold endLoopAt endLoopOf at hg ⊢
  have hadd := add_eq e { st with to := o' }
  rw [hadd] at hg ⊢
  rw [wrap_small (x := b.need + 1) (by omega) (by omega)] at hg ⊢
  have hn1 : (listSize so.a).toNat = listSize so.a := by unfold listSize; split <;> rfl
  have hls : listSize so.a = 8 ∨ listSize so.a = 16 := by unfold listSize; split <;> simp
  have htop : Ls.top { l with steps := l.steps ++ [{ st with to := (o' : Int) }], blocks := init ++ [bo] ++ [{ b with need := b.need + 1 }], bad := l.bad || decide (40000040 < b.need + 1) } = { b with need := b.need + 1 } := by simp [Ls.top]
  rw [htop] at hg ⊢
  simp only [List.dropLast_concat] at hg ⊢
  have hcount := count_eq (l := { l with steps := (l.steps ++ [{ st with to := (o' : Int) }]).set o' { so with to := ((l.steps ++ [{ st with to := (o' : Int) }]).length : Int) }, blocks := init ++ [bo], loops := l.loops.dropLast, bad := l.bad || decide (40000040 < b.need + 1) }) (init := init) (b := bo) rfl (wrap64 (listSize so.a * (b.need + 1)))
  have hmul : 0 ≤ listSize so.a * (b.need + 1) ∧ listSize so.a * (b.need + 1) ≤ 1000000000 := by
    rcases hls with h' | h' <;> rw [h'] <;> omega
  rw [hcount] at hg ⊢
  rw [wrap_small (x := listSize so.a * (b.need + 1)) (by omega) (by omega)] at hg ⊢
  rw [wrap_small (x := bo.need + _) (by omega) (by omega)] at hg ⊢
  simp only [h.bad, Bool.false_or, Bool.or_eq_false_iff, decide_eq_false_iff_not] at hg
  obtain ⟨hg1, hg2⟩ := hg
  have hol := get_lt hso
  have hlen : (l.steps ++ [{ st with to := (o' : Int) }]).length = l.steps.length + 1 := by simp
  have hoA : (l.steps ++ [{ st with to := (o' : Int) }])[o']? = some so := by rw [List.getElem?_append_left hol]; exact hso
  have hst := stk_set hoA ((l.steps ++ [{ st with to := (o' : Int) }]).length : Int)
  have hap := stk_append l.steps { st with to := (o' : Int) }
  have hself : ((l.steps ++ [{ st with to := (o' : Int) }]).set o' { so with to := ((l.steps ++ [{ st with to := (o' : Int) }]).length : Int) })[o']? = some { so with to := ((l.steps ++ [{ st with to := (o' : Int) }]).length : Int) } := List.getElem?_set_self (by omega)
  have hne : ∀ k, k ≠ o' → k < l.steps.length → ((l.steps ++ [{ st with to := (o' : Int) }]).set o' { so with to := ((l.steps ++ [{ st with to := (o' : Int) }]).length : Int) })[k]? = l.steps[k]? := fun k hk hl => by
    rw [List.getElem?_set_ne (fun e => hk e.symm), List.getElem?_append_left hl]
  have hlast : ((l.steps ++ [{ st with to := (o' : Int) }]).set o' { so with to := ((l.steps ++ [{ st with to := (o' : Int) }]).length : Int) })[l.steps.length]? = some { st with to := (o' : Int) } := by
    rw [List.getElem?_set_ne (by omega), List.getElem?_concat_length]
  have hnext : stk (l.steps ++ [{ st with to := (o' : Int) }]) (l.steps.length + 1) = stk l.steps o' := by
    simp only [stk, List.getElem?_concat_length, hap _ (Nat.le_refl _), a4, if_pos hs0, List.tail_cons]
    rw [if_neg (by omega)]
  refine ⟨?_, ?_, ?_, ?_, ?_, h.slots, by simp [h.bad]; omega⟩
  · rw [rev1]
    simp only [List.length_set, hlen] at hself hlast hne ⊢
    refine c5.go (w := 1 + (listSize so.a).toNat * (c + 1)) (fun k hk => hne k (by omega) (by omega)) (by omega) ?_ (fun a c' hs => Seg.loop (s := { so with to := ((l.steps.length + 1 : Nat) : Int) }) hs hself hop (by show ((l.steps.length + 1 : Nat) : Int) = _; omega) (a6.keep fun k hk hk2 => hne k (by omega) hk2) hlast hs0) ?_
    · rw [hlen] at hst
      rw [hst, hst, hnext, hap o' (by omega)]
    · have a5' : b.need = c := by omega
      rw [a5']
      push_cast
      rw [hn1]
      omega
  · simp only [List.length_set, hlen] at hst ⊢
    rw [hst, hnext, h.loops, a4]
    simp
  · have := h.eight
    simp only [List.length_dropLast]
    omega
  · intro k s hk
    have hcl : Closed ((l.steps ++ [{ st with to := (o' : Int) }]).set o' { so with to := ((l.steps ++ [{ st with to := (o' : Int) }]).length : Int) }) o' { so with to := ((l.steps ++ [{ st with to := (o' : Int) }]).length : Int) } := fun _ => by
      refine ⟨by show (0 : Int) ≤ ((l.steps ++ [{ st with to := (o' : Int) }]).length : Int); omega, by show o' < ((l.steps ++ [{ st with to := (o' : Int) }]).length : Int).toNat; omega, by simp, ?_⟩
      rw [hst, hst]
      show stk _ ((l.steps ++ [{ st with to := (o' : Int) }]).length : Int).toNat = _
      rw [Int.toNat_natCast, hlen, hnext, hap o' (by omega)]
    rcases get_set hoA hk with ⟨rfl, rfl⟩ | ⟨hkp, hks⟩
    · obtain ⟨g1, g2, g3⟩ := h.each k so hso
      have g2' := (g2.append (by omega) { st with to := (k : Int) }).setTo hoA ((l.steps ++ [{ st with to := (k : Int) }]).length : Int)
      exact ⟨base_to g1 _, ⟨g2'.depth, fun h0 => by have : so.op = 0 ∨ so.op = 5 := h0; omega⟩, fun _ => hcl⟩
    · rcases get_append hks with ⟨hkl, hks⟩ | ⟨rfl, rfl⟩
      · obtain ⟨g1, g2, g3⟩ := h.each k s hks
        refine ⟨g1, (g2.append (by omega) _).setTo hoA _, fun hn => ((g3 ?_).append hkl _).setTo hoA _⟩
        rw [e, rev2]
        rw [rev1, opens_need] at hn
        simp only [opens, pend, a2, c1]
        exact fun hm => (List.mem_cons.1 hm).elim (fun e => hkp (by simp at e; omega)) hn
      · refine ⟨base_to hb _, ⟨fun h4 => by have : st.op = 4 := h4; omega, fun _ => ⟨by show (0 : Int) ≤ o'; omega, ?_⟩⟩, fun _ ho => by have : st.op = 2 ∨ st.op = 3 ∨ st.op = 4 := ho; omega⟩
        rw [hst, hap _ (Nat.le_refl _), a4]
        simp
  · intro x hx
    rcases List.mem_append.1 hx with hx | hx
    · exact h.bound x (by rw [e]; simp [hx])
    · rw [List.mem_singleton] at hx
      subst hx
      exact ⟨by show 0 ≤ bo.need + _; omega, by show bo.need + _ ≤ _; omega, hbo.2.2⟩
end Go.Proofs.YthllhabjfchgiaaGreatDoor.Hx

/- PLAIN LAWS: code that was looked over is sound. -/
namespace Go.Proofs.YthllhabjfchgiaaGreatDoor.Hx
open Go.RowKit
variable {l : Ls}

/-- the other part of an if -/
theorem inv_divide (h : Inv l) (init : List Bk) (bo b : Bk) (e : l.blocks = init ++ [bo] ++ [b]) (o : Nat) (so st : St) (ho : b.opener = o) (hso : l.steps[o]? = some so) (hop : so.op = 2) (hot : ¬ 0 < b.other) (hs3 : st.op = 3) (hb : Base l.slots.toNat st)
    (hg : (divideAt l st o so).bad = false) : Inv (divideAt l st o so) := by
  have hbd := h.bound b (by rw [e]; simp)
  have hc := h.chain
  rw [e, rev2] at hc
  obtain ⟨o', s', c1, c2, c3, c4, c5⟩ := hc
  have : o' = o := by omega
  subst this
  rw [hso] at c3
  cases c3
  rcases c4 with ⟨a1, _⟩ | ⟨a1, a2, a3, a4, c, a5, a6⟩ | ⟨a1, x, t, a2, a3, _⟩
  · omega
  rotate_left
  · omega
  unfold divideAt divideOf at hg ⊢
  rw [add_eq e st] at hg ⊢
  rw [wrap_small (x := b.need + 1) (by omega) (by omega)] at hg ⊢
  have htop : Ls.top { l with steps := l.steps ++ [st], blocks := init ++ [bo] ++ [{ b with need := b.need + 1 }], bad := l.bad || decide (40000040 < b.need + 1) } = { b with need := b.need + 1 } := by simp [Ls.top]
  rw [htop] at hg ⊢
  simp only [List.dropLast_concat] at hg ⊢
  simp only [h.bad, Bool.false_or, decide_eq_false_iff_not] at hg
  have hol := get_lt hso
  have hlen : (l.steps ++ [st]).length = l.steps.length + 1 := by simp
  have hoA : (l.steps ++ [st])[o']? = some so := by rw [List.getElem?_append_left hol]; exact hso
  have hst := stk_set hoA ((l.steps ++ [st]).length : Int)
  have hap := stk_append l.steps st
  have hself : ((l.steps ++ [st]).set o' { so with to := ((l.steps ++ [st]).length : Int) })[o']? = some { so with to := ((l.steps ++ [st]).length : Int) } := List.getElem?_set_self (by omega)
  have hne : ∀ k, k ≠ o' → k < l.steps.length → ((l.steps ++ [st]).set o' { so with to := ((l.steps ++ [st]).length : Int) })[k]? = l.steps[k]? := fun k hk hl => by
    rw [List.getElem?_set_ne (fun e => hk e.symm), List.getElem?_append_left hl]
  have hlast : ((l.steps ++ [st]).set o' { so with to := ((l.steps ++ [st]).length : Int) })[l.steps.length]? = some st := by
    rw [List.getElem?_set_ne (by omega), List.getElem?_concat_length]
  have hnext : stk (l.steps ++ [st]) (l.steps.length + 1) = stk l.steps l.steps.length := stk_next _ _ (by omega) (by omega)
  refine ⟨?_, ?_, h.eight, ?_, ?_, h.slots, by simp [h.bad]; omega⟩
  · rw [rev2]
    simp only [List.length_set, hlen] at hself hlast hne hst ⊢
    refine ⟨o', { so with to := ((l.steps.length + 1 : Nat) : Int) }, ho, by omega, hself, Or.inr (Or.inr ⟨hop, l.steps.length, st, rfl, by omega, by omega, hlast, hs3, by show ((l.steps.length + 1 : Nat) : Int) = _; omega, ?_, ?_, ⟨c, ?_, a6.keep fun k hk hk2 => hne k (by omega) hk2⟩, 0, rfl, Seg.nil _ _⟩), c5.keep fun k hk => hne k (by omega) (by omega)⟩
    · rw [hst, hst, hap _ (Nat.le_refl _), hap o' (by omega)]; exact a4
    · rw [hst, hst, hnext, hap o' (by omega)]; exact a4
    · show b.need + 1 = _
      omega
  · simp only [List.length_set, hlen] at hst ⊢
    rw [hst, hnext]; exact h.loops
  · intro k s hk
    have hcl : Closed ((l.steps ++ [st]).set o' { so with to := ((l.steps ++ [st]).length : Int) }) o' { so with to := ((l.steps ++ [st]).length : Int) } := fun _ => by
      refine ⟨by show (0 : Int) ≤ ((l.steps ++ [st]).length : Int); omega, by show o' < ((l.steps ++ [st]).length : Int).toNat; omega, by simp, ?_⟩
      rw [hst, hst]
      show stk _ ((l.steps ++ [st]).length : Int).toNat = _
      rw [Int.toNat_natCast, hlen, hnext, hap o' (by omega)]
      exact a4
    rcases get_set hoA hk with ⟨rfl, rfl⟩ | ⟨hkp, hks⟩
    · obtain ⟨g1, g2, g3⟩ := h.each k so hso
      exact ⟨base_to g1 _, ⟨fun h4 => by have : so.op = 4 := h4; omega, fun h0 => by have : so.op = 0 ∨ so.op = 5 := h0; omega⟩, fun _ => hcl⟩
    · rcases get_append hks with ⟨hkl, hks⟩ | ⟨rfl, rfl⟩
      · obtain ⟨g1, g2, g3⟩ := h.each k s hks
        refine ⟨g1, (g2.append (by omega) _).setTo hoA _, fun hn => ((g3 ?_).append hkl _).setTo hoA _⟩
        rw [e, rev2]
        rw [rev2] at hn
        simp only [opens, pend, a2, c1] at hn ⊢
        exact fun hm => (List.mem_cons.1 hm).elim (fun e => hkp (by simp at e; omega)) fun hm => hn (List.mem_cons_of_mem _ hm)
      · refine ⟨hb, ⟨fun h4 => by omega, fun h0 => by omega⟩, fun hn => ?_⟩
        rw [rev2] at hn
        simp only [opens, pend] at hn
        rw [if_pos (by omega)] at hn
        exact absurd List.mem_cons_self hn
  · intro x hx
    rcases List.mem_append.1 hx with hx | hx
    · exact h.bound x (by rw [e]; exact List.mem_append_left _ hx)
    · rw [List.mem_singleton] at hx
      subst hx
      exact ⟨by simp, by simp, by show 0 ≤ b.need + 1; omega, by show b.need + 1 ≤ _; omega⟩

/-- what Load gives -/
structure Final (l : Ls) : Prop where
  sound : Sound l.steps l.slots.toNat
  need : (cost l.steps 0 : Int) ≤ l.need
  most : l.need ≤ 40000040
  slots : 8 ≤ l.slots ∧ l.slots ≤ 2008
  blocks : l.blocks = []

theorem fin_endCode (h : Inv l) (h1 : l.blocks.length = 1) (hl : l.steps.length ≤ 900000) (hg : (endCodeAt l).bad = false) : Final (endCodeAt l) := by
  obtain ⟨init, b, e⟩ := h.split
  have hi : init = [] := by
    rw [e] at h1
    simp at h1
    exact h1
  subst hi
  have hbd := h.bound b (by rw [e]; simp)
  have hc := h.chain
  rw [e] at hc
  obtain ⟨c1, c2, c, c3, c4⟩ := hc
  unfold endCodeAt at hg ⊢
  rw [add_eq e ⟨1, 0, 0, 0, 0, 0, 0⟩] at hg ⊢
  rw [wrap_small (x := b.need + 1) (by omega) (by omega)] at hg ⊢
  have htop : Ls.top { l with steps := l.steps ++ [⟨1, 0, 0, 0, 0, 0, 0⟩], blocks := [] ++ [{ b with need := b.need + 1 }], bad := l.bad || decide (40000040 < b.need + 1) } = { b with need := b.need + 1 } := by simp [Ls.top]
  rw [htop]
  simp only [h.bad, Bool.false_or, decide_eq_false_iff_not] at hg
  have hap := stk_append l.steps ⟨1, 0, 0, 0, 0, 0, 0⟩
  have hlen : (l.steps ++ [(⟨1, 0, 0, 0, 0, 0, 0⟩ : St)]).length = l.steps.length + 1 := by simp
  have hlast : (l.steps ++ [(⟨1, 0, 0, 0, 0, 0, 0⟩ : St)])[l.steps.length]? = some ⟨1, 0, 0, 0, 0, 0, 0⟩ := List.getElem?_concat_length ..
  have hcl : ∀ (k : Nat) (s : St), l.steps[k]? = some s → Closed l.steps k s := fun k s hk => (h.each k s hk).2.2 (by rw [e]; simp [opens])
  -- a loop around
  have hloop : ∀ (k : Nat) (s : St), l.steps[k]? = some s → (s.op = 0 ∨ s.op = 5) → isLoop (l.steps ++ [⟨1, 0, 0, 0, 0, 0, 0⟩]) l.slots.toNat s.to := fun k s hk ho => by
    obtain ⟨g1, g2, g3⟩ := h.each k s hk
    obtain ⟨b1, b2⟩ := g2.back ho
    cases hs : stk l.steps k with
    | nil => rw [hs] at b2; cases b2
    | cons p r =>
      rw [hs] at b2
      simp only [List.head?_cons, Option.some.injEq] at b2
      obtain ⟨sl, l1, l2, l3, l4⟩ := stk_cons l.steps k p r hs
      have hp := get_lt l1
      obtain ⟨d1, d2, d3, d4⟩ := hcl p sl l1 (Or.inr (Or.inr l2))
      obtain ⟨e1, _, e3⟩ := (h.each p sl l1).1.loops l2
      refine ⟨sl, b1, ?_, by rw [hlen]; omega, d1, by rw [hlen]; omega, e1, e3⟩
      rw [← b2, List.getElem?_append_left hp]
      exact l1
  have hsound : Sound (l.steps ++ [⟨1, 0, 0, 0, 0, 0, 0⟩]) l.slots.toNat := by
    refine ⟨⟨by omega, by omega, fun k s hk => ?_⟩, fun k s hk ho => ?_, fun k s hk ho => ?_, fun k s hk ho => ?_⟩
    · rcases get_append hk with ⟨hk, hks⟩ | ⟨rfl, rfl⟩
      · obtain ⟨g1, g2, g3⟩ := h.each k s hks
        have g4 := hcl k s hks
        refine ⟨by have := g1.op; omega, fun _ _ _ => by omega, fun h2 => ?_, fun h3 => ?_, fun h4 => ?_, fun h5 => ⟨g1.skips h5, hloop k s hks (Or.inr h5)⟩, fun h0 => hloop k s hks (Or.inl h0), g1.pushes, g1.works⟩
        · obtain ⟨d1, d2, d3, d4⟩ := g4 (Or.inl h2)
          exact ⟨g1.ifs h2, d1, by omega⟩
        · obtain ⟨d1, d2, d3, d4⟩ := g4 (Or.inr (Or.inl h3))
          exact ⟨d1, by omega⟩
        · obtain ⟨d1, d2, d3, d4⟩ := g4 (Or.inr (Or.inr h4))
          exact ⟨d1, by omega, g1.loops h4⟩
      · exact ⟨by simp, fun h => absurd rfl h, fun h => by simp at h, fun h => by simp at h, fun h => by simp at h, fun h => by simp at h, fun h => by simp at h, fun h => by simp at h, fun h => absurd rfl h⟩
    · rcases get_append hk with ⟨hk, hks⟩ | ⟨rfl, rfl⟩
      · obtain ⟨d1, d2, d3, d4⟩ := hcl k s hks ho
        exact ⟨d2, by rw [hap _ (by omega), hap _ (by omega)]; exact d4⟩
      · simp at ho
    · rcases get_append hk with ⟨hk, hks⟩ | ⟨rfl, rfl⟩
      · rw [hap _ (by omega)]; exact (h.each k s hks).2.1.depth ho
      · simp at ho
    · rcases get_append hk with ⟨hk, hks⟩ | ⟨rfl, rfl⟩
      · rw [hap _ (by omega)]; exact ((h.each k s hks).2.1.back ho).2
      · simp at ho
  refine ⟨hsound, ?_, by show b.need + 1 ≤ _; omega, h.slots, rfl⟩
  have g1 := c4.2 _ hsound.ahead fun k _ hk => List.getElem?_append_left hk
  have g2 := cost_at hsound.ahead hlast
  rw [if_pos (Or.inr rfl)] at g2
  show (cost (l.steps ++ [⟨1, 0, 0, 0, 0, 0, 0⟩]) 0 : Int) ≤ b.need + 1
  omega

/-- an instruction -/
theorem inv_instr (h : Inv l) (s : St) (hb : Base l.slots.toNat s) (hl : l.steps.length ≤ 900000) (hg : (instr l s).bad = false) : Inv (instr l s) ∨ Final (instr l s) := by
  unfold instr at hg ⊢
  by_cases h2 : s.op = 2
  · rw [if_pos h2] at hg ⊢
    exact Or.inl (inv_open h s hb (Or.inl h2) (fun e => by omega) l.loops (by rw [if_neg (by omega)]) h.eight hg)
  rw [if_neg h2] at hg ⊢
  by_cases h4 : s.op = 4
  · rw [if_pos h4] at hg ⊢
    by_cases h8 : l.loops.length = 8
    · rw [if_pos h8] at hg; cases hg
    · rw [if_neg h8] at hg ⊢
      have he := h.eight
      exact Or.inl (inv_open h { s with depth := l.loops.length } (base_depth hb _ (by omega) (by omega)) (Or.inr h4) (fun _ => rfl) _ (by rw [if_pos h4]) (by simp; omega) hg)
  rw [if_neg h4] at hg ⊢
  by_cases h3 : s.op = 3
  · rw [if_pos h3] at hg ⊢
    by_cases hx : l.blocks.length = 1 ∨ 0 < l.top.other
    · rw [if_pos hx] at hg; cases hg
    · rw [if_neg hx] at hg ⊢
      obtain ⟨init, bo, b, e⟩ := h.split2 (fun e => hx (Or.inl e))
      have hc := h.chain
      rw [e, rev2] at hc
      obtain ⟨o, so, c1, c2, c3, c4, c5⟩ := hc
      have ht : l.top = b := top_eq e
      have hto : l.top.opener.toNat = o := by rw [ht, c1]; simp
      rw [hto, c3] at hg ⊢
      simp only at hg ⊢
      by_cases hso : so.op = 2
      · rw [if_pos hso] at hg ⊢
        exact Or.inl (inv_divide h init bo b e o so s c1 c3 hso (fun e => hx (Or.inr (by rw [ht]; exact e))) h3 hb hg)
      · rw [if_neg hso] at hg; cases hg
  rw [if_neg h3] at hg ⊢
  by_cases h0 : s.op = 0
  · rw [if_pos h0] at hg ⊢
    by_cases hx : l.blocks.length = 1
    · rw [if_pos hx] at hg ⊢
      exact Or.inr (fin_endCode h hx hl hg)
    · rw [if_neg hx] at hg ⊢
      obtain ⟨init, bo, b, e⟩ := h.split2 hx
      have hc := h.chain
      rw [e, rev2] at hc
      obtain ⟨o, so, c1, c2, c3, c4, c5⟩ := hc
      have ht : l.top = b := top_eq e
      have hto : l.top.opener.toNat = o := by rw [ht, c1]; simp
      have hdl : l.blocks.dropLast = init ++ [bo] := by rw [e]; simp
      rw [hto, c3] at hg ⊢
      simp only at hg ⊢
      by_cases hso : so.op = 4
      · rw [if_pos hso] at hg ⊢
        exact Or.inl (inv_endLoop h init bo b e o so s c1 c3 hso h0 hb hg)
      · rw [if_neg hso] at hg ⊢
        rw [ht, hdl] at hg ⊢
        rcases c4 with ⟨a1, _⟩ | ⟨a1, a2, a3, a4, c, a5, a6⟩ | ⟨a1, x, t, a2, a3, a4, a5, _⟩
        · exact absurd a1 hso
        · rw [if_neg (by omega)] at hg ⊢
          exact Or.inl (inv_endIf h init bo b e o o so so c1 c3 hso c3 (by unfold pend; rw [if_neg (by omega), c1]) hg)
        · have hxt : b.other.toNat = x := by omega
          rw [if_pos (by omega), hxt, a5] at hg ⊢
          simp only at hg ⊢
          exact Or.inl (inv_endIf h init bo b e o x so t c1 c3 hso a5 (by unfold pend; rw [if_pos (by omega), a2]) hg)
  rw [if_neg h0] at hg ⊢
  by_cases h5 : s.op = 5
  · rw [if_pos h5] at hg ⊢
    unfold skipStep at hg ⊢
    by_cases hx : l.loops = []
    · rw [if_pos hx] at hg; cases hg
    · rw [if_neg hx] at hg ⊢
      refine Or.inl (inv_add h { s with to := l.loops.getLastD 0 } (base_to hb _) h0 h2 h3 h4 (fun _ => ?_) hg)
      have hlo := h.loops
      cases hs : stk l.steps l.steps.length with
      | nil => rw [hs] at hlo; exact absurd hlo hx
      | cons p r =>
        rw [hs] at hlo
        have : l.loops.getLastD 0 = (p : Int) := by rw [hlo]; simp
        show 0 ≤ l.loops.getLastD 0 ∧ _ = some (l.loops.getLastD 0).toNat
        rw [this]
        exact ⟨by omega, by simp⟩
  · rw [if_neg h5] at hg ⊢
    exact Or.inl (inv_add h s hb h0 h2 h3 h4 (fun e => absurd e h5) hg)
end Go.Proofs.YthllhabjfchgiaaGreatDoor.Hx
