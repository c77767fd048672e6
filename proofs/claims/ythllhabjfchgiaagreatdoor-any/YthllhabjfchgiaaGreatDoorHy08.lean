import Derived.Test.YthllhabjfchgiaaGreatDoorHy07
/- PLAIN LAWS: what Load takes is sound. -/
namespace Go.Proofs.YthllhabjfchgiaaGreatDoor.Hx
open Go.RowKit

theorem in_signed (x : Int) (h0 : 0 ≤ x) (h1 : x < 18446744073709551616) : In64 (signed x) := by
  unfold signed
  split
  · exact in_bits _ _ _
  · unfold In64; omega

theorem or_bd (x y : Int) : 0 ≤ bits .or .u64 x y ∧ bits .or .u64 x y < 18446744073709551616 := ⟨bits_lo_u64 _ _ _, by have := bits_hi_u64 .or x y; omega⟩

theorem in_readGo (s : List UInt8) (p : Nat) : ∀ (r i : Nat) (acc : Int), In64 (readGo s p r i acc).1 ∧ 0 ≤ (readGo s p r i acc).2 ∧ (readGo s p r i acc).2 ≤ i + r
  | 0, i, acc => ⟨in_zero, by simp [readGo], by simp only [readGo]; omega⟩
  | r + 1, i, acc => by
    have ih := in_readGo s p r (i + 1) (bits .or .u64 acc (IntKind.u64.wrap (((s.getD (p + i) 0).toNat % 128 : Nat) * 2 ^ (i * 7))))
    have hb := or_bd acc (IntKind.u64.wrap (((s.getD (p + i) 0).toNat % 128 : Nat) * 2 ^ (i * 7)))
    simp only [readGo]
    split
    · exact ⟨in_zero, by simp, by simp only; omega⟩
    · split
      · exact ⟨in_signed _ hb.1 hb.2, by simp only; omega, by simp only; omega⟩
      · exact ⟨ih.1, ih.2.1, by have := ih.2.2; push_cast at this; omega⟩

theorem in_read (s : List UInt8) (p : Nat) (hp : p ≤ s.length) : In64 (read s p).1 ∧ 0 ≤ (read s p).2 ∧ (p : Int) + (read s p).2 ≤ s.length := by
  have := in_readGo s p (min (s.length - p) 10) 0 0
  unfold read
  exact ⟨this.1, this.2.1, by have := this.2.2; omega⟩

theorem readNums_ok (bs : List UInt8) : ∀ (cs : List UInt8) (p : Nat) (sl : Int) (ns : List Int) (p' : Nat) (sl' : Int), readNums bs cs p sl = some (ns, p', sl') → p ≤ bs.length → sl ≤ 2008 →
    ns.length = cs.length ∧ p ≤ p' ∧ p' ≤ bs.length ∧ sl ≤ sl' ∧ sl' ≤ 2008 ∧ (∀ x ∈ ns, In64 x) ∧ (∀ i, cs[i]? = some 115 → 0 ≤ ns.getD i 0 ∧ ns.getD i 0 < sl')
  | [], p, sl, ns, p', sl', h, hp, hs => by
    simp only [readNums] at h
    cases h
    exact ⟨rfl, Nat.le_refl _, hp, Int.le_refl _, hs, by simp, by simp⟩
  | c :: cs, p, sl, ns, p', sl', h, hp, hs => by
    obtain ⟨r1, r2, r3⟩ := in_read bs p hp
    simp only [readNums] at h
    split at h
    · cases h
    rename_i h0
    split at h
    · cases h
    rename_i h1
    split at h
    · cases h
    rename_i h2
    cases hr : readNums bs cs (p + (read bs p).2.toNat) (if c = 115 then max sl ((read bs p).1 + 1) else sl) with
    | none => rw [hr] at h; cases h
    | some q =>
      obtain ⟨ns1, p1, sl1⟩ := q
      rw [hr] at h
      simp only [Option.map_some, Option.some.injEq, Prod.mk.injEq] at h
      obtain ⟨e1, e2, e3⟩ := h
      subst e1; subst e2; subst e3
      have hsl : (if c = 115 then max sl ((read bs p).1 + 1) else sl) ≤ 2008 ∧ sl ≤ (if c = 115 then max sl ((read bs p).1 + 1) else sl) ∧ (c = 115 → 0 ≤ (read bs p).1 ∧ (read bs p).1 < (if c = 115 then max sl ((read bs p).1 + 1) else sl)) := by
        by_cases hc : c = 115
        · have h3 : ¬ ((read bs p).1 < 0 ∨ 2008 ≤ (read bs p).1) := fun e => h1 ⟨hc, e⟩
          simp only [if_pos hc]
          refine ⟨by omega, by omega, fun _ => ⟨by omega, by omega⟩⟩
        · simp only [if_neg hc]
          exact ⟨hs, Int.le_refl _, fun e => absurd e hc⟩
      obtain ⟨g1, g2, g3, g4, g5, g6, g7⟩ := readNums_ok bs cs _ _ _ _ _ hr (by omega) hsl.1
      refine ⟨by simp [g1], by omega, g3, by omega, g5, fun x hx => ?_, fun i hi => ?_⟩
      · rcases List.mem_cons.1 hx with rfl | hx
        · exact r1
        · exact g6 x hx
      · cases i with
        | zero =>
          simp only [List.getElem?_cons_zero, Option.some.injEq] at hi
          have := hsl.2.2 hi
          simp only [List.getD_cons_zero]
          omega
        | succ i =>
          simp only [List.getElem?_cons_succ] at hi
          simp only [List.getD_cons_succ]
          exact g7 i hi

theorem base_of (o : Int) (ns : List Int) (n : Nat) (hn : 8 ≤ n) (h0 : 0 ≤ o) (h1 : o ≤ 36) (hlen : ns.length = (shape o).length) (hin : ∀ x ∈ ns, In64 x) (f : ∀ i : Nat, (shape o)[i]? = some 115 → St.slot n (ns.getD i 0)) :
    Base n ⟨o, ns.getD 0 0, ns.getD 1 0, ns.getD 2 0, ns.getD 3 0, 0, 0⟩ := by
  have g : ∀ i : Nat, (shape o).length ≤ i → St.slot n (ns.getD i 0) := fun i hi => by
    rw [List.getD_eq_getElem?_getD, List.getElem?_eq_none (by omega)]
    exact ⟨by simp, by simp; omega⟩
  have hb : In64 (ns.getD 1 0) := by
    rw [List.getD_eq_getElem?_getD]
    cases he : ns[1]? with
    | none => exact in_zero
    | some x => exact hin x (List.mem_of_getElem? he)
  have A := f 0
  have B := f 1
  have C := f 2
  have D := f 3
  have gC := g 2
  clear hlen hin f g
  generalize ns.getD 0 0 = a at *
  generalize ns.getD 1 0 = b at *
  generalize ns.getD 2 0 = c at *
  generalize ns.getD 3 0 = d at *
  have hc : o = 0 ∨ o = 1 ∨ o = 2 ∨ o = 3 ∨ o = 4 ∨ o = 5 ∨ o = 6 ∨ o = 7 ∨ o = 8 ∨ o = 9 ∨ o = 10 ∨ o = 11 ∨ o = 12 ∨ o = 13 ∨ o = 14 ∨ o = 15 ∨ o = 16 ∨ o = 17 ∨ o = 18 ∨ o = 19 ∨ o = 20 ∨ o = 21 ∨ o = 22 ∨ o = 23 ∨ o = 24 ∨ o = 25 ∨ o = 26 ∨ o = 27 ∨ o = 28 ∨ o = 29 ∨ o = 30 ∨ o = 31 ∨ o = 32 ∨ o = 33 ∨ o = 34 ∨ o = 35 ∨ o = 36 := by omega
  rcases hc with rfl | rfl | rfl | rfl | rfl | rfl | rfl | rfl | rfl | rfl | rfl | rfl | rfl | rfl | rfl | rfl | rfl | rfl | rfl | rfl | rfl | rfl | rfl | rfl | rfl | rfl | rfl | rfl | rfl | rfl | rfl | rfl | rfl | rfl | rfl | rfl | rfl
  all_goals refine ⟨⟨by simp, by simp⟩, ?_, ?_, ?_, ?_, ?_⟩
  all_goals first
    | (intro h; simp at h; done)
    | exact fun _ => A (by decide)
    | exact fun _ => ⟨A (by decide), B (by decide)⟩
    | exact fun _ => ⟨B (by decide), C (by decide), by simp, by simp⟩
    | exact fun _ _ _ _ _ _ h => absurd rfl h
    | exact fun _ _ _ _ _ h _ => absurd rfl h
    | exact fun _ _ _ _ h _ _ => absurd rfl h
    | exact fun _ _ _ h _ _ _ => absurd rfl h
    | exact fun _ _ h _ _ _ _ => absurd rfl h
    | exact fun _ h _ _ _ _ _ => absurd rfl h
    | exact fun h _ _ _ _ _ _ => absurd rfl h
    | exact fun _ _ _ _ _ _ _ => ⟨hb, A (by decide), Or.inl rfl⟩
    | exact fun _ _ _ _ _ _ _ => ⟨hb, A (by decide), Or.inr (Or.inl rfl)⟩
    | exact fun _ _ _ _ _ _ _ => ⟨hb, A (by decide), Or.inr (Or.inr ⟨B (by decide), Or.inl rfl⟩)⟩
    | (refine fun _ _ _ _ _ _ _ => ⟨hb, A (by decide), Or.inr (Or.inr ⟨B (by decide), Or.inr ⟨C (by decide), fun h => ?_⟩⟩)⟩; simp at h; done)
    | (refine fun _ _ _ _ _ _ _ => ⟨hb, A (by decide), Or.inr (Or.inr ⟨B (by decide), Or.inr ⟨gC (by decide), fun h => ?_⟩⟩)⟩; simp at h; done)
    | exact fun _ _ _ _ _ _ _ => ⟨hb, A (by decide), Or.inr (Or.inr ⟨B (by decide), Or.inr ⟨C (by decide), fun _ => D (by decide)⟩⟩)⟩

theorem readStep_ok {bs : List UInt8} {l l' : Ls} {s : St} (h : readStep bs l = some (s, l')) (hp : 0 ≤ l.pos) (hsl : 8 ≤ l.slots ∧ l.slots ≤ 2008) :
    Base l'.slots.toNat s ∧ l.pos < l'.pos ∧ l'.pos ≤ bs.length ∧ l.slots ≤ l'.slots ∧ l'.slots ≤ 2008 ∧ l' = { l with pos := l'.pos, slots := l'.slots } := by
  unfold readStep at h
  split at h
  · cases h
  rename_i o ho
  have hlt : l.pos.toNat < bs.length := by
    rcases Nat.lt_or_ge l.pos.toNat bs.length with h' | h'
    · exact h'
    · rw [List.getElem?_eq_none h'] at ho; cases ho
  split at h
  · rename_i hop
    split at h
    · cases h
    rename_i ns p sl hr
    cases h
    obtain ⟨g1, g2, g3, g4, g5, g6, g7⟩ := readNums_ok bs _ _ _ _ _ _ hr (by omega) hsl.2
    have hop' : 0 ≤ (o.toNat : Int) ∧ (o.toNat : Int) ≤ 36 := of_decide_eq_true hop
    refine ⟨base_of _ _ _ (by show 8 ≤ sl.toNat; omega) hop'.1 hop'.2 g1 g6 (fun i hi => ?_), by show l.pos < (p : Int); omega, by show (p : Int) ≤ _; omega, g4, g5, rfl⟩
    obtain ⟨k1, k2⟩ := g7 i hi
    exact ⟨k1, by show _ < (sl.toNat : Int); omega⟩
  · cases h

theorem Inv.read {l : Ls} (h : Inv l) {p sl : Int} (h1 : l.slots ≤ sl) (h2 : sl ≤ 2008) : Inv { l with pos := p, slots := sl } :=
  ⟨h.chain, h.loops, h.eight, fun k s hk => ⟨(h.each k s hk).1.more (by show l.slots.toNat ≤ sl.toNat; omega), (h.each k s hk).2⟩, h.bound, ⟨by show 8 ≤ sl; have := h.slots; omega, h2⟩, h.bad⟩

theorem count_steps (l : Ls) (x : Int) : (l.count x).steps = l.steps ∧ (l.count x).pos = l.pos := ⟨rfl, rfl⟩

theorem instr_len (l : Ls) (s : St) : (instr l s).steps.length ≤ l.steps.length + 1 ∧ (instr l s).pos = l.pos := by
  unfold instr
  repeat' split
  all_goals first
    | exact ⟨Nat.le_succ _, rfl⟩
    | (refine ⟨?_, rfl⟩; simp [openStep, loopStep, divideAt, divideOf, endCodeAt, endLoopAt, endLoopOf, endIfAt, addStep, Ls.count]; done)
    | skip
  · unfold skipStep
    split
    · exact ⟨Nat.le_succ _, rfl⟩
    · refine ⟨?_, rfl⟩
      simp [addStep, Ls.count]

theorem Chain.len {S : List St} : ∀ {bs : List Bk} {d e : Nat}, Chain S d e bs → bs.length ≤ e + 1
  | [], _, _, h => h.elim
  | [b], d, e, _ => by simp
  | b :: b' :: r, d, e, ⟨o, s, h1, h2, h3, h4, h5⟩ => by
    have := h5.len
    simp only [List.length_cons] at this ⊢
    omega

theorem Inv.blocks {l : Ls} (h : Inv l) : l.blocks ≠ [] ∧ l.blocks.length ≤ l.steps.length + 1 := by
  obtain ⟨init, b, e⟩ := h.split
  refine ⟨by rw [e]; simp, ?_⟩
  have := h.chain.len
  simpa using this

theorem loadGo_bad (bs : List UInt8) (f : Nat) (l : Ls) (h : l.bad = true) : loadGo bs f l = l := by
  cases f with
  | zero => rfl
  | succ f => simp only [loadGo, if_pos (show l.blocks = [] ∨ l.bad = true from Or.inr h)]

theorem loadGo_done (bs : List UInt8) (f : Nat) (l : Ls) (h : l.blocks = []) : loadGo bs f l = l := by
  cases f with
  | zero => rfl
  | succ f => simp only [loadGo, if_pos (show l.blocks = [] ∨ l.bad = true from Or.inl h)]

/-- one round of Load -/
theorem loadGo_next (bs : List UInt8) (f : Nat) (l l' : Ls) (s : St) (h : Inv l) (hr : readStep bs l = some (s, l')) : loadGo bs (f + 1) l = loadGo bs f (instr l' s) := by
  have h1 : ¬ (l.blocks = [] ∨ l.bad = true) := fun e => e.elim h.blocks.1 (fun e => by rw [h.bad] at e; cases e)
  simp only [loadGo, if_neg h1, hr]

theorem loadGo_final (bs : List UInt8) (hbs : bs.length ≤ 100000) : ∀ (f : Nat) (l : Ls), Inv l → 0 ≤ l.pos → (l.steps.length : Int) ≤ l.pos → l.pos ≤ bs.length → bs.length - l.pos < f → (loadGo bs f l).bad = false → Final (loadGo bs f l)
  | 0, l, _, _, _, h2, h3, _ => by omega
  | f + 1, l, h, h0, h1, h2, h3, hb => by
    have hn : ¬ (l.blocks = [] ∨ l.bad = true) := fun e => e.elim h.blocks.1 (fun e => by rw [h.bad] at e; cases e)
    cases hr : readStep bs l with
    | none =>
      simp only [loadGo, if_neg hn, hr] at hb
      cases hb
    | some q =>
      obtain ⟨s, l'⟩ := q
      rw [loadGo_next bs f l l' s h hr] at hb ⊢
      obtain ⟨g1, g2, g3, g4, g5, g6⟩ := readStep_ok hr h0 h.slots
      have hi : Inv l' := by rw [g6]; exact h.read g4 g5
      have hs : l'.steps = l.steps := by rw [g6]
      obtain ⟨k1, k2⟩ := instr_len l' s
      have hbad : (instr l' s).bad = false := by
        cases hbb : (instr l' s).bad with
        | false => rfl
        | true => rw [loadGo_bad bs f _ hbb, hbb] at hb; cases hb
      rcases inv_instr hi s g1 (by rw [hs]; omega) hbad with hv | hv
      · exact loadGo_final bs hbs f _ hv (by rw [k2]; omega) (by rw [k2]; rw [hs] at k1; omega) (by rw [k2]; exact g3) (by rw [k2]; omega) hb
      · rw [loadGo_done bs f _ hv.blocks]; exact hv

theorem inv_first : Inv firstLs := by
  refine ⟨⟨rfl, rfl, 0, rfl, Seg.nil _ _⟩, rfl, by simp [firstLs], fun k s hk => by simp [firstLs] at hk, fun b hb => ?_, ⟨by simp [firstLs], by simp [firstLs]⟩, rfl⟩
  simp only [firstLs, List.mem_singleton] at hb
  subst hb
  exact ⟨by simp, by simp, by simp, by simp⟩

theorem loaded_final (bs : List UInt8) (hbs : bs.length ≤ 100000) (hb : (loaded bs).bad = false) : Final (loaded bs) :=
  loadGo_final bs hbs _ _ inv_first (by simp [firstLs]) (by simp [firstLs]) (by simp [firstLs]) (by simp only [firstLs]; omega) hb

/-- a run of code that Load takes, with as much fuel as it needs, is never starved; with any other fuel it gives the same, or is starved -/
theorem loaded_runs (bs : List UInt8) (hbs : bs.length ≤ 100000) (hb : (loaded bs).bad = false) (v : Vw) (hv : v.small) (regs : List Int) (m : Mc) (hm : LeftOk m) (f : Nat) :
    (runs v (loaded bs).steps regs (loaded bs).need.toNat 0 m).status ≠ 2 ∧
    ((runs v (loaded bs).steps regs f 0 m).status = 2 → f < (loaded bs).need.toNat) ∧
    ((runs v (loaded bs).steps regs f 0 m).status ≠ 2 → runs v (loaded bs).steps regs f 0 m = runs v (loaded bs).steps regs (loaded bs).need.toNat 0 m) := by
  have hf := loaded_final bs hbs hb
  have hpos := hf.sound.fits.pos
  have hne := hf.need
  have key : ∀ g, (loaded bs).need.toNat ≤ g → (runs v (loaded bs).steps regs g 0 m).status ≠ 2 := fun g hg => by
    refine runs_ends hf.sound hv g 0 m (Int.le_refl _) (by omega) hm ?_
    show cost (loaded bs).steps 0 + around (loaded bs).steps m.left [] ≤ g
    simp only [around]
    omega
  refine ⟨key _ (Nat.le_refl _), fun h => ?_, fun h => ?_⟩
  · rcases Nat.lt_or_ge f (loaded bs).need.toNat with h' | h'
    · exact h'
    · exact absurd h (key f h')
  · rcases Nat.le_total f (loaded bs).need.toNat with h' | h'
    · exact (runs_more _ _ _ _ h' h).symm
    · exact runs_more _ _ _ _ h' (key _ (Nat.le_refl _))
end Go.Proofs.YthllhabjfchgiaaGreatDoor.Hx
