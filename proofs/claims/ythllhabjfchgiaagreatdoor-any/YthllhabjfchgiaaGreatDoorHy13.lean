import Derived.Test.YthllhabjfchgiaaGreatDoorHy12
import Derived.Test.YthllhabjfchgiaaGreatDoorHy08
import Derived.Test.YthllhabjfchgiaaGreatDoorHy09
/- (*Code).Run whole: the contract. -/
namespace Go.Proofs.YthllhabjfchgiaaGreatDoor
open Go.RowKit
open Hx (Rd Pk Vw St Mc In64 Out)

/-- what a run comes to -/
def runOut (v : Vw) (steps : List St) (n : Nat) (fuel x0 x1 x2 x3 x4 x5 x6 x7 : Int) : Out :=
  if viewOk v = true then Hx.runs v steps [x0, x1, x2, x3, x4, x5, x6, x7] fuel.toNat 0 (machine0 x0 x1 x2 x3 x4 x5 x6 x7 n) else ⟨3, [x0, x1, x2, x3, x4, x5, x6, x7], []⟩

theorem owns_mono {w : World} {b b' : Nat} {e : TypeId} {size : Nat} {u : Value} {n : Nat} {xs : List Value} (h : w.ownsRow b e size u n xs) (hb : b' ≤ b) : w.ownsRow b' e size u n xs := by
  refine ⟨h.1, ?_⟩
  rcases h.2 with h | ⟨g, cap, cur, h1, h2, h3⟩
  · exact Or.inl h
  · exact Or.inr ⟨g, cap, cur, h1, by omega, h3⟩

theorem resultV_slots (st : Int) (va : Value) (l : List Int) : resultV st va l = resultV st va [l.getD 0 0, l.getD 1 0, l.getD 2 0, l.getD 3 0, l.getD 4 0, l.getD 5 0, l.getD 6 0, l.getD 7 0] := by
  simp [resultV]

set_option maxRecDepth 1000000 in
set_option maxHeartbeats 4000000 in
theorem run_any (w : World) (cb co sb so cap n : Nat) (steps : List St) (v : Vw) (ar af aa : Option Addr) (nr cr nf cf na ca : Nat) (x0 x1 x2 x3 x4 x5 x6 x7 fuel : Int)
    (hfit : Hx.Fits steps n) (h8 : 8 ≤ n) (hn : n ≤ 100000) (hc : CodeIn w.heap.size w cb co sb so cap steps) (hsl : w.cell? ⟨cb, co + 1, none⟩ = some (.int .i64 n))
    (hv : ViewV w.heap.size w ar af aa nr nf na v) (hT : Tab64 w) (hone : 1 < w.heap.size) (hx : ∀ x ∈ [x0, x1, x2, x3, x4, x5, x6, x7], In64 x) (hfm : fuel ≤ 9223372036854775807) :
    Calls Tryz.prog 16 #[.pointer (some ⟨cb, co, none⟩), .agg #[.slice ar nr cr, .slice af nf cf, .slice aa na ca], .agg #[.int .i64 x0, .int .i64 x1, .int .i64 x2, .int .i64 x3, .int .i64 x4, .int .i64 x5, .int .i64 x6, .int .i64 x7], .int .i64 fuel] w fun e w' =>
      ∃ va, e = .returned (resultV (runOut v steps n fuel x0 x1 x2 x3 x4 x5 x6 x7).status va (runOut v steps n fuel x0 x1 x2 x3 x4 x5 x6 x7).regs) ∧
        w'.ownsRow w.heap.size 76 2 va (runOut v steps n fuel x0 x1 x2 x3 x4 x5 x6 x7).acts.length (actCells (runOut v steps n fuel x0 x1 x2 x3 x4 x5 x6 x7).acts) ∧ Below w.heap.size w w' := by
  generalize ho : runOut v steps n fuel x0 x1 x2 x3 x4 x5 x6 x7 = o
  -- the boxes
  generalize hW : boxes w ar af aa nr cr nf cf na ca x0 x1 x2 x3 x4 x5 x6 x7 = W
  have hsz : W.heap.size = w.heap.size + 1 + 1 + 1 := by rw [← hW]; exact boxes_size ..
  have hold : w.grownBy W none := by rw [← hW]; exact boxes_old ..
  have hview : ∀ k, W.cell? ⟨w.heap.size, k, none⟩ = #[Value.slice ar nr cr, .slice af nf cf, .slice aa na ca][k]? := fun k => by rw [← hW]; exact boxes_view ..
  have hregs : RegBox W w.heap.size x0 x1 x2 x3 x4 x5 x6 x7 := by rw [← hW]; exact boxes_regs w ar af aa nr cr nf cf na ca x0 x1 x2 x3 x4 x5 x6 x7
  have hres : ResCell W w.heap.size := by rw [← hW]; exact boxes_res ..
  have hcell : ∀ x : Addr, x.block < w.heap.size → W.cell? x = w.cell? x := fun x hx => World.cell?_of_block (hold.block _ hx (by simp))
  have hbelow : Below w.heap.size w W := (Below.refl _ _).grown hold (Nat.le_refl _) (by simp)
  have hvW : ViewV W.heap.size W ar af aa nr nf na v := by
    have := hv.keep hcell
    exact ⟨fun i r hr => by obtain ⟨b, o, e, hb, hp⟩ := this.roads i r hr; exact ⟨b, o, e, by omega, hp⟩, fun i r hr => by obtain ⟨b, o, e, hb, hp⟩ := this.fresh i r hr; exact ⟨b, o, e, by omega, hp⟩, fun i r hr => by obtain ⟨b, o, e, hb, hp⟩ := this.again i r hr; exact ⟨b, o, e, by omega, hp⟩, this.lenR, this.lenF, this.lenA, this.rng⟩
  have hTW : Tab64 W := fun j hj => by rw [hcell _ (by show 1 < _; omega)]; exact hT j hj
  have hcW0 := hc.keep hbelow
  have hcW : CodeIn W.heap.size W cb co sb so cap steps := ⟨by have := hc.cbB; omega, by have := hc.sbB; omega, hcW0.slice, hcW0.step⟩
  have hslW : W.cell? ⟨cb, co + 1, none⟩ = some (.int .i64 n) := by rw [hcell _ hc.cbB]; exact hsl
  -- how it ends
  have HRet : Hid (∀ (a' : Act) (w1 : World) (st : Int) (va : Value) (y0 y1 y2 y3 y4 y5 y6 y7 : Int) (acts : List (Int × Int)), Below W.heap.size W w1 → ResCell w1 w.heap.size → w1.ownsRow W.heap.size 76 2 va acts.length (actCells acts) → (∃ a n c, va = .slice a n c) →
      a'.tmps.getD 8 undef = .pointer (some ⟨w.heap.size + 1 + 1, 0, none⟩) → a'.defers = [] → o.status = st → resultV st va o.regs = resultV st va [y0, y1, y2, y3, y4, y5, y6, y7] → o.acts = acts →
      bodyPost Tryz.prog Tryz.f16 (fun e w' => ∃ va, e = .returned (resultV o.status va o.regs) ∧ w'.ownsRow w.heap.size 76 2 va o.acts.length (actCells o.acts) ∧ Below w.heap.size w w') .ret a' (putRes w1 w.heap.size st va y0 y1 y2 y3 y4 y5 y6 y7)) := by
    rintro a' w1 st va y0 y1 y2 y3 y4 y5 y6 y7 acts hb1 hr1 hown ⟨aa', nn, cc, rfl⟩ ht hd rfl hreg rfl
    refine bodyPost_ret (v := resultV o.status (.slice aa' nn cc) [y0, y1, y2, y3, y4, y5, y6, y7]) (putRes_res w1 w.heap.size hr1 o.status aa' nn cc y0 y1 y2 y3 y4 y5 y6 y7 a'.tmps ht) hd ⟨.slice aa' nn cc, by rw [hreg], ?_, ?_⟩
    · have h1 := hown.kept (putRes_grown w1 w.heap.size o.status (.slice aa' nn cc) y0 y1 y2 y3 y4 y5 y6 y7) (by
        cases hb : (Value.slice aa' nn cc).ownBlock with
        | none => exact Or.inl rfl
        | some g =>
          right
          have := (hown.lt g hb).1
          simp; omega)
      exact owns_mono h1 (by omega)
    · refine (hbelow.trans (hb1.mono (by omega))).trans ((Below.refl _ _).grown (putRes_grown w1 w.heap.size o.status (.slice aa' nn cc) y0 y1 y2 y3 y4 y5 y6 y7) ?_ ?_)
      · have := hb1.size; omega
      · intro k hk; cases hk; omega
  have e3 : w.heap.size + 1 + 1 < W.heap.size := by omega
  have HNew : Hid (∀ k, Calls Tryz.prog 49 #[.agg #[.slice ar nr cr, .slice af nf cf, .slice aa na ca], .agg #[.int .i64 x0, .int .i64 x1, .int .i64 x2, .int .i64 x3, .int .i64 x4, .int .i64 x5, .int .i64 x6, .int .i64 x7], .int .i64 n] (W.drewN k) fun e w' =>
      e = .returned (.pointer (some ⟨W.heap.size + 1 + 1 + 1, 0, none⟩)) ∧ Below W.heap.size W w' ∧
      (Good v → MachIn W.heap.size (W.heap.size + 4) w' (W.heap.size + 1 + 1 + 1) (W.heap.size + 1 + 1) v (machine0 x0 x1 x2 x3 x4 x5 x6 x7 n))) := fun k => by
    refine (new_any ar af aa nr cr nf cf na ca x0 x1 x2 x3 x4 x5 x6 x7 n (W.drewN k) hn h8).mono ?_
    rintro e w' ⟨h1, h2, h3⟩
    refine ⟨h1, (below_drewN (Below.refl _ _) k).trans h2, fun hgood => h3 W.heap.size v (by omega) (Nat.le_refl _) (fun j hj => hTW j hj) (hvW.keep (fun _ _ => rfl)) hgood hx⟩
  have b0 := hview 0
  have b1 := hview 1
  have b2 := hview 2
  simp only [List.getElem?_toArray, List.getElem?_cons_succ, List.getElem?_cons_zero] at b0 b1 b2
  have g0 := hregs 0 (by omega)
  have g1 := hregs 1 (by omega)
  have g2 := hregs 2 (by omega)
  have g3 := hregs 3 (by omega)
  have g4 := hregs 4 (by omega)
  have g5 := hregs 5 (by omega)
  have g6 := hregs 6 (by omega)
  have g7 := hregs 7 (by omega)
  simp only [List.getD_cons_zero, List.getD_cons_succ] at g0 g1 g2 g3 g4 g5 g6 g7
  have HW : Hid (boxes w ar af aa nr cr nf cf na ca x0 x1 x2 x3 x4 x5 x6 x7 = W) := hW
  have HSZ : Hid (W.heap.size = w.heap.size + 1 + 1 + 1) := hsz
  have HO : Hid (runOut v steps n fuel x0 x1 x2 x3 x4 x5 x6 x7 = o) := ho
  clear hW hold hview hcell hv hc hsl hT hcW0 hsz ho
  generalize hvv : Value.agg #[.slice ar nr cr, .slice af nf cf, .slice aa na ca] = vv0
  generalize hrv : Value.agg #[.int .i64 x0, .int .i64 x1, .int .i64 x2, .int .i64 x3, .int .i64 x4, .int .i64 x5, .int .i64 x6, .int .i64 x7] = rv0
  subst hvv hrv
  go_enter Tryz.func16, Tryz.ntmps16
  go_wp2_with fail
  rw [show ((w.alloc (Obj.cells #[.slice ar nr cr, .slice af nf cf, .slice aa na ca] 25)).alloc
    (Obj.cells #[.int .i64 x0, .int .i64 x1, .int .i64 x2, .int .i64 x3, .int .i64 x4, .int .i64 x5, .int .i64 x6, .int .i64 x7] 26)).alloc
    (Obj.cells #[.int .u8 0, .slice none 0 0, .int .i64 0, .int .i64 0, .int .i64 0, .int .i64 0, .int .i64 0, .int .i64 0, .int .i64 0, .int .i64 0] 35) = W from HW.out]
  refine wp_scope_labels (fun l => .seq .skip (labelOf Tryz.f16 l)) (RunJ W.heap.size (W.heap.size + 4) (W.heap.size + 1 + 1 + 1) (W.heap.size + 1 + 1) v cb co sb so cap steps n w.heap.size [x0, x1, x2, x3, x4, x5, x6, x7] o (.agg #[.slice ar nr cr, .slice af nf cf, .slice aa na ca]) (.agg #[.int .i64 x0, .int .i64 x1, .int .i64 x2, .int .i64 x3, .int .i64 x4, .int .i64 x5, .int .i64 x6, .int .i64 x7]) W) runMu ?hf ?first ?pass
  case hf =>
    intro l a1 w1 hJ
    have hl : l = 0 ∨ l = 1 := by
      rcases l with _ | _ | l
      · exact Or.inl rfl
      · exact Or.inr rfl
      · exact hJ.elim
    clear hJ
    rcases hl with rfl | rfl
    · show _ = _
      kernel_rfl
    · show _ = _
      kernel_rfl
  case pass =>
    intro l a1 w1 hJ
    rcases l with _ | _ | l
    · obtain ⟨st, ha, hos, hr, hb⟩ := hJ
      refine wp_seq (wp_skip ?_)
      refine run_wrong a1 ha (hregs.keep hb (by omega)) hr _ ?_
      intro a' ht hd
      have := HRet.out a' w1 st (.slice none 0 0) x0 x1 x2 x3 x4 x5 x6 x7 [] hb hr (World.ownsRow_nil _ _ _ _) ⟨_, _, _, rfl⟩ ht hd (by rw [hos]) (by rw [hos]) (by rw [hos])
      exact this
    · obtain ⟨fuel1, k1, m1, ha, hg, hb⟩ := hJ
      refine wp_seq (wp_skip ?_)
      refine run_next hfit h8 e3 a1 ha hg _ ?_ ?_ ?_
      · intro a' w' fuel' k' m' h1 h2 h3 h4 h5
        refine ⟨⟨fuel', k', m', h1, h2, hb.trans h3⟩, ?_⟩
        show 1 + (intOf (a'.tmps.getD 3 undef)).toNat < 1 + (intOf (a1.tmps.getD 3 undef)).toNat
        rw [atNext_fuel h1, atNext_fuel ha]
        simp only [intOf]
        omega
      · intro a' w' st h1 h2 h3 h4
        refine ⟨⟨st, h1, h2, h3, hb.trans h4⟩, ?_⟩
        show 0 < 1 + (intOf (a1.tmps.getD 3 undef)).toNat
        omega
      · intro a' w2 va h1 h2 h3 h4 h5 h6 h7
        have := HRet.out a' w2 0 va _ _ _ _ _ _ _ _ m1.acts (hb.trans h4) h5 (owns_mono h2 (by omega)) h3 h6 h7 (by rw [h1]) (by rw [h1]; exact resultV_slots _ _ _) (by rw [h1])
        exact this
    · exact hJ.elim
  case first =>
    go_wp2_with fail
    refine wp_quiet_tail 6 (by kernel_rfl) (by kernel_rfl) ?_
    simp only [List.take_succ_cons, List.take_zero, List.drop_succ_cons, List.drop_zero]
    repeat (go_big_quiet_step (fail))
    refine wpQuiet_nil ?_
    intro _ hw'
    obtain ⟨n3, hw''⟩ := hw'
    subst hw''
    go_wp2_with fail
    refine (HNew.out n3).mono ?_
    rintro e w1 ⟨rfl, hb1, hm1⟩
    have v0 : w1.cell? ⟨w.heap.size, 0, none⟩ = some (.slice ar nr cr) := (hb1.cell (p := ⟨w.heap.size, 0, none⟩) (by show w.heap.size < _; omega)).trans b0
    have v1 : w1.cell? ⟨w.heap.size, 1, none⟩ = some (.slice af nf cf) := (hb1.cell (p := ⟨w.heap.size, 1, none⟩) (by show w.heap.size < _; omega)).trans b1
    have v2 : w1.cell? ⟨w.heap.size, 2, none⟩ = some (.slice aa na ca) := (hb1.cell (p := ⟨w.heap.size, 2, none⟩) (by show w.heap.size < _; omega)).trans b2
    have HV : Hid (Calls Tryz.prog 50 #[.agg #[.slice ar nr cr, .slice af nf cf, .slice aa na ca]] w1 fun e w' => e = .returned (.bool (viewOk v)) ∧ Below w1.heap.size w1 w') := isView_any cr cf ca (hvW.keep (fun x hx => hb1.cell hx)) hb1.size
    have HB1 : Hid (Below W.heap.size W w1) := hb1
    have HM1 : Hid (Good v → MachIn W.heap.size (W.heap.size + 4) w1 (W.heap.size + 1 + 1 + 1) (W.heap.size + 1 + 1) v (machine0 x0 x1 x2 x3 x4 x5 x6 x7 n)) := hm1
    clear hb1 hm1
    go_wp2_with fail
    refine (HV.out).mono ?_
    rintro e w2 ⟨rfl, hb2⟩
    have HB2 : Hid (Below w1.heap.size w1 w2) := hb2
    clear hb2
    cases hok : viewOk v with
    | false =>
      have HF : Hid (o = ⟨3, [x0, x1, x2, x3, x4, x5, x6, x7], []⟩) := by
        show o = _
        rw [← HO.out]
        simp [runOut, hok]
      clear hok
      go_wp2
      go_step3
      have hb : Below W.heap.size W w2 := HB1.out.trans (HB2.out.mono HB1.out.size)
      refine ⟨3, ?_, HF.out, hres.keep hb e3, hb⟩
      unfold AtWrong
      (repeat apply Exists.intro)
      rfl
    | true =>
      have HF : Hid (Hx.runs v steps [x0, x1, x2, x3, x4, x5, x6, x7] fuel.toNat 0 (machine0 x0 x1 x2 x3 x4 x5 x6 x7 n) = o) := by
        show _ = o
        rw [← HO.out]
        simp [runOut, hok]
      have hgood := viewOk_good hok
      have HG : Hid (Good v) := hgood
      clear hok hgood
      go_wp2
      go_step3
      rename_i hK
      refine hK _ _ ?_
      have hb : Below W.heap.size W w2 := HB1.out.trans (HB2.out.mono HB1.out.size)
      have hm1 := HM1.out HG.out
      have hg : w1.grownBy w2 none := ⟨HB2.out.os, HB2.out.tape, HB2.out.output, HB2.out.size, fun k hk _ => HB2.out.block k hk⟩
      have hm2 := hm1.grow hg
      refine run_next (B := W.heap.size) (C := W.heap.size + 4) (M := W.heap.size + 1 + 1 + 1) (SB := W.heap.size + 1 + 1) (v := v) (steps := steps) (H := w.heap.size) (cb := cb) (co := co) (sb := sb) (so := so) (cap := cap) (fuel := fuel) (k := 0) (m := machine0 x0 x1 x2 x3 x4 x5 x6 x7 n) (o := o) (regs := [x0, x1, x2, x3, x4, x5, x6, x7]) (vv := .agg #[.slice ar nr cr, .slice af nf cf, .slice aa na ca]) (rv := .agg #[.int .i64 x0, .int .i64 x1, .int .i64 x2, .int .i64 x3, .int .i64 x4, .int .i64 x5, .int .i64 x6, .int .i64 x7]) hfit h8 e3 _ ?_ ?_ _ ?_ ?_ ?_
      · unfold AtNext
        (repeat apply Exists.intro)
        rfl
      · exact ⟨hm2, hcW.keep hb, hres.keep hb e3, by simp [machine0]; omega, by simp [machine0], by omega, by have := hfit.pos; omega, hfm, HF.out⟩
      · intro a' w' fuel' k' m' h1 h2 h3 _ _
        exact ⟨fuel', k', m', h1, h2, hb.trans h3⟩
      · intro a' w' st h1 h2 h3 h4
        exact ⟨st, h1, h2, h3, hb.trans h4⟩
      · intro a' w3 va h1 h2 h3 h4 h5 h6 h7
        have := HRet.out a' w3 0 va _ _ _ _ _ _ _ _ (machine0 x0 x1 x2 x3 x4 x5 x6 x7 n).acts (hb.trans h4) h5 (owns_mono h2 (by omega)) h3 h6 h7 (by rw [h1]) (by rw [h1]; exact resultV_slots _ _ _) (by rw [h1])
        exact this
end Go.Proofs.YthllhabjfchgiaaGreatDoor

/- PLAIN LAWS: what comes of a run. -/
namespace Go.Proofs.YthllhabjfchgiaaGreatDoor.Hx
open Go.RowKit

/-- actions such as a run may tell -/
structure ActsOk (v : Vw) (acts : List (Int × Int)) : Prop where
  each : ∀ a ∈ acts, (∃ r ∈ v.roads, r.id = a.1) ∧ ((∃ p ∈ v.fresh, p.seq = a.2) ∨ (∃ p ∈ v.again, p.seq = a.2))
  len : acts.length ≤ 256

def OutOk (v : Vw) (regs : List Int) (o : Out) : Prop := (o.status = 0 ∧ ActsOk v o.acts) ∨ ((o.status = 1 ∨ o.status = 2) ∧ o.regs = regs ∧ o.acts = [])

theorem acts_nil (v : Vw) : ActsOk v [] := ⟨fun _ h => (List.not_mem_nil h).elim, by simp⟩

theorem choose_acts (s : St) (b : Bool) (m : Mc) : (choose s b m).acts = m.acts := by
  unfold choose; split <;> rfl

theorem work_acts (v : Vw) (s : St) (m : Mc) : (work v s m).acts = m.acts := by
  unfold work
  repeat' split
  all_goals first | rfl | exact choose_acts _ _ _

theorem turn_acts (s : St) (k : Int) (m : Mc) : (turn s k m).1.acts = m.acts := by
  unfold turn; split <;> rfl

theorem push_acts {v : Vw} {i j : Int} {m m' : Mc} (h : push v i j m = some m') (ha : ActsOk v m.acts) : ActsOk v m'.acts := by
  unfold push at h
  split at h
  · rename_i r p hr hp
    split at h
    · cases h
    · rename_i hl
      cases h
      refine ⟨fun a h => ?_, ?_⟩
      · rcases List.mem_append.1 h with h | h
        · exact ha.each a h
        · rw [List.mem_singleton] at h
          subst h
          refine ⟨⟨r, Vw.mem_road hr, rfl⟩, ?_⟩
          rcases Vw.mem_packet hp with h | h
          · exact Or.inl ⟨p, h, rfl⟩
          · exact Or.inr ⟨p, h, rfl⟩
      · have := ha.len
        simp only [List.length_append, List.length_singleton]
        omega
  · cases h; exact ha

theorem step_acts {v : Vw} {S : List St} {regs : List Int} {k : Nat} {s : St} {m : Mc} (ha : ActsOk v m.acts) :
    (∀ o, step v S regs k s m = .inl o → OutOk v regs o) ∧ (∀ k' m', step v S regs k s m = .inr (k', m') → ActsOk v m'.acts) := by
  unfold step
  by_cases h1 : s.op = 1
  · simp only [if_pos h1]
    exact ⟨fun o h => by cases h; exact Or.inl ⟨rfl, ha⟩, fun k' m' h => by cases h⟩
  by_cases h2 : s.op = 2
  · simp only [if_neg h1, if_pos h2]
    exact ⟨fun o h => (by cases h), fun k' m' h => by cases h; exact ha⟩
  by_cases h3 : s.op = 3
  · simp only [if_neg h1, if_neg h2, if_pos h3]
    exact ⟨fun o h => (by cases h), fun k' m' h => by cases h; exact ha⟩
  by_cases h4 : s.op = 4
  · simp only [if_neg h1, if_neg h2, if_neg h3, if_pos h4]
    exact ⟨fun o h => (by cases h), fun k' m' h => by cases h; rw [turn_acts]; exact ha⟩
  by_cases h5 : s.op = 5
  · simp only [if_neg h1, if_neg h2, if_neg h3, if_neg h4, if_pos h5]
    split
    · split
      · exact ⟨fun o h => (by cases h), fun k' m' h => by cases h; rw [turn_acts]; exact ha⟩
      · exact ⟨fun o h => by cases h; exact Or.inr ⟨Or.inr rfl, rfl, rfl⟩, fun k' m' h => by cases h⟩
    · exact ⟨fun o h => (by cases h), fun k' m' h => by cases h; exact ha⟩
  by_cases h0 : s.op = 0
  · simp only [if_neg h1, if_neg h2, if_neg h3, if_neg h4, if_neg h5, if_pos h0]
    split
    · exact ⟨fun o h => (by cases h), fun k' m' h => by cases h; rw [turn_acts]; exact ha⟩
    · exact ⟨fun o h => by cases h; exact Or.inr ⟨Or.inr rfl, rfl, rfl⟩, fun k' m' h => by cases h⟩
  by_cases h36 : s.op = 36
  · simp only [if_neg h1, if_neg h2, if_neg h3, if_neg h4, if_neg h5, if_neg h0, if_pos h36]
    cases hp : push v (m.get s.a) (m.get s.b) m with
    | none => exact ⟨fun o h => by cases h; exact Or.inr ⟨Or.inl rfl, rfl, rfl⟩, fun k' m' h => by cases h⟩
    | some m1 => exact ⟨fun o h => (by cases h), fun k' m' h => by cases h; exact push_acts hp ha⟩
  · simp only [if_neg h1, if_neg h2, if_neg h3, if_neg h4, if_neg h5, if_neg h0, if_neg h36]
    exact ⟨fun o h => (by cases h), fun k' m' h => by cases h; rw [work_acts]; exact ha⟩

theorem runs_ok (v : Vw) (S : List St) (regs : List Int) : ∀ (f : Nat) (k : Int) (m : Mc), ActsOk v m.acts → OutOk v regs (runs v S regs f k m)
  | 0, _, _, _ => Or.inr ⟨Or.inr rfl, rfl, rfl⟩
  | f + 1, k, m, ha => by
    simp only [runs]
    cases hk : S[k.toNat]? with
    | none => exact Or.inr ⟨Or.inr rfl, rfl, rfl⟩
    | some s =>
      obtain ⟨g1, g2⟩ := step_acts (v := v) (S := S) (regs := regs) (k := k.toNat) (s := s) ha
      simp only
      cases hs : step v S regs k.toNat s m with
      | inl o => exact g1 o hs
      | inr p =>
        obtain ⟨k', m'⟩ := p
        exact runs_ok v S regs f k' m' (g2 k' m' hs)
end Go.Proofs.YthllhabjfchgiaaGreatDoor.Hx

/- (*loader).instruction. -/
namespace Go.Proofs.YthllhabjfchgiaaGreatDoor
open Go.RowKit
open Hx (St Bk Ls In64 Inv)
attribute [local go_sem ↓] Go.wp_at_zero Go.wp_at_succ
attribute [local go_sem] setCell_drewN'
variable {B : Nat} {w : World} {L : Nat} {s : ByteArray} {l : Ls} {vs vb vl : Value}

/-- what a callee of instruction leaves -/
def Acts (B : Nat) (w : World) (L : Nat) (s : ByteArray) (vs vb vl : Value) (l' : Ls) (e : Ending) (w' : World) : Prop :=
  e = .returned (.tuple #[]) ∧ ∃ vs' vb' vl', LoadIn B w' L s l' vs' vb' vl' ∧ Moves L w vs vb vl w' vs' vb' vl'

def stepV (st : St) : Value := .agg #[.int .u8 st.op, .int .i64 st.a, .int .i64 st.b, .int .i64 st.c, .int .i64 st.d, .int .i64 st.depth, .int .i64 st.to]

section
set_option linter.unusedVariables false

theorem act_open (h : LoadIn B w L s l vs vb vl) (hi : Inv l) (hl : l.steps.length ≤ 100000) (st : St) (ho : st.op = 2) : Calls Tryz.prog 113 #[.pointer (some ⟨L, 0, none⟩), stepV st] w (Acts B w L s vs vb vl (instr l st)) := by
  obtain ⟨b1, b2⟩ := hi.blocks
  refine (open_any h b1 (by omega) (by omega) st.op st.a st.b st.c st.d st.depth st.to).mono ?_
  rintro e w' ⟨h1, vs', vb', h2, h3⟩
  refine ⟨h1, vs', vb', vl, ?_, h3⟩
  rw [show instr l st = openStep l st by simp [instr, ho]]
  exact h2

theorem act_loop (h : LoadIn B w L s l vs vb vl) (hi : Inv l) (hl : l.steps.length ≤ 100000) (st : St) (ho : st.op = 4) : Calls Tryz.prog 114 #[.pointer (some ⟨L, 0, none⟩), stepV st] w (Acts B w L s vs vb vl (instr l st)) := by
  obtain ⟨b1, b2⟩ := hi.blocks
  have h8 := hi.eight
  by_cases hx : l.loops.length = 8
  · refine (openLoop_full h hx st.op st.a st.b st.c st.d st.depth st.to).mono ?_
    rintro e w' ⟨h1, h2, h3⟩
    refine ⟨h1, vs, vb, vl, ?_, h3⟩
    rw [show instr l st = { l with bad := true } by simp [instr, ho, hx]]
    exact h2
  · refine (openLoop_more h b1 (by omega) (by omega) (by omega) st.op st.a st.b st.c st.d st.depth st.to).mono ?_
    rintro e w' ⟨h1, vs', vb', vl', h2, h3⟩
    refine ⟨h1, vs', vb', vl', ?_, h3⟩
    rw [show instr l st = loopStep l st by simp [instr, ho, hx]]
    exact h2

theorem act_divide (h : LoadIn B w L s l vs vb vl) (hi : Inv l) (hl : l.steps.length ≤ 100000) (st : St) (ho : st.op = 3) : Calls Tryz.prog 115 #[.pointer (some ⟨L, 0, none⟩), stepV st] w (Acts B w L s vs vb vl (instr l st)) := by
  obtain ⟨b1, b2⟩ := hi.blocks
  have b0 : 0 < l.blocks.length := List.length_pos_iff.2 b1
  by_cases hx : l.blocks.length = 1
  · refine (divide_one h hx st.op st.a st.b st.c st.d st.depth st.to).mono ?_
    rintro e w' ⟨h1, h2, h3⟩
    refine ⟨h1, vs, vb, vl, ?_, h3⟩
    rw [show instr l st = { l with bad := true } by simp [instr, ho, hx]]
    exact h2
  have hb2 : 2 ≤ l.blocks.length := by omega
  have hb9 : l.blocks.length ≤ 900000 := by omega
  have hl9 : l.steps.length ≤ 900000 := by omega
  have h89 : l.loops.length ≤ 900000 := by have := hi.eight; omega
  obtain ⟨init, bo, b, e⟩ := hi.split2 hx
  have hc := hi.chain
  rw [e, Hx.rev2] at hc
  obtain ⟨o, so, c1, c2, c3, c4, c5⟩ := hc
  have ht : l.top = b := Hx.top_eq e
  have hto : l.top.opener = o := by rw [ht, c1]
  by_cases hy : 0 < l.top.other
  · refine (divide_other h hb2 hb9 hy st.op st.a st.b st.c st.d st.depth st.to).mono ?_
    rintro e w' ⟨h1, h2, h3⟩
    refine ⟨h1, vs, vb, vl, ?_, h3⟩
    rw [show instr l st = { l with bad := true } by simp [instr, ho, hy]]
    exact h2
  by_cases hz : so.op = 2
  · refine (divide_good h hb2 hb9 hl9 hy o so c3 hto hz st.op st.a st.b st.c st.d st.depth st.to).mono ?_
    rintro e w' ⟨h1, vs', vb', vl', h2, h3⟩
    refine ⟨h1, vs', vb', vl', ?_, h3⟩
    rw [show instr l st = divideAt l st o so by simp [instr, ho, hx, hy, hto, c3, hz]]
    exact h2
  · refine (divide_wrong h hb2 hb9 hy o so c3 hto hz st.op st.a st.b st.c st.d st.depth st.to).mono ?_
    rintro e w' ⟨h1, h2, h3⟩
    refine ⟨h1, vs, vb, vl, ?_, h3⟩
    rw [show instr l st = { l with bad := true } by simp [instr, ho, hx, hy, hto, c3, hz]]
    exact h2

theorem act_end (h : LoadIn B w L s l vs vb vl) (hi : Inv l) (hl : l.steps.length ≤ 100000) (st : St) (ho : st.op = 0) : Calls Tryz.prog 116 #[.pointer (some ⟨L, 0, none⟩), stepV st] w (Acts B w L s vs vb vl (instr l st)) := by
  obtain ⟨b1, b2⟩ := hi.blocks
  have b0 : 0 < l.blocks.length := List.length_pos_iff.2 b1
  have h8 := hi.eight
  by_cases hx : l.blocks.length = 1
  · refine (end_code h hx (by omega) st.op st.a st.b st.c st.d st.depth st.to).mono ?_
    rintro e w' ⟨h1, vs', vb', vl', h2, h3⟩
    refine ⟨h1, vs', vb', vl', ?_, h3⟩
    rw [show instr l st = endCodeAt l by simp [instr, ho, hx]]
    exact h2
  have hb2 : 2 ≤ l.blocks.length := by omega
  have hb9 : l.blocks.length ≤ 900000 := by omega
  have hl9 : l.steps.length ≤ 900000 := by omega
  have h89 : l.loops.length ≤ 900000 := by have := hi.eight; omega
  obtain ⟨init, bo, b, e⟩ := hi.split2 hx
  have hc := hi.chain
  rw [e, Hx.rev2] at hc
  obtain ⟨o, so, c1, c2, c3, c4, c5⟩ := hc
  have ht : l.top = b := Hx.top_eq e
  have hto : l.top.opener = o := by rw [ht, c1]
  by_cases hz : so.op = 4
  · have hlo := hi.loops
    rcases c4 with ⟨a1, a2, a3, a4, _⟩ | ⟨a1, _⟩ | ⟨a1, _⟩
    · have hlo' : l.loops = ((Hx.stk l.steps o).reverse.map Int.ofNat) ++ [(o : Int)] := by rw [hlo, a4]; simp
      refine (end_loop h hb2 hb9 o so c3 hto hz _ _ hlo' h89 hl9 st.op st.a st.b st.c st.d st.depth st.to).mono ?_
      rintro e w' ⟨h1, vs', vb', vl', h2, h3⟩
      refine ⟨h1, vs', vb', vl', ?_, h3⟩
      rw [show instr l st = endLoopAt l st o so by simp [instr, ho, hx, hto, c3, hz]]
      exact h2
    · omega
    · omega
  · rcases c4 with ⟨a1, _⟩ | ⟨a1, a2, _⟩ | ⟨a1, x, t, a2, a3, a4, a5, _⟩
    · exact absurd a1 hz
    · have hy : ¬ 0 < l.top.other := by rw [ht, a2]; omega
      refine (end_if_only h hb2 hb9 o so c3 hto hz hy st.op st.a st.b st.c st.d st.depth st.to).mono ?_
      rintro e w' ⟨h1, vs', vb', vl', h2, h3⟩
      refine ⟨h1, vs', vb', vl', ?_, h3⟩
      rw [show instr l st = endIfAt l o so l.blocks.dropLast l.top by simp [instr, ho, hx, hto, c3, hz, hy]]
      exact h2
    · have hox : l.top.other = x := by rw [ht, a2]
      have hy : 0 < l.top.other := by rw [hox]; omega
      refine (end_if_other h hb2 hb9 o so c3 hto hz x t a5 (by omega) hox st.op st.a st.b st.c st.d st.depth st.to).mono ?_
      rintro e w' ⟨h1, vs', vb', vl', h2, h3⟩
      refine ⟨h1, vs', vb', vl', ?_, h3⟩
      have hx0 : 0 < x := by omega
      rw [show instr l st = endIfAt l x t l.blocks.dropLast l.top by simp [instr, ho, hx, hto, c3, hz, hox, hx0, a5]]
      exact h2

theorem act_skip (h : LoadIn B w L s l vs vb vl) (hi : Inv l) (hl : l.steps.length ≤ 100000) (st : St) (ho : st.op = 5) : Calls Tryz.prog 117 #[.pointer (some ⟨L, 0, none⟩), stepV st] w (Acts B w L s vs vb vl (instr l st)) := by
  obtain ⟨b1, b2⟩ := hi.blocks
  have h8 := hi.eight
  rcases List.eq_nil_or_concat l.loops with hx | ⟨init, x, hx⟩
  · refine (skip_none h hx st.op st.a st.b st.c st.d st.depth st.to).mono ?_
    rintro e w' ⟨h1, h2, h3⟩
    refine ⟨h1, vs, vb, vl, ?_, h3⟩
    rw [show instr l st = { l with bad := true } by simp [instr, ho, hx, skipStep]]
    exact h2
  · rw [List.concat_eq_append] at hx
    refine (skip_some h b1 (by omega) (by omega) (by omega) init x hx st.op st.a st.b st.c st.d st.depth st.to).mono ?_
    rintro e w' ⟨h1, vs', h2, h3⟩
    refine ⟨h1, vs', vb, vl, ?_, h3⟩
    rw [show instr l st = addStep l ⟨st.op, st.a, st.b, st.c, st.d, st.depth, x⟩ by simp [instr, ho, hx, skipStep]]
    exact h2

theorem act_add (h : LoadIn B w L s l vs vb vl) (hi : Inv l) (hl : l.steps.length ≤ 100000) (st : St) (h0 : ¬ st.op = 0) (h2 : ¬ st.op = 2) (h3 : ¬ st.op = 3) (h4 : ¬ st.op = 4) (h5 : ¬ st.op = 5) : Calls Tryz.prog 118 #[.pointer (some ⟨L, 0, none⟩), stepV st] w (Acts B w L s vs vb vl (instr l st)) := by
  obtain ⟨b1, b2⟩ := hi.blocks
  refine (add_any h b1 (by omega) (by omega) st.op st.a st.b st.c st.d st.depth st.to).mono ?_
  rintro e w' ⟨g1, vs', g2, g3⟩
  refine ⟨g1, vs', vb, vl, ?_, g3⟩
  rw [show instr l st = addStep l st by simp [instr, h0, h2, h3, h4, h5]]
  exact g2
end
end Go.Proofs.YthllhabjfchgiaaGreatDoor

/- (*loader).instruction, whole. -/
namespace Go.Proofs.YthllhabjfchgiaaGreatDoor
open Go.RowKit
open Hx (St Bk Ls In64 Inv)
attribute [local go_sem ↓] Go.wp_at_zero Go.wp_at_succ
attribute [local go_sem] setCell_drewN'
variable {B : Nat} {w : World} {L : Nat} {s : ByteArray} {l : Ls} {vs vb vl : Value}

/-- what instruction leaves -/
def Instr1 (B : Nat) (w : World) (L : Nat) (s : ByteArray) (vs vb vl : Value) (Q : Ls → Prop) (e : Ending) (w' : World) : Prop :=
  e = .returned (.tuple #[]) ∧ ∃ l' vs' vb' vl', LoadIn B w' L s l' vs' vb' vl' ∧ Moves L w vs vb vl w' vs' vb' vl' ∧ Q l'

set_option maxRecDepth 100000 in
set_option maxHeartbeats 1000000 in
theorem instr_bad (HR : Hid (Calls Tryz.prog 112 #[.pointer (some ⟨L, 0, none⟩)] w fun e w' => ∃ l' x0 x1 x2 x3 x4, LoadIn B w' L s l' vs vb vl ∧ Moves L w vs vb vl w' vs vb vl ∧ e = .returned (.tuple #[.agg #[.int .u8 x0, .int .i64 x1, .int .i64 x2, .int .i64 x3, .int .i64 x4, .int .i64 0, .int .i64 0], .bool false]))) :
    Calls Tryz.prog 72 #[.pointer (some ⟨L, 0, none⟩)] w (Instr1 B w L s vs vb vl fun l' => l'.bad = true) := by
  go_enter Tryz.func72, Tryz.ntmps72
  go_wp2_with fail
  refine HR.out.mono ?_
  rintro e w1 ⟨l', x0, x1, x2, x3, x4, h1, h2, rfl⟩
  have c7 := h1.c7
  have f7 := h1.fr 7
  have hL := h1.lt
  have n1 : ¬ L = w1.heap.size := by omega
  have HP : Hid (∀ o, LoadIn B ((w1.setCell ⟨L, 7, none⟩ (.bool true)).alloc o) L s { l' with bad := true } vs vb vl ∧ Moves L w vs vb vl ((w1.setCell ⟨L, 7, none⟩ (.bool true)).alloc o) vs vb vl) := fun o =>
    ⟨h1.putBad.alloc o, h2.trans ((Moves.own L w1 vs vb vl 7 _).trans (Moves.grow L _ _ _ _ (World.grownBy_alloc _ o none)))⟩
  clear h1 h2 HR
  go_wp2_with fail
  go_end0
  exact ⟨rfl, _, _, _, _, (HP.out _).1, (HP.out _).2, rfl⟩

set_option maxRecDepth 100000 in
set_option maxHeartbeats 1000000 in
theorem instr_good (l1 : Ls) (hi : Inv l1) (hl : l1.steps.length ≤ 100000) (st : St) (hd : st.depth = 0) (ht : st.to = 0)
    (HR : Hid (Calls Tryz.prog 112 #[.pointer (some ⟨L, 0, none⟩)] w fun e w' => LoadIn B w' L s l1 vs vb vl ∧ Moves L w vs vb vl w' vs vb vl ∧ e = .returned (.tuple #[stepV st, .bool true]))) :
    Calls Tryz.prog 72 #[.pointer (some ⟨L, 0, none⟩)] w (Instr1 B w L s vs vb vl fun l' => l' = instr l1 st) := by
  obtain ⟨q, a, b, c, d, dp, t⟩ := st
  simp only at hd ht
  subst hd
  subst ht
  have HF : Hid (∀ w1 o e w', LoadIn B w1 L s l1 vs vb vl → Moves L w vs vb vl w1 vs vb vl → Acts B (w1.alloc o) L s vs vb vl (instr l1 ⟨q, a, b, c, d, 0, 0⟩) e w' → Instr1 B w L s vs vb vl (fun l' => l' = instr l1 ⟨q, a, b, c, d, 0, 0⟩) e w') := by
    rintro w1 o e w' h1 h2 ⟨h3, vs', vb', vl', h4, h5⟩
    exact ⟨h3, _, _, _, _, h4, h2.trans ((Moves.grow L w1 _ _ _ (World.grownBy_alloc _ o none)).trans h5), rfl⟩
  by_cases o2 : q = 2
  · subst o2
    go_enter Tryz.func72, Tryz.ntmps72
    go_wp2_with fail
    refine HR.out.mono ?_
    rintro e w1 ⟨h1, h2, rfl⟩
    have HC : Hid (∀ o, Calls Tryz.prog 113 #[.pointer (some ⟨L, 0, none⟩), .agg #[.int .u8 2, .int .i64 a, .int .i64 b, .int .i64 c, .int .i64 d, .int .i64 0, .int .i64 0]] (w1.alloc o) (Acts B (w1.alloc o) L s vs vb vl (instr l1 ⟨2, a, b, c, d, 0, 0⟩))) := fun o => act_open (h1.alloc o) hi hl ⟨2, a, b, c, d, 0, 0⟩ rfl
    have HG : Hid (∀ o e w', Acts B (w1.alloc o) L s vs vb vl (instr l1 ⟨2, a, b, c, d, 0, 0⟩) e w' → Instr1 B w L s vs vb vl (fun l' => l' = instr l1 ⟨2, a, b, c, d, 0, 0⟩) e w') := fun o e w' ha => HF.out w1 o e w' h1 h2 ha
    clear h1 h2 HR hi HF
    simp only [stepV]
    go_wp2_with fail
    refine (HC.out _).mono ?_
    intro e w2 ha
    have hg := HG.out _ _ _ ha
    obtain ⟨rfl, _⟩ := ha
    have HH : Hid (Instr1 B w L s vs vb vl (fun l' => l' = instr l1 ⟨2, a, b, c, d, 0, 0⟩) (.returned (.tuple #[])) w2) := hg
    clear hg
    go_wp2_with fail
    go_end0
    exact HH.out
  by_cases o4 : q = 4
  · subst o4
    go_enter Tryz.func72, Tryz.ntmps72
    go_wp2_with fail
    refine HR.out.mono ?_
    rintro e w1 ⟨h1, h2, rfl⟩
    have HC : Hid (∀ o, Calls Tryz.prog 114 #[.pointer (some ⟨L, 0, none⟩), .agg #[.int .u8 4, .int .i64 a, .int .i64 b, .int .i64 c, .int .i64 d, .int .i64 0, .int .i64 0]] (w1.alloc o) (Acts B (w1.alloc o) L s vs vb vl (instr l1 ⟨4, a, b, c, d, 0, 0⟩))) := fun o => act_loop (h1.alloc o) hi hl ⟨4, a, b, c, d, 0, 0⟩ rfl
    have HG : Hid (∀ o e w', Acts B (w1.alloc o) L s vs vb vl (instr l1 ⟨4, a, b, c, d, 0, 0⟩) e w' → Instr1 B w L s vs vb vl (fun l' => l' = instr l1 ⟨4, a, b, c, d, 0, 0⟩) e w') := fun o e w' ha => HF.out w1 o e w' h1 h2 ha
    clear h1 h2 HR hi HF
    simp only [stepV]
    go_wp2_with fail
    refine (HC.out _).mono ?_
    intro e w2 ha
    have hg := HG.out _ _ _ ha
    obtain ⟨rfl, _⟩ := ha
    have HH : Hid (Instr1 B w L s vs vb vl (fun l' => l' = instr l1 ⟨4, a, b, c, d, 0, 0⟩) (.returned (.tuple #[])) w2) := hg
    clear hg
    go_wp2_with fail
    go_end0
    exact HH.out
  by_cases o3 : q = 3
  · subst o3
    go_enter Tryz.func72, Tryz.ntmps72
    go_wp2_with fail
    refine HR.out.mono ?_
    rintro e w1 ⟨h1, h2, rfl⟩
    have HC : Hid (∀ o, Calls Tryz.prog 115 #[.pointer (some ⟨L, 0, none⟩), .agg #[.int .u8 3, .int .i64 a, .int .i64 b, .int .i64 c, .int .i64 d, .int .i64 0, .int .i64 0]] (w1.alloc o) (Acts B (w1.alloc o) L s vs vb vl (instr l1 ⟨3, a, b, c, d, 0, 0⟩))) := fun o => act_divide (h1.alloc o) hi hl ⟨3, a, b, c, d, 0, 0⟩ rfl
    have HG : Hid (∀ o e w', Acts B (w1.alloc o) L s vs vb vl (instr l1 ⟨3, a, b, c, d, 0, 0⟩) e w' → Instr1 B w L s vs vb vl (fun l' => l' = instr l1 ⟨3, a, b, c, d, 0, 0⟩) e w') := fun o e w' ha => HF.out w1 o e w' h1 h2 ha
    clear h1 h2 HR hi HF
    simp only [stepV]
    go_wp2_with fail
    refine (HC.out _).mono ?_
    intro e w2 ha
    have hg := HG.out _ _ _ ha
    obtain ⟨rfl, _⟩ := ha
    have HH : Hid (Instr1 B w L s vs vb vl (fun l' => l' = instr l1 ⟨3, a, b, c, d, 0, 0⟩) (.returned (.tuple #[])) w2) := hg
    clear hg
    go_wp2_with fail
    go_end0
    exact HH.out
  by_cases o0 : q = 0
  · subst o0
    go_enter Tryz.func72, Tryz.ntmps72
    go_wp2_with fail
    refine HR.out.mono ?_
    rintro e w1 ⟨h1, h2, rfl⟩
    have HC : Hid (∀ o, Calls Tryz.prog 116 #[.pointer (some ⟨L, 0, none⟩), .agg #[.int .u8 0, .int .i64 a, .int .i64 b, .int .i64 c, .int .i64 d, .int .i64 0, .int .i64 0]] (w1.alloc o) (Acts B (w1.alloc o) L s vs vb vl (instr l1 ⟨0, a, b, c, d, 0, 0⟩))) := fun o => act_end (h1.alloc o) hi hl ⟨0, a, b, c, d, 0, 0⟩ rfl
    have HG : Hid (∀ o e w', Acts B (w1.alloc o) L s vs vb vl (instr l1 ⟨0, a, b, c, d, 0, 0⟩) e w' → Instr1 B w L s vs vb vl (fun l' => l' = instr l1 ⟨0, a, b, c, d, 0, 0⟩) e w') := fun o e w' ha => HF.out w1 o e w' h1 h2 ha
    clear h1 h2 HR hi HF
    simp only [stepV]
    go_wp2_with fail
    refine (HC.out _).mono ?_
    intro e w2 ha
    have hg := HG.out _ _ _ ha
    obtain ⟨rfl, _⟩ := ha
    have HH : Hid (Instr1 B w L s vs vb vl (fun l' => l' = instr l1 ⟨0, a, b, c, d, 0, 0⟩) (.returned (.tuple #[])) w2) := hg
    clear hg
    go_wp2_with fail
    go_end0
    exact HH.out
  by_cases o5 : q = 5
  · subst o5
    go_enter Tryz.func72, Tryz.ntmps72
    go_wp2_with fail
    refine HR.out.mono ?_
    rintro e w1 ⟨h1, h2, rfl⟩
    have HC : Hid (∀ o, Calls Tryz.prog 117 #[.pointer (some ⟨L, 0, none⟩), .agg #[.int .u8 5, .int .i64 a, .int .i64 b, .int .i64 c, .int .i64 d, .int .i64 0, .int .i64 0]] (w1.alloc o) (Acts B (w1.alloc o) L s vs vb vl (instr l1 ⟨5, a, b, c, d, 0, 0⟩))) := fun o => act_skip (h1.alloc o) hi hl ⟨5, a, b, c, d, 0, 0⟩ rfl
    have HG : Hid (∀ o e w', Acts B (w1.alloc o) L s vs vb vl (instr l1 ⟨5, a, b, c, d, 0, 0⟩) e w' → Instr1 B w L s vs vb vl (fun l' => l' = instr l1 ⟨5, a, b, c, d, 0, 0⟩) e w') := fun o e w' ha => HF.out w1 o e w' h1 h2 ha
    clear h1 h2 HR hi HF
    simp only [stepV]
    go_wp2_with fail
    refine (HC.out _).mono ?_
    intro e w2 ha
    have hg := HG.out _ _ _ ha
    obtain ⟨rfl, _⟩ := ha
    have HH : Hid (Instr1 B w L s vs vb vl (fun l' => l' = instr l1 ⟨5, a, b, c, d, 0, 0⟩) (.returned (.tuple #[])) w2) := hg
    clear hg
    go_wp2_with fail
    go_end0
    exact HH.out
  have e0 : (q == 0) = false := by simpa using o0
  have e2 : (q == 2) = false := by simpa using o2
  have e3 : (q == 3) = false := by simpa using o3
  have e4 : (q == 4) = false := by simpa using o4
  have e5 : (q == 5) = false := by simpa using o5
  go_enter Tryz.func72, Tryz.ntmps72
  go_wp2_with fail
  refine HR.out.mono ?_
  rintro e w1 ⟨h1, h2, rfl⟩
  have HC : Hid (∀ o, Calls Tryz.prog 118 #[.pointer (some ⟨L, 0, none⟩), .agg #[.int .u8 q, .int .i64 a, .int .i64 b, .int .i64 c, .int .i64 d, .int .i64 0, .int .i64 0]] (w1.alloc o) (Acts B (w1.alloc o) L s vs vb vl (instr l1 ⟨q, a, b, c, d, 0, 0⟩))) := fun o => act_add (h1.alloc o) hi hl ⟨q, a, b, c, d, 0, 0⟩ o0 o2 o3 o4 o5
  have HG : Hid (∀ o e w', Acts B (w1.alloc o) L s vs vb vl (instr l1 ⟨q, a, b, c, d, 0, 0⟩) e w' → Instr1 B w L s vs vb vl (fun l' => l' = instr l1 ⟨q, a, b, c, d, 0, 0⟩) e w') := fun o e w' ha => HF.out w1 o e w' h1 h2 ha
  clear h1 h2 HR hi HF
  simp only [stepV]
  go_wp2_with fail
  refine (HC.out _).mono ?_
  intro e w2 ha
  have hg := HG.out _ _ _ ha
  obtain ⟨rfl, _⟩ := ha
  have HH : Hid (Instr1 B w L s vs vb vl (fun l' => l' = instr l1 ⟨q, a, b, c, d, 0, 0⟩) (.returned (.tuple #[])) w2) := hg
  clear hg
  go_wp2_with fail
  go_end0
  exact HH.out

/-- what instruction does -/
def After (bs : List UInt8) (l l' : Ls) : Prop := match readStep bs l with
  | none => l'.bad = true
  | some (st, l1) => l' = instr l1 st

theorem instruction_any (h : LoadIn B w L s l vs vb vl) (hi : Inv l) (p : Nat) (hp : l.pos = p) (hps : p ≤ s.size) (hs : s.size ≤ 100000) (hl : l.steps.length ≤ p) :
    Calls Tryz.prog 72 #[.pointer (some ⟨L, 0, none⟩)] w (Instr1 B w L s vs vb vl fun l' => After s.data.toList l l') := by
  have hlen : s.data.toList.length = s.size := by simp
  by_cases he : p = s.size
  · have hn : readStep s.data.toList l = none := by
      unfold readStep
      rw [List.getElem?_eq_none (by omega)]
    simp only [After, hn]
    refine instr_bad ((read_end h (by omega)).mono ?_)
    rintro e w' ⟨rfl, hg⟩
    exact ⟨l, _, _, _, _, _, h.grow hg, Moves.grow L w vs vb vl hg, rfl⟩
  · have hlt : p < s.size := by omega
    have hb : s.data.toList[l.pos.toNat]? = some s[p] := by
      have e1 : l.pos.toNat = p := by omega
      rw [e1, List.getElem?_eq_getElem (by omega)]
      rfl
    have hpt : l.pos.toNat + 1 = p + 1 := by omega
    have hR := read_more h p hp hlt hs _ rfl
    cases hr : readNums s.data.toList (Hx.shape s[p].toNat) (p + 1) l.slots with
    | none =>
      have hn : readStep s.data.toList l = none := by
        unfold readStep
        rw [hb]
        simp only [hpt, hr]
        split <;> rfl
      simp only [After, hn]
      refine instr_bad (hR.mono ?_)
      rintro e w' ⟨l', h1, h2, ⟨ns, p', sl', h3, _⟩ | ⟨_, _, rfl⟩⟩
      · rw [hr] at h3; cases h3
      · exact ⟨l', _, _, _, _, _, h1, h2, rfl⟩
    | some r =>
      obtain ⟨ns, p', sl'⟩ := r
      cases hop : Hx.isOp s[p].toNat with
      | false =>
        have hn : readStep s.data.toList l = none := by
          unfold readStep
          rw [hb]
          simp [hop]
        simp only [After, hn]
        refine instr_bad (hR.mono ?_)
        rintro e w' ⟨l', h1, h2, ⟨ns, p', sl', h3, _, rfl⟩ | ⟨h3, _⟩⟩
        · rw [hop]; exact ⟨l', _, _, _, _, _, h1, h2, rfl⟩
        · rw [hr] at h3; cases h3
      | true =>
        have hn : readStep s.data.toList l = some (⟨s[p].toNat, ns.getD 0 0, ns.getD 1 0, ns.getD 2 0, ns.getD 3 0, 0, 0⟩, { l with pos := p', slots := sl' }) := by
          unfold readStep
          rw [hb]
          simp [hop, hpt, hr]
        have hok := Hx.readStep_ok hn (by omega) hi.slots
        simp only [After, hn]
        refine instr_good { l with pos := p', slots := sl' } (hi.read hok.2.2.2.1 hok.2.2.2.2.1) (by show l.steps.length ≤ 100000; omega) _ rfl rfl (hR.mono ?_)
        rintro e w' ⟨l', h1, h2, ⟨ns', p'', sl'', h3, h4, rfl⟩ | ⟨h3, _⟩⟩
        · rw [hr] at h3
          cases h3
          subst h4
          rw [hop]
          exact ⟨h1, h2, rfl⟩
        · rw [hr] at h3; cases h3
end Go.Proofs.YthllhabjfchgiaaGreatDoor
