import Derived.Test.YthllhabjfchgiaaGreatDoorHy16
import Derived.Test.YthllhabjfchgiaaGreatDoorHy13
/- (*Code).Run whole: the contract. -/
namespace Go.Proofs.YthllhabjfchgiaaGreatDoor
open Go.RowKit
open Hx (Rd Pk Vw St Mc In64 Out)

/-- what a run comes to -/
def runOut (v : Vw) (steps : List St) (n : Nat) (fuel x0 x1 x2 x3 x4 x5 x6 x7 : Int) : Out :=
  if viewOk v = true then Hx.runs v steps [x0, x1, x2, x3, x4, x5, x6, x7] fuel.toNat 0 (machine0 x0 x1 x2 x3 x4 x5 x6 x7 n) else ⟨3, [x0, x1, x2, x3, x4, x5, x6, x7], []⟩

theorem owns_mono {w : World} {b b' : Nat} {e : TypeId} {size : Nat} {u : Value} {n : Nat} {xs : List Value} (h : w.ownsRow b e size u n xs) (hb : b' ≤ b) : w.ownsRow b' e size u n xs := by
  refine ⟨h.1, ?_⟩
  rcases h.2 with h | ⟨g, cap, cur, h1, h2, h3⟩
  · exact Or.inl h
  · exact Or.inr ⟨g, cap, cur, h1, by omega, h3⟩

theorem resultV_slots (st : Int) (va : Value) (l : List Int) : resultV st va l = resultV st va [l.getD 0 0, l.getD 1 0, l.getD 2 0, l.getD 3 0, l.getD 4 0, l.getD 5 0, l.getD 6 0, l.getD 7 0] := by
  simp [resultV]

set_option maxRecDepth 1000000 in
set_option maxHeartbeats 4000000 in
theorem run_any (w : World) (cb co sb so cap n : Nat) (steps : List St) (v : Vw) (ar af aa : Option Addr) (nr cr nf cf na ca : Nat) (x0 x1 x2 x3 x4 x5 x6 x7 fuel : Int)
    (hfit : Hx.Fits steps n) (h8 : 8 ≤ n) (hn : n ≤ 100000) (hc : CodeIn w.heap.size w cb co sb so cap steps) (hsl : w.cell? ⟨cb, co + 1, none⟩ = some (.int .i64 n))
    (hv : ViewV w.heap.size w ar af aa nr nf na v) (hT : Tab64 w) (hone : 1 < w.heap.size) (hx : ∀ x ∈ [x0, x1, x2, x3, x4, x5, x6, x7], In64 x) (hfm : fuel ≤ 9223372036854775807) :
    Calls Tryz.prog 16 #[.pointer (some ⟨cb, co, none⟩), .agg #[.slice ar nr cr, .slice af nf cf, .slice aa na ca], .agg #[.int .i64 x0, .int .i64 x1, .int .i64 x2, .int .i64 x3, .int .i64 x4, .int .i64 x5, .int .i64 x6, .int .i64 x7], .int .i64 fuel] w fun e w' =>
      ∃ va, e = .returned (resultV (runOut v steps n fuel x0 x1 x2 x3 x4 x5 x6 x7).status va (runOut v steps n fuel x0 x1 x2 x3 x4 x5 x6 x7).regs) ∧
        w'.ownsRow w.heap.size 76 2 va (runOut v steps n fuel x0 x1 x2 x3 x4 x5 x6 x7).acts.length (actCells (runOut v steps n fuel x0 x1 x2 x3 x4 x5 x6 x7).acts) ∧ Below w.heap.size w w' := by
  generalize ho : runOut v steps n fuel x0 x1 x2 x3 x4 x5 x6 x7 = o
  -- the boxes
  generalize hW : boxes w ar af aa nr cr nf cf na ca x0 x1 x2 x3 x4 x5 x6 x7 = W
  have hsz : W.heap.size = w.heap.size + 1 + 1 + 1 := by rw [← hW]; exact boxes_size ..
  have hold : w.grownBy W none := by rw [← hW]; exact boxes_old ..
  have hview : ∀ k, W.cell? ⟨w.heap.size, k, none⟩ = #[Value.slice ar nr cr, .slice af nf cf, .slice aa na ca][k]? := fun k => by rw [← hW]; exact boxes_view ..
  have hregs : RegBox W w.heap.size x0 x1 x2 x3 x4 x5 x6 x7 := by rw [← hW]; exact boxes_regs w ar af aa nr cr nf cf na ca x0 x1 x2 x3 x4 x5 x6 x7
  have hres : ResCell W w.heap.size := by rw [← hW]; exact boxes_res ..
  have hcell : ∀ x : Addr, x.block < w.heap.size → W.cell? x = w.cell? x := fun x hx => World.cell?_of_block (hold.block _ hx (by simp))
  have hbelow : Below w.heap.size w W := (Below.refl _ _).grown hold (Nat.le_refl _) (by simp)
  have hvW : ViewV W.heap.size W ar af aa nr nf na v := by
    have := hv.keep hcell
    exact ⟨fun i r hr => by obtain ⟨b, o, e, hb, hp⟩ := this.roads i r hr; exact ⟨b, o, e, by omega, hp⟩, fun i r hr => by obtain ⟨b, o, e, hb, hp⟩ := this.fresh i r hr; exact ⟨b, o, e, by omega, hp⟩, fun i r hr => by obtain ⟨b, o, e, hb, hp⟩ := this.again i r hr; exact ⟨b, o, e, by omega, hp⟩, this.lenR, this.lenF, this.lenA, this.rng⟩
  have hTW : Tab64 W := fun j hj => by rw [hcell _ (by show 1 < _; omega)]; exact hT j hj
  have hcW0 := hc.keep hbelow
  have hcW : CodeIn W.heap.size W cb co sb so cap steps := ⟨by have := hc.cbB; omega, by have := hc.sbB; omega, hcW0.slice, hcW0.step⟩
  have hslW : W.cell? ⟨cb, co + 1, none⟩ = some (.int .i64 n) := by rw [hcell _ hc.cbB]; exact hsl
  -- how it ends
  have HRet : Hid (∀ (a' : Act) (w1 : World) (st : Int) (va : Value) (y0 y1 y2 y3 y4 y5 y6 y7 : Int) (acts : List (Int × Int)), Below W.heap.size W w1 → ResCell w1 w.heap.size → w1.ownsRow W.heap.size 76 2 va acts.length (actCells acts) → (∃ a n c, va = .slice a n c) →
      a'.tmps.getD 8 undef = .pointer (some ⟨w.heap.size + 1 + 1, 0, none⟩) → a'.defers = [] → o.status = st → resultV st va o.regs = resultV st va [y0, y1, y2, y3, y4, y5, y6, y7] → o.acts = acts →
      bodyPost Tryz.prog Tryz.f16 (fun e w' => ∃ va, e = .returned (resultV o.status va o.regs) ∧ w'.ownsRow w.heap.size 76 2 va o.acts.length (actCells o.acts) ∧ Below w.heap.size w w') .ret a' (putRes w1 w.heap.size st va y0 y1 y2 y3 y4 y5 y6 y7)) := by
    rintro a' w1 st va y0 y1 y2 y3 y4 y5 y6 y7 acts hb1 hr1 hown ⟨aa', nn, cc, rfl⟩ ht hd rfl hreg rfl
    refine bodyPost_ret (v := resultV o.status (.slice aa' nn cc) [y0, y1, y2, y3, y4, y5, y6, y7]) (putRes_res w1 w.heap.size hr1 o.status aa' nn cc y0 y1 y2 y3 y4 y5 y6 y7 a'.tmps ht) hd ⟨.slice aa' nn cc, by rw [hreg], ?_, ?_⟩
    · have h1 := hown.kept (putRes_grown w1 w.heap.size o.status (.slice aa' nn cc) y0 y1 y2 y3 y4 y5 y6 y7) (by
        cases hb : (Value.slice aa' nn cc).ownBlock with
        | none => exact Or.inl rfl
        | some g =>
          right
          have := (hown.lt g hb).1
          simp; omega)
      exact owns_mono h1 (by omega)
    · refine (hbelow.trans (hb1.mono (by omega))).trans ((Below.refl _ _).grown (putRes_grown w1 w.heap.size o.status (.slice aa' nn cc) y0 y1 y2 y3 y4 y5 y6 y7) ?_ ?_)
      · have := hb1.size; omega
      · intro k hk; cases hk; omega
  have e3 : w.heap.size + 1 + 1 < W.heap.size := by omega
  have HNew : Hid (∀ k, Calls Tryz.prog 49 #[.agg #[.slice ar nr cr, .slice af nf cf, .slice aa na ca], .agg #[.int .i64 x0, .int .i64 x1, .int .i64 x2, .int .i64 x3, .int .i64 x4, .int .i64 x5, .int .i64 x6, .int .i64 x7], .int .i64 n] (W.drewN k) fun e w' =>
      e = .returned (.pointer (some ⟨W.heap.size + 1 + 1 + 1, 0, none⟩)) ∧ Below W.heap.size W w' ∧
      (Good v → MachIn W.heap.size (W.heap.size + 4) w' (W.heap.size + 1 + 1 + 1) (W.heap.size + 1 + 1) v (machine0 x0 x1 x2 x3 x4 x5 x6 x7 n))) := fun k => by
    refine (new_any ar af aa nr cr nf cf na ca x0 x1 x2 x3 x4 x5 x6 x7 n (W.drewN k) hn h8).mono ?_
    rintro e w' ⟨h1, h2, h3⟩
    refine ⟨h1, (below_drewN (Below.refl _ _) k).trans h2, fun hgood => h3 W.heap.size v (by omega) (Nat.le_refl _) (fun j hj => hTW j hj) (hvW.keep (fun _ _ => rfl)) hgood hx⟩
  have b0 := hview 0
  have b1 := hview 1
  have b2 := hview 2
  simp only [List.getElem?_toArray, List.getElem?_cons_succ, List.getElem?_cons_zero] at b0 b1 b2
  have g0 := hregs 0 (by omega)
  have g1 := hregs 1 (by omega)
  have g2 := hregs 2 (by omega)
  have g3 := hregs 3 (by omega)
  have g4 := hregs 4 (by omega)
  have g5 := hregs 5 (by omega)
  have g6 := hregs 6 (by omega)
  have g7 := hregs 7 (by omega)
  simp only [List.getD_cons_zero, List.getD_cons_succ] at g0 g1 g2 g3 g4 g5 g6 g7
  have HW : Hid (boxes w ar af aa nr cr nf cf na ca x0 x1 x2 x3 x4 x5 x6 x7 = W) := hW
  have HSZ : Hid (W.heap.size = w.heap.size + 1 + 1 + 1) := hsz
  have HO : Hid (runOut v steps n fuel x0 x1 x2 x3 x4 x5 x6 x7 = o) := ho
  clear hW hold hview hcell hv hc hsl hT hcW0 hsz ho
  generalize hvv : Value.agg #[.slice ar nr cr, .slice af nf cf, .slice aa na ca] = vv0
  generalize hrv : Value.agg #[.int .i64 x0, .int .i64 x1, .int .i64 x2, .int .i64 x3, .int .i64 x4, .int .i64 x5, .int .i64 x6, .int .i64 x7] = rv0
  subst hvv hrv
  go_enter Tryz.func16, Tryz.ntmps16
  go_wp2_with fail
  rw [show ((w.alloc (Obj.cells #[.slice ar nr cr, .slice af nf cf, .slice aa na ca] 25)).alloc
    (Obj.cells #[.int .i64 x0, .int .i64 x1, .int .i64 x2, .int .i64 x3, .int .i64 x4, .int .i64 x5, .int .i64 x6, .int .i64 x7] 26)).alloc
    (Obj.cells #[.int .u8 0, .slice none 0 0, .int .i64 0, .int .i64 0, .int .i64 0, .int .i64 0, .int .i64 0, .int .i64 0, .int .i64 0, .int .i64 0] 35) = W from HW.out]
  refine wp_scope_labels (fun l => .seq .skip (labelOf Tryz.f16 l)) (RunJ W.heap.size (W.heap.size + 4) (W.heap.size + 1 + 1 + 1) (W.heap.size + 1 + 1) v cb co sb so cap steps n w.heap.size [x0, x1, x2, x3, x4, x5, x6, x7] o (.agg #[.slice ar nr cr, .slice af nf cf, .slice aa na ca]) (.agg #[.int .i64 x0, .int .i64 x1, .int .i64 x2, .int .i64 x3, .int .i64 x4, .int .i64 x5, .int .i64 x6, .int .i64 x7]) W) runMu ?hf ?first ?pass
  case hf =>
    intro l a1 w1 hJ
    have hl : l = 0 ∨ l = 1 := by
      rcases l with _ | _ | l
      · exact Or.inl rfl
      · exact Or.inr rfl
      · exact hJ.elim
    clear hJ
    rcases hl with rfl | rfl
    · show _ = _
      kernel_rfl
    · show _ = _
      kernel_rfl
  case pass =>
    intro l a1 w1 hJ
    rcases l with _ | _ | l
    · obtain ⟨st, ha, hos, hr, hb⟩ := hJ
      refine wp_seq (wp_skip ?_)
      refine run_wrong a1 ha (hregs.keep hb (by omega)) hr _ ?_
      intro a' ht hd
      have := HRet.out a' w1 st (.slice none 0 0) x0 x1 x2 x3 x4 x5 x6 x7 [] hb hr (World.ownsRow_nil _ _ _ _) ⟨_, _, _, rfl⟩ ht hd (by rw [hos]) (by rw [hos]) (by rw [hos])
      exact this
    · obtain ⟨fuel1, k1, m1, ha, hg, hb⟩ := hJ
      refine wp_seq (wp_skip ?_)
      refine run_next hfit h8 e3 a1 ha hg _ ?_ ?_ ?_
      · intro a' w' fuel' k' m' h1 h2 h3 h4 h5
        refine ⟨⟨fuel', k', m', h1, h2, hb.trans h3⟩, ?_⟩
        show 1 + (intOf (a'.tmps.getD 3 undef)).toNat < 1 + (intOf (a1.tmps.getD 3 undef)).toNat
        rw [atNext_fuel h1, atNext_fuel ha]
        simp only [intOf]
        omega
      · intro a' w' st h1 h2 h3 h4
        refine ⟨⟨st, h1, h2, h3, hb.trans h4⟩, ?_⟩
        show 0 < 1 + (intOf (a1.tmps.getD 3 undef)).toNat
        omega
      · intro a' w2 va h1 h2 h3 h4 h5 h6 h7
        have := HRet.out a' w2 0 va _ _ _ _ _ _ _ _ m1.acts (hb.trans h4) h5 (owns_mono h2 (by omega)) h3 h6 h7 (by rw [h1]) (by rw [h1]; exact resultV_slots _ _ _) (by rw [h1])
        exact this
    · exact hJ.elim
  case first =>
    go_wp2_with fail
    refine wp_quiet_tail 6 (by kernel_rfl) (by kernel_rfl) ?_
    simp only [List.take_succ_cons, List.take_zero, List.drop_succ_cons, List.drop_zero]
    repeat (go_big_quiet_step (fail))
    refine wpQuiet_nil ?_
    intro _ hw'
    obtain ⟨n3, hw''⟩ := hw'
    subst hw''
    go_wp2_with fail
    refine (HNew.out n3).mono ?_
    rintro e w1 ⟨rfl, hb1, hm1⟩
    have v0 : w1.cell? ⟨w.heap.size, 0, none⟩ = some (.slice ar nr cr) := (hb1.cell (p := ⟨w.heap.size, 0, none⟩) (by show w.heap.size < _; omega)).trans b0
    have v1 : w1.cell? ⟨w.heap.size, 1, none⟩ = some (.slice af nf cf) := (hb1.cell (p := ⟨w.heap.size, 1, none⟩) (by show w.heap.size < _; omega)).trans b1
    have v2 : w1.cell? ⟨w.heap.size, 2, none⟩ = some (.slice aa na ca) := (hb1.cell (p := ⟨w.heap.size, 2, none⟩) (by show w.heap.size < _; omega)).trans b2
    have HV : Hid (Calls Tryz.prog 50 #[.agg #[.slice ar nr cr, .slice af nf cf, .slice aa na ca]] w1 fun e w' => e = .returned (.bool (viewOk v)) ∧ Below w1.heap.size w1 w') := isView_any cr cf ca (hvW.keep (fun x hx => hb1.cell hx)) hb1.size
    have HB1 : Hid (Below W.heap.size W w1) := hb1
    have HM1 : Hid (Good v → MachIn W.heap.size (W.heap.size + 4) w1 (W.heap.size + 1 + 1 + 1) (W.heap.size + 1 + 1) v (machine0 x0 x1 x2 x3 x4 x5 x6 x7 n)) := hm1
    clear hb1 hm1
    go_wp2_with fail
    refine (HV.out).mono ?_
    rintro e w2 ⟨rfl, hb2⟩
    have HB2 : Hid (Below w1.heap.size w1 w2) := hb2
    clear hb2
    cases hok : viewOk v with
    | false =>
      have HF : Hid (o = ⟨3, [x0, x1, x2, x3, x4, x5, x6, x7], []⟩) := by
        show o = _
        rw [← HO.out]
        simp [runOut, hok]
      clear hok
      go_wp2
      go_step3
      have hb : Below W.heap.size W w2 := HB1.out.trans (HB2.out.mono HB1.out.size)
      refine ⟨3, ?_, HF.out, hres.keep hb e3, hb⟩
      unfold AtWrong
      (repeat apply Exists.intro)
      rfl
    | true =>
      have HF : Hid (Hx.runs v steps [x0, x1, x2, x3, x4, x5, x6, x7] fuel.toNat 0 (machine0 x0 x1 x2 x3 x4 x5 x6 x7 n) = o) := by
        show _ = o
        rw [← HO.out]
        simp [runOut, hok]
      have hgood := viewOk_good hok
      have HG : Hid (Good v) := hgood
      clear hok hgood
      go_wp2
      go_step3
      rename_i hK
      refine hK _ _ ?_
      have hb : Below W.heap.size W w2 := HB1.out.trans (HB2.out.mono HB1.out.size)
      have hm1 := HM1.out HG.out
      have hg : w1.grownBy w2 none := ⟨HB2.out.os, HB2.out.tape, HB2.out.output, HB2.out.size, fun k hk _ => HB2.out.block k hk⟩
      have hm2 := hm1.grow hg
      refine run_next (B := W.heap.size) (C := W.heap.size + 4) (M := W.heap.size + 1 + 1 + 1) (SB := W.heap.size + 1 + 1) (v := v) (steps := steps) (H := w.heap.size) (cb := cb) (co := co) (sb := sb) (so := so) (cap := cap) (fuel := fuel) (k := 0) (m := machine0 x0 x1 x2 x3 x4 x5 x6 x7 n) (o := o) (regs := [x0, x1, x2, x3, x4, x5, x6, x7]) (vv := .agg #[.slice ar nr cr, .slice af nf cf, .slice aa na ca]) (rv := .agg #[.int .i64 x0, .int .i64 x1, .int .i64 x2, .int .i64 x3, .int .i64 x4, .int .i64 x5, .int .i64 x6, .int .i64 x7]) hfit h8 e3 _ ?_ ?_ _ ?_ ?_ ?_
      · unfold AtNext
        (repeat apply Exists.intro)
        rfl
      · exact ⟨hm2, hcW.keep hb, hres.keep hb e3, by simp [machine0]; omega, by simp [machine0], by omega, by have := hfit.pos; omega, hfm, HF.out⟩
      · intro a' w' fuel' k' m' h1 h2 h3 _ _
        exact ⟨fuel', k', m', h1, h2, hb.trans h3⟩
      · intro a' w' st h1 h2 h3 h4
        exact ⟨st, h1, h2, h3, hb.trans h4⟩
      · intro a' w3 va h1 h2 h3 h4 h5 h6 h7
        have := HRet.out a' w3 0 va _ _ _ _ _ _ _ _ (machine0 x0 x1 x2 x3 x4 x5 x6 x7 n).acts (hb.trans h4) h5 (owns_mono h2 (by omega)) h3 h6 h7 (by rw [h1]) (by rw [h1]; exact resultV_slots _ _ _) (by rw [h1])
        exact this
end Go.Proofs.YthllhabjfchgiaaGreatDoor

/- Package lang: the text of lives, as it is parsed. -/
namespace Go.Proofs.YthllhabjfchgiaaGreatDoor
open Go.RowKit
open Hx (Tk)

/-- the text -/
def liveT : ByteArray := ⟨#[112, 117, 115, 104, 40, 82, 79, 65, 68, 83, 46, 102, 105, 114, 115, 116, 44, 32, 70, 82, 69, 83, 72, 46, 102, 105, 114, 115, 116, 41, 59, 32, 82, 49, 32, 61, 32, 50, 59]⟩
def tk0 : Tk := Hx.scan liveT 0
def tk1 : Tk := nxt liveT tk0
def tk2 : Tk := nxt liveT tk1
def tk3 : Tk := nxt liveT tk2
def tk4 : Tk := nxt liveT tk3
def tk5 : Tk := nxt liveT tk4
def tk6 : Tk := nxt liveT tk5
def tk7 : Tk := nxt liveT tk6
def tk8 : Tk := nxt liveT tk7
def tk9 : Tk := nxt liveT tk8
def tk10 : Tk := nxt liveT tk9
def tk11 : Tk := nxt liveT tk10
def tk12 : Tk := nxt liveT tk11
def tk13 : Tk := nxt liveT tk12
def tk14 : Tk := nxt liveT tk13
def tk15 : Tk := nxt liveT tk14
theorem tk0_is : tk0.kind = 5 ∧ tk0.text.data.toList = [112, 117, 115, 104] ∧ tk0.at' = 0 ∧ tk0.text.size = 4 := by refine ⟨?_, ?_, ?_, ?_⟩ <;> kernel_rfl
theorem tk1_is : tk1.kind = 5 ∧ tk1.text.data.toList = [40] ∧ tk1.at' = 4 ∧ tk1.text.size = 1 := by refine ⟨?_, ?_, ?_, ?_⟩ <;> kernel_rfl
theorem tk2_is : tk2.kind = 5 ∧ tk2.text.data.toList = [82, 79, 65, 68, 83] ∧ tk2.at' = 5 ∧ tk2.text.size = 5 := by refine ⟨?_, ?_, ?_, ?_⟩ <;> kernel_rfl
theorem tk3_is : tk3.kind = 5 ∧ tk3.text.data.toList = [46] ∧ tk3.at' = 10 ∧ tk3.text.size = 1 := by refine ⟨?_, ?_, ?_, ?_⟩ <;> kernel_rfl
theorem tk4_is : tk4.kind = 2 ∧ tk4.text.data.toList = [102, 105, 114, 115, 116] ∧ tk4.at' = 11 ∧ tk4.text.size = 5 := by refine ⟨?_, ?_, ?_, ?_⟩ <;> kernel_rfl
theorem tk5_is : tk5.kind = 5 ∧ tk5.text.data.toList = [44] ∧ tk5.at' = 16 ∧ tk5.text.size = 1 := by refine ⟨?_, ?_, ?_, ?_⟩ <;> kernel_rfl
theorem tk6_is : tk6.kind = 5 ∧ tk6.text.data.toList = [70, 82, 69, 83, 72] ∧ tk6.at' = 18 ∧ tk6.text.size = 5 := by refine ⟨?_, ?_, ?_, ?_⟩ <;> kernel_rfl
theorem tk7_is : tk7.kind = 5 ∧ tk7.text.data.toList = [46] ∧ tk7.at' = 23 ∧ tk7.text.size = 1 := by refine ⟨?_, ?_, ?_, ?_⟩ <;> kernel_rfl
theorem tk8_is : tk8.kind = 2 ∧ tk8.text.data.toList = [102, 105, 114, 115, 116] ∧ tk8.at' = 24 ∧ tk8.text.size = 5 := by refine ⟨?_, ?_, ?_, ?_⟩ <;> kernel_rfl
theorem tk9_is : tk9.kind = 5 ∧ tk9.text.data.toList = [41] ∧ tk9.at' = 29 ∧ tk9.text.size = 1 := by refine ⟨?_, ?_, ?_, ?_⟩ <;> kernel_rfl
theorem tk10_is : tk10.kind = 5 ∧ tk10.text.data.toList = [59] ∧ tk10.at' = 30 ∧ tk10.text.size = 1 := by refine ⟨?_, ?_, ?_, ?_⟩ <;> kernel_rfl
theorem tk11_is : tk11.kind = 4 ∧ tk11.text.data.toList = [82, 49] ∧ tk11.at' = 32 ∧ tk11.text.size = 2 := by refine ⟨?_, ?_, ?_, ?_⟩ <;> kernel_rfl
theorem tk12_is : tk12.kind = 5 ∧ tk12.text.data.toList = [61] ∧ tk12.at' = 35 ∧ tk12.text.size = 1 := by refine ⟨?_, ?_, ?_, ?_⟩ <;> kernel_rfl
theorem tk13_is : tk13.kind = 3 ∧ tk13.text.data.toList = [50] ∧ tk13.at' = 37 ∧ tk13.text.size = 1 := by refine ⟨?_, ?_, ?_, ?_⟩ <;> kernel_rfl
theorem tk14_is : tk14.kind = 5 ∧ tk14.text.data.toList = [59] ∧ tk14.at' = 38 ∧ tk14.text.size = 1 := by refine ⟨?_, ?_, ?_, ?_⟩ <;> kernel_rfl
theorem tk15_is : tk15.kind = 1 ∧ tk15.text.data.toList = [] ∧ tk15.at' = 39 ∧ tk15.text.size = 0 := by refine ⟨?_, ?_, ?_, ?_⟩ <;> kernel_rfl

theorem live_size : liveT.size = 39 := by kernel_rfl
theorem tok_ok {k : Tk} {a n : Nat} (ha : k.at' = a) (hn : k.text.size = n) (h : a + n ≤ 39) : TokOk liveT k := by
  refine ⟨by omega, ?_⟩
  rw [live_size]
  omega
theorem tk0_ok : TokOk liveT tk0 := tok_ok (a := 0) tk0_is.2.2.1 tk0_is.2.2.2 (by omega)
theorem tk0_text : tk0.text.toList = [112, 117, 115, 104] := by rw [ByteArray.toList_eq]; exact tk0_is.2.1
theorem tk1_ok : TokOk liveT tk1 := tok_ok (a := 4) tk1_is.2.2.1 tk1_is.2.2.2 (by omega)
theorem tk1_text : tk1.text.toList = [40] := by rw [ByteArray.toList_eq]; exact tk1_is.2.1
theorem tk2_ok : TokOk liveT tk2 := tok_ok (a := 5) tk2_is.2.2.1 tk2_is.2.2.2 (by omega)
theorem tk2_text : tk2.text.toList = [82, 79, 65, 68, 83] := by rw [ByteArray.toList_eq]; exact tk2_is.2.1
theorem tk3_ok : TokOk liveT tk3 := tok_ok (a := 10) tk3_is.2.2.1 tk3_is.2.2.2 (by omega)
theorem tk3_text : tk3.text.toList = [46] := by rw [ByteArray.toList_eq]; exact tk3_is.2.1
theorem tk4_ok : TokOk liveT tk4 := tok_ok (a := 11) tk4_is.2.2.1 tk4_is.2.2.2 (by omega)
theorem tk4_text : tk4.text.toList = [102, 105, 114, 115, 116] := by rw [ByteArray.toList_eq]; exact tk4_is.2.1
theorem tk5_ok : TokOk liveT tk5 := tok_ok (a := 16) tk5_is.2.2.1 tk5_is.2.2.2 (by omega)
theorem tk5_text : tk5.text.toList = [44] := by rw [ByteArray.toList_eq]; exact tk5_is.2.1
theorem tk6_ok : TokOk liveT tk6 := tok_ok (a := 18) tk6_is.2.2.1 tk6_is.2.2.2 (by omega)
theorem tk6_text : tk6.text.toList = [70, 82, 69, 83, 72] := by rw [ByteArray.toList_eq]; exact tk6_is.2.1
theorem tk7_ok : TokOk liveT tk7 := tok_ok (a := 23) tk7_is.2.2.1 tk7_is.2.2.2 (by omega)
theorem tk7_text : tk7.text.toList = [46] := by rw [ByteArray.toList_eq]; exact tk7_is.2.1
theorem tk8_ok : TokOk liveT tk8 := tok_ok (a := 24) tk8_is.2.2.1 tk8_is.2.2.2 (by omega)
theorem tk8_text : tk8.text.toList = [102, 105, 114, 115, 116] := by rw [ByteArray.toList_eq]; exact tk8_is.2.1
theorem tk9_ok : TokOk liveT tk9 := tok_ok (a := 29) tk9_is.2.2.1 tk9_is.2.2.2 (by omega)
theorem tk9_text : tk9.text.toList = [41] := by rw [ByteArray.toList_eq]; exact tk9_is.2.1
theorem tk10_ok : TokOk liveT tk10 := tok_ok (a := 30) tk10_is.2.2.1 tk10_is.2.2.2 (by omega)
theorem tk10_text : tk10.text.toList = [59] := by rw [ByteArray.toList_eq]; exact tk10_is.2.1
theorem tk11_ok : TokOk liveT tk11 := tok_ok (a := 32) tk11_is.2.2.1 tk11_is.2.2.2 (by omega)
theorem tk11_text : tk11.text.toList = [82, 49] := by rw [ByteArray.toList_eq]; exact tk11_is.2.1
theorem tk12_ok : TokOk liveT tk12 := tok_ok (a := 35) tk12_is.2.2.1 tk12_is.2.2.2 (by omega)
theorem tk12_text : tk12.text.toList = [61] := by rw [ByteArray.toList_eq]; exact tk12_is.2.1
theorem tk13_ok : TokOk liveT tk13 := tok_ok (a := 37) tk13_is.2.2.1 tk13_is.2.2.2 (by omega)
theorem tk13_text : tk13.text.toList = [50] := by rw [ByteArray.toList_eq]; exact tk13_is.2.1
theorem tk14_ok : TokOk liveT tk14 := tok_ok (a := 38) tk14_is.2.2.1 tk14_is.2.2.2 (by omega)
theorem tk14_text : tk14.text.toList = [59] := by rw [ByteArray.toList_eq]; exact tk14_is.2.1
theorem tk15_ok : TokOk liveT tk15 := tok_ok (a := 39) tk15_is.2.2.1 tk15_is.2.2.2 (by omega)
theorem tk15_text : tk15.text.toList = [] := by rw [ByteArray.toList_eq]; exact tk15_is.2.1

theorem list_ne {k : Tk} {l m : List UInt8} (h : k.text.toList = l) (hn : (l == m) = false) : (k.text.toList == m) = false := by rw [h]; exact hn
theorem list_eq {k : Tk} {l : List UInt8} (h : k.text.toList = l) : (k.text.toList == l) = true := by rw [h]; simp

/-- what the text is parsed to -/
def LiveE : World → Nat → Value → Prop := TwoE (PushE 0 5 3 tk2.text tk4.text 18 4 tk6.text tk8.text) (StoreE 32 1 37 2)

theorem live_reads (P : Nat) : Reads 141 [] P liveT (Hx.scan liveT 0) tk15 0 0 0 LiveE := by
  have hs : liveT.size ≤ 4000 := by rw [live_size]; omega
  have q1 : Reads 238 [] P liveT tk2 tk5 1 0 0 (AskE 5 3 tk2.text tk4.text) := by
    have h1 := question_first (P := P) (dp := 1) (en := 0) (ea := 0) hs tk3 tk4 3 tk2_ok (by rw [tk2_text]; rfl) rfl tk3_ok (list_eq tk3_text) rfl tk4_ok tk4_text rfl (k' := tk5)
    rw [tk2_is.2.2.1] at h1
    exact expr_pass (basic_set h1 tk2_is.1 3 (by rw [tk2_text]; rfl)) (list_ne tk2_text (by decide)) (list_ne tk2_text (by decide)) (list_ne tk5_text (by decide)) (by rw [tk5_text]; rfl)
  have q2 : Reads 238 [] P liveT tk6 tk9 1 0 0 (AskE 18 4 tk6.text tk8.text) := by
    have h1 := question_first (P := P) (dp := 1) (en := 0) (ea := 0) hs tk7 tk8 4 tk6_ok (by rw [tk6_text]; rfl) rfl tk7_ok (list_eq tk7_text) rfl tk8_ok tk8_text rfl (k' := tk9)
    rw [tk6_is.2.2.1] at h1
    exact expr_pass (basic_set h1 tk6_is.1 4 (by rw [tk6_text]; rfl)) (list_ne tk6_text (by decide)) (list_ne tk6_text (by decide)) (list_ne tk9_text (by decide)) (by rw [tk9_text]; rfl)
  have p1 := pushing_ok (P := P) (dp := 0) (en := 0) (ea := 0) hs tk1 tk2 tk5 tk6 tk9 tk10 5 3 18 4 tk2.text tk4.text tk6.text tk8.text (by decide) (by omega) (by omega) tk0_ok rfl tk1_ok tk1_text rfl q1 tk5_ok tk5_text rfl q2 tk9_ok tk9_text rfl tk10_ok tk10_text rfl (k' := tk11)
  rw [tk0_is.2.2.1] at p1
  have q3 : Reads 238 [] P liveT tk13 tk14 0 0 0 (NumE 37 2) := by
    have h1 := number_ok (P := P) (dp := 0) (en := 0) (ea := 0) hs tk13_ok 2 (by rw [tk13_is.2.2.2]; omega) (by rw [tk13_is.2.1]; rfl) rfl (k' := tk14)
    rw [tk13_is.2.2.1] at h1
    exact expr_pass (basic_number h1 tk13_is.1) (list_ne tk13_text (by decide)) (list_ne tk13_text (by decide)) (list_ne tk14_text (by decide)) (by rw [tk14_text]; rfl)
  have q4 := given_ok (P := P) (dp := 0) (en := 0) (ea := 0) hs tk13 tk14 (num_stays P 37 2) tk12_ok tk12_text rfl q3 tk14_ok tk14_text rfl (k' := tk15)
  have p2 := storing_num (P := P) (dp := 0) (en := 0) (ea := 0) hs tk12 tk11_ok 1 37 2 (by rw [tk11_is.2.2.2]; omega) (by kernel_rfl) (by omega) (by omega) rfl q4
  rw [tk11_is.2.2.1] at p2
  refine statements_two tk11 tk15 333 327 (push_local _ _ _ _ _ _ _ _ _) (store_local _ _ _ _) ?_ ?_ (statement_push p1 tk0_is.1 tk0_text) (statement_store p2 tk11_is.1) tk15_is.1 tk15_text
  · rintro w B v ⟨A, u1, u2, rfl, _⟩
    exact ⟨_, rfl⟩
  · rintro w B v ⟨A, u, rfl, _⟩
    exact ⟨_, rfl⟩

theorem live_local : Local LiveE := by
  rintro w w' B v ⟨B2, u1, u2, h0, h1, h2, h3⟩ hk
  refine ⟨B2, u1, u2, h0, ?_, push_local _ _ _ _ _ _ _ _ _ _ _ _ _ h2 hk, store_local _ _ _ _ _ _ _ _ h3 fun k hb hl => hk k (by omega) hl⟩
  refine ⟨h1.1, ?_⟩
  rcases h1.2 with h | ⟨g, cap, cur, e1, e2, e3⟩
  · exact Or.inl h
  · exact Or.inr ⟨g, cap, cur, e1, e2, by rw [hk g e2 (lt_of_some e3.1)]; exact e3⟩

theorem live_down (w : World) (B B' : Nat) (v : Value) (h : B' ≤ B) (hE : LiveE w B v) : LiveE w B' v := by
  obtain ⟨B2, u1, u2, h0, h1, ⟨A, x1, x2, a1, a2, a3, a4, a5⟩, h3⟩ := hE
  exact ⟨B2, u1, u2, by omega, owns_mono h1 h, ⟨A, x1, x2, a1, by omega, a3, (ask_stays 0 _ _ _ _).down _ _ _ _ h a4, (ask_stays 0 _ _ _ _).down _ _ _ _ h a5⟩, h3⟩

theorem live_parse (w : World) : Calls Tryz.prog 88 #[.string liveT] w fun e w' => ∃ v, e = .returned (.tuple #[v, .agg #[.int .i64 0, .int .i64 0]]) ∧ LiveE w' w.heap.size v ∧ w.grownBy w' none :=
  parse_ok (by rw [live_size]; omega) tk15 tk15_is.1 live_local live_down live_reads
end Go.Proofs.YthllhabjfchgiaaGreatDoor

/- Package lang: the checker, at the text of lives. -/
namespace Go.Proofs.YthllhabjfchgiaaGreatDoor
open Go.RowKit
open Hx (Tk)
attribute [local go_sem ↓] Go.wp_at_zero Go.wp_at_succ
attribute [local go_sem] setCell_drewN'
variable {w : World} {A S C : Nat} {at' cost kind of n reg : Int} {what base : ByteArray} {u u1 u2 : Value}

def NumAt (w : World) (A : Nat) (at' n : Int) : Prop := w.heap[A]? = some (.cells #[.int .i64 at', .int .i64 1, .int .i64 1, .int .i64 n] 407)
def PushAt (w : World) (A : Nat) (at' : Int) (u1 u2 : Value) : Prop := w.heap[A]? = some (.cells #[.int .i64 at', .int .i64 5, u1, u2] 335)
def StoreAt (w : World) (A : Nat) (at' reg : Int) (u : Value) : Prop := w.heap[A]? = some (.cells #[.int .i64 at', .int .i64 2, .int .i64 reg, u] 329)

theorem asking_sort (A : Nat) (w : World) : (method 576 410 (.pointer (some ⟨A, 0, none⟩)) "helm/lang.sort").run Tryz.prog w = .ok (356, .pointer (some ⟨A, 0, none⟩)) w := by kernel_rfl
theorem number_sort (A : Nat) (w : World) : (method 576 405 (.pointer (some ⟨A, 0, none⟩)) "helm/lang.sort").run Tryz.prog w = .ok (356, .pointer (some ⟨A, 0, none⟩)) w := by kernel_rfl
theorem asking_look (A : Nat) (w : World) : (method 576 410 (.pointer (some ⟨A, 0, none⟩)) "helm/lang.look").run Tryz.prog w = .ok (393, .pointer (some ⟨A, 0, none⟩)) w := by kernel_rfl
theorem number_look (A : Nat) (w : World) : (method 576 405 (.pointer (some ⟨A, 0, none⟩)) "helm/lang.look").run Tryz.prog w = .ok (390, .pointer (some ⟨A, 0, none⟩)) w := by kernel_rfl
theorem pushing_look (A : Nat) (w : World) : (method 576 333 (.pointer (some ⟨A, 0, none⟩)) "helm/lang.look").run Tryz.prog w = .ok (329, .pointer (some ⟨A, 0, none⟩)) w := by kernel_rfl
theorem storing_look (A : Nat) (w : World) : (method 576 327 (.pointer (some ⟨A, 0, none⟩)) "helm/lang.look").run Tryz.prog w = .ok (320, .pointer (some ⟨A, 0, none⟩)) w := by kernel_rfl
theorem pushing_price (A : Nat) (w : World) : (method 576 333 (.pointer (some ⟨A, 0, none⟩)) "helm/lang.price").run Tryz.prog w = .ok (244, .pointer (some ⟨A, 0, none⟩)) w := by kernel_rfl
theorem storing_price (A : Nat) (w : World) : (method 576 327 (.pointer (some ⟨A, 0, none⟩)) "helm/lang.price").run Tryz.prog w = .ok (244, .pointer (some ⟨A, 0, none⟩)) w := by kernel_rfl

theorem sort_at (b : Nat) (c : Int) (h : w.cell? ⟨b, 2, none⟩ = some (.int .i64 c)) : Calls Tryz.prog 356 #[.pointer (some ⟨b, 0, none⟩)] w fun e w' => e = .returned (.int .i64 c) ∧ w' = w := by
  go_enter Tryz.func356, Tryz.ntmps356
  go_wp2
  go_ret
  exact ⟨rfl, rfl⟩

theorem set_plain (h : SetAt w S at' base of) : Calls Tryz.prog 349 #[.pointer (some ⟨C, 0, none⟩), .pointer (some ⟨S, 0, none⟩)] w fun e w' => e = .returned (.tuple #[]) ∧ w' = w := by
  have c4 : w.cell? ⟨S, 4, none⟩ = some (.slice none 0 0) := cell_at h
  clear h
  go_enter Tryz.func349, Tryz.ntmps349
  go_wp2_with fail
  refine wp_loop_rounds 1 ?_
  rw [rounds_succ]
  go_wp2_with fail
  go_end0
  exact ⟨rfl, rfl⟩

theorem ask_look (h : AskAt w A S at' cost kind what) (hS : SetAt w S at' base of) : Calls Tryz.prog 393 #[.pointer (some ⟨A, 0, none⟩), .pointer (some ⟨C, 0, none⟩)] w fun e w' => e = .returned (.tuple #[]) ∧ w' = w := by
  have c4 : w.cell? ⟨A, 4, none⟩ = some (.pointer (some ⟨S, 0, none⟩)) := cell_at h
  have HS : Hid (Calls Tryz.prog 349 #[.pointer (some ⟨C, 0, none⟩), .pointer (some ⟨S, 0, none⟩)] w fun e w' => e = .returned (.tuple #[]) ∧ w' = w) := set_plain hS
  clear h hS
  go_enter Tryz.func393, Tryz.ntmps393
  go_wp2_with fail
  refine HS.out.mono ?_
  rintro e w1 ⟨rfl, rfl⟩
  go_wp2_with fail
  go_end0
  exact ⟨rfl, rfl⟩

theorem num_look (A C : Nat) (w : World) : Calls Tryz.prog 390 #[.pointer (some ⟨A, 0, none⟩), .pointer (some ⟨C, 0, none⟩)] w fun e w' => e = .returned (.tuple #[]) ∧ w' = w := by
  go_enter Tryz.func390, Tryz.ntmps390
  go_wp2_with fail
  go_end0
  exact ⟨rfl, rfl⟩

theorem want_ask (h : AskAt w A S at' cost kind what) : Calls Tryz.prog 317 #[.pointer (some ⟨C, 0, none⟩), .iface 410 (.pointer (some ⟨A, 0, none⟩)), .int .i64 kind] w fun e w' => e = .returned (.tuple #[]) ∧ w' = w := by
  have c2 : w.cell? ⟨A, 2, none⟩ = some (.int .i64 kind) := cell_at h
  have HS : Hid (Calls Tryz.prog 356 #[.pointer (some ⟨A, 0, none⟩)] w fun e w' => e = .returned (.int .i64 kind) ∧ w' = w) := sort_at A kind c2
  have m1 := asking_sort A
  clear h
  go_enter Tryz.func317, Tryz.ntmps317
  go_wp2_with fail
  refine HS.out.mono ?_
  rintro e w1 ⟨rfl, rfl⟩
  go_wp2_with fail
  go_end0
  exact ⟨rfl, rfl⟩

theorem want_num (h : NumAt w A at' n) : Calls Tryz.prog 317 #[.pointer (some ⟨C, 0, none⟩), .iface 405 (.pointer (some ⟨A, 0, none⟩)), .int .i64 1] w fun e w' => e = .returned (.tuple #[]) ∧ w' = w := by
  have c2 : w.cell? ⟨A, 2, none⟩ = some (.int .i64 1) := cell_at h
  have HS : Hid (Calls Tryz.prog 356 #[.pointer (some ⟨A, 0, none⟩)] w fun e w' => e = .returned (.int .i64 1) ∧ w' = w) := sort_at A 1 c2
  have m1 := number_sort A
  clear h
  go_enter Tryz.func317, Tryz.ntmps317
  go_wp2_with fail
  refine HS.out.mono ?_
  rintro e w1 ⟨rfl, rfl⟩
  go_wp2_with fail
  go_end0
  exact ⟨rfl, rfl⟩

set_option maxHeartbeats 1000000 in
theorem push_look {A1 S1 A2 S2 : Nat} {at1 at2 c1 c2 : Int} {what1 what2 base1 base2 : ByteArray} (h : PushAt w A at' (.iface 410 (.pointer (some ⟨A1, 0, none⟩))) (.iface 410 (.pointer (some ⟨A2, 0, none⟩))))
    (a1 : AskAt w A1 S1 at1 c1 3 what1) (s1 : SetAt w S1 at1 base1 3) (a2 : AskAt w A2 S2 at2 c2 4 what2) (s2 : SetAt w S2 at2 base2 4) :
    Calls Tryz.prog 329 #[.pointer (some ⟨A, 0, none⟩), .pointer (some ⟨C, 0, none⟩)] w fun e w' => e = .returned (.tuple #[]) ∧ w' = w := by
  have d1 : w.cell? ⟨A, 2, none⟩ = some (.iface 410 (.pointer (some ⟨A1, 0, none⟩))) := cell_at h
  have d2 : w.cell? ⟨A, 3, none⟩ = some (.iface 410 (.pointer (some ⟨A2, 0, none⟩))) := cell_at h
  have H1 : Hid (Calls Tryz.prog 393 #[.pointer (some ⟨A1, 0, none⟩), .pointer (some ⟨C, 0, none⟩)] w fun e w' => e = .returned (.tuple #[]) ∧ w' = w) := ask_look a1 s1
  have H2 : Hid (Calls Tryz.prog 393 #[.pointer (some ⟨A2, 0, none⟩), .pointer (some ⟨C, 0, none⟩)] w fun e w' => e = .returned (.tuple #[]) ∧ w' = w) := ask_look a2 s2
  have W1 : Hid (Calls Tryz.prog 317 #[.pointer (some ⟨C, 0, none⟩), .iface 410 (.pointer (some ⟨A1, 0, none⟩)), .int .i64 3] w fun e w' => e = .returned (.tuple #[]) ∧ w' = w) := want_ask a1
  have W2 : Hid (Calls Tryz.prog 317 #[.pointer (some ⟨C, 0, none⟩), .iface 410 (.pointer (some ⟨A2, 0, none⟩)), .int .i64 4] w fun e w' => e = .returned (.tuple #[]) ∧ w' = w) := want_ask a2
  have m1 := asking_look A1
  have m2 := asking_look A2
  clear h a1 a2 s1 s2
  go_enter Tryz.func329, Tryz.ntmps329
  go_wp2_with fail
  refine H1.out.mono ?_
  rintro e w1 ⟨rfl, rfl⟩
  go_wp2_with fail
  refine W1.out.mono ?_
  rintro e w1 ⟨rfl, rfl⟩
  go_wp2_with fail
  refine H2.out.mono ?_
  rintro e w1 ⟨rfl, rfl⟩
  go_wp2_with fail
  refine W2.out.mono ?_
  rintro e w1 ⟨rfl, rfl⟩
  go_wp2_with fail
  go_end0
  exact ⟨rfl, rfl⟩

theorem store_look {A1 : Nat} {at1 : Int} (h : StoreAt w A at' reg (.iface 405 (.pointer (some ⟨A1, 0, none⟩)))) (a1 : NumAt w A1 at1 n) :
    Calls Tryz.prog 320 #[.pointer (some ⟨A, 0, none⟩), .pointer (some ⟨C, 0, none⟩)] w fun e w' => e = .returned (.tuple #[]) ∧ w' = w := by
  have d1 : w.cell? ⟨A, 3, none⟩ = some (.iface 405 (.pointer (some ⟨A1, 0, none⟩))) := cell_at h
  have H1 : Hid (Calls Tryz.prog 390 #[.pointer (some ⟨A1, 0, none⟩), .pointer (some ⟨C, 0, none⟩)] w fun e w' => e = .returned (.tuple #[]) ∧ w' = w) := num_look A1 C w
  have W1 : Hid (Calls Tryz.prog 317 #[.pointer (some ⟨C, 0, none⟩), .iface 405 (.pointer (some ⟨A1, 0, none⟩)), .int .i64 1] w fun e w' => e = .returned (.tuple #[]) ∧ w' = w) := want_num a1
  have m1 := number_look A1
  clear h a1
  go_enter Tryz.func320, Tryz.ntmps320
  go_wp2_with fail
  refine H1.out.mono ?_
  rintro e w1 ⟨rfl, rfl⟩
  go_wp2_with fail
  refine W1.out.mono ?_
  rintro e w1 ⟨rfl, rfl⟩
  go_wp2_with fail
  go_end0
  exact ⟨rfl, rfl⟩
end Go.Proofs.YthllhabjfchgiaaGreatDoor

/- Package lang: checked, at the text of lives. -/
namespace Go.Proofs.YthllhabjfchgiaaGreatDoor
open Go.RowKit
open Hx (Tk)
attribute [local go_sem ↓] Go.wp_at_zero Go.wp_at_succ
attribute [local go_sem] setCell_drewN'
variable {w : World}

/-- the program of lives in memory, in blocks below W -/
structure LiveP (w : World) (W g A A1 S1 A2 S2 D N : Nat) : Prop where
  rows : ∃ cur, w.heap[g]? = some (.cells cur 192) ∧ cur[0]? = some (.iface 333 (.pointer (some ⟨A, 0, none⟩))) ∧ cur[1]? = some (.iface 327 (.pointer (some ⟨D, 0, none⟩)))
  push : PushAt w A 0 (.iface 410 (.pointer (some ⟨A1, 0, none⟩))) (.iface 410 (.pointer (some ⟨A2, 0, none⟩)))
  a1 : AskAt w A1 S1 5 2 3 tk4.text
  s1 : SetAt w S1 5 tk2.text 3
  a2 : AskAt w A2 S2 18 2 4 tk8.text
  s2 : SetAt w S2 18 tk6.text 4
  store : StoreAt w D 32 1 (.iface 405 (.pointer (some ⟨N, 0, none⟩)))
  num : NumAt w N 37 2
  bd : g < W ∧ A < W ∧ A1 < W ∧ S1 < W ∧ A2 < W ∧ S2 < W ∧ D < W ∧ N < W

theorem LiveP.keep {w' : World} {W g A A1 S1 A2 S2 D N : Nat} (h : LiveP w W g A A1 S1 A2 S2 D N) (hk : ∀ k, k < W → w'.heap[k]? = w.heap[k]?) : LiveP w' W g A A1 S1 A2 S2 D N := by
  obtain ⟨b1, b2, b3, b4, b5, b6, b7, b8⟩ := h.bd
  obtain ⟨cur, r1, r2⟩ := h.rows
  exact ⟨⟨cur, (hk g b1).trans r1, r2⟩, (hk A b2).trans h.push, (hk A1 b3).trans h.a1, (hk S1 b4).trans h.s1, (hk A2 b5).trans h.a2, (hk S2 b6).trans h.s2, (hk D b7).trans h.store, (hk N b8).trans h.num, h.bd⟩

theorem liveP_of {B : Nat} {v : Value} (h : LiveE w B v) : ∃ g cap A A1 S1 A2 S2 D N, v = .slice (some ⟨g, 0, none⟩) 2 cap ∧ LiveP w w.heap.size g A A1 S1 A2 S2 D N := by
  obtain ⟨B2, u1, u2, h0, h1, ⟨A, x1, x2, rfl, p2, p3, ⟨A1, S1, rfl, a1, a2, a3, a4⟩, ⟨A2, S2, rfl, b1, b2, b3, b4⟩⟩, ⟨D, u, rfl, d2, d3, ⟨N, rfl, n1, n2⟩⟩⟩ := h
  rcases h1.2 with ⟨_, e⟩ | ⟨g, cap, cur, e1, e2, e3, e4, e5, e6, e7⟩
  · cases e
  · have hg := e3
    refine ⟨g, cap, A, A1, S1, A2, S2, D, N, e1, ⟨⟨cur, e3, ?_, ?_⟩, p3, a3, a4, b3, b4, d3, n2, ⟨lt_of_some e3, lt_of_some p3, lt_of_some a3, lt_of_some a4, lt_of_some b3, lt_of_some b4, lt_of_some d3, lt_of_some n2⟩⟩⟩
    · have := congrArg (fun l : List Value => l[0]?) e7
      simpa using this
    · have := congrArg (fun l : List Value => l[1]?) e7
      simpa using this

set_option maxRecDepth 100000 in
set_option maxHeartbeats 1000000 in
theorem block_live {W g cap A A1 S1 A2 S2 D N C : Nat} (h : LiveP w W g A A1 S1 A2 S2 D N) (hC : w.heap[C]? = some (.cells #[.slice none 0 0, .int .i64 0, .int .i64 0] 188)) :
    Calls Tryz.prog 89 #[.pointer (some ⟨C, 0, none⟩), .slice (some ⟨g, 0, none⟩) 2 cap] w fun e w' => e = .returned (.tuple #[]) ∧ w' = w.setCell ⟨C, 0, none⟩ (.slice none 0 0) := by
  obtain ⟨cur, r1, r2, r3⟩ := h.rows
  have g0 : w.cell? ⟨g, 0, none⟩ = some (.iface 333 (.pointer (some ⟨A, 0, none⟩))) := (cell_at r1).trans r2
  have g1 : w.cell? ⟨g, 1, none⟩ = some (.iface 327 (.pointer (some ⟨D, 0, none⟩))) := (cell_at r1).trans r3
  have c0 : w.cell? ⟨C, 0, none⟩ = some (.slice none 0 0) := cell_at hC
  have cf : ∀ j, w.frozen? ⟨C, j, none⟩ = false := fun j => frozen_at hC
  have H1 : Hid (Calls Tryz.prog 329 #[.pointer (some ⟨A, 0, none⟩), .pointer (some ⟨C, 0, none⟩)] w fun e w' => e = .returned (.tuple #[]) ∧ w' = w) := push_look h.push h.a1 h.s1 h.a2 h.s2
  have H2 : Hid (Calls Tryz.prog 320 #[.pointer (some ⟨D, 0, none⟩), .pointer (some ⟨C, 0, none⟩)] w fun e w' => e = .returned (.tuple #[]) ∧ w' = w) := store_look h.store h.num
  have m1 := pushing_look A
  have m2 := storing_look D
  clear h r1 r2 r3 hC
  go_enter Tryz.func89, Tryz.ntmps89
  go_wp2_with fail
  refine wp_loop_rounds 3 ?_
  rw [rounds_succ]
  go_wp2_with fail
  refine H1.out.mono ?_
  rintro e w1 ⟨rfl, rfl⟩
  go_wp2_with fail
  rw [rounds_succ]
  go_wp2_with fail
  refine H2.out.mono ?_
  rintro e w1 ⟨rfl, rfl⟩
  go_wp2_with fail
  rw [rounds_succ]
  go_wp2_with fail
  go_end0
  exact ⟨rfl, rfl⟩

set_option maxRecDepth 100000 in
set_option maxHeartbeats 1000000 in
theorem total_live {W g cap A A1 S1 A2 S2 D N : Nat} (h : LiveP w W g A A1 S1 A2 S2 D N) (hW : W ≤ w.heap.size) :
    Calls Tryz.prog 90 #[.slice (some ⟨g, 0, none⟩) 2 cap] w fun e w' => e = .returned (.int .i64 7) ∧ w.grownBy w' none := by
  obtain ⟨cur, r1, r2, r3⟩ := h.rows
  obtain ⟨b1, b2, b3, b4, b5, b6, b7, b8⟩ := h.bd
  have g0 : w.cell? ⟨g, 0, none⟩ = some (.iface 333 (.pointer (some ⟨A, 0, none⟩))) := (cell_at r1).trans r2
  have g1 : w.cell? ⟨g, 1, none⟩ = some (.iface 327 (.pointer (some ⟨D, 0, none⟩))) := (cell_at r1).trans r3
  have n1 : ¬ g = w.heap.size := by omega
  have n0 : g < w.heap.size := by omega
  have n2 : ¬ g = w.heap.size + 1 := by omega
  have H1 : Hid (Calls Tryz.prog 244 #[.pointer (some ⟨A, 0, none⟩)] w fun e w' => e = .returned (.int .i64 5) ∧ w' = w) := price_at A 0 5 (cell_at h.push)
  have H2 : Hid (∀ o, Calls Tryz.prog 244 #[.pointer (some ⟨D, 0, none⟩)] (w.alloc o) fun e w' => e = .returned (.int .i64 2) ∧ w' = w.alloc o) := fun o => price_at D 0 2 ((World.grownBy_alloc w o none).cell (cell_at h.store) (by simp))
  have m1 := pushing_price A
  have m2 := storing_price D
  have HT1 : Hid (∀ T, Calls Tryz.prog 143 #[.slice (some ⟨w.heap.size, 0, none⟩) 2 2] (w.alloc (.cells #[.int .i64 0, .int .i64 5] T)) fun e w' => e = .returned (.int .i64 5) ∧ w' = w.alloc (.cells #[.int .i64 0, .int .i64 5] T)) := fun T => total_is (xs := [0, 5]) (two_costs w T 0 5 (by omega) (by omega) (by omega) (by omega))
  have HT2 : Hid (∀ o T, Calls Tryz.prog 143 #[.slice (some ⟨w.heap.size + 1, 0, none⟩) 2 2] ((w.alloc o).alloc (.cells #[.int .i64 5, .int .i64 2] T)) fun e w' => e = .returned (.int .i64 7) ∧ w' = (w.alloc o).alloc (.cells #[.int .i64 5, .int .i64 2] T)) := fun o T => by
    have := two_costs (w.alloc o) T 5 2 (by omega) (by omega) (by omega) (by omega)
    rw [show (w.alloc o).heap.size = w.heap.size + 1 by simp] at this
    exact total_is (xs := [5, 2]) this
  have HG : Hid (∀ o1 o2, w.grownBy ((w.alloc o1).alloc o2) none) := fun o1 o2 => (World.grownBy_alloc w _ none).trans (World.grownBy_alloc _ _ none)
  clear h r1 r2 r3
  go_enter Tryz.func90, Tryz.ntmps90
  go_wp2_with fail
  refine wp_loop_rounds 3 ?_
  rw [rounds_succ]
  go_wp2_with fail
  refine H1.out.mono ?_
  rintro e w1 ⟨rfl, rfl⟩
  go_wp2_with fail
  refine (HT1.out _).mono ?_
  rintro e w2 ⟨rfl, rfl⟩
  go_wp2_with fail
  rw [rounds_succ]
  go_wp2_with fail
  refine (H2.out _).mono ?_
  rintro e w2 ⟨rfl, rfl⟩
  go_wp2_with fail
  refine (HT2.out _ _).mono ?_
  rintro e w2 ⟨rfl, rfl⟩
  go_wp2_with fail
  rw [rounds_succ]
  go_wp2_with fail
  go_ret
  exact ⟨rfl, HG.out _ _⟩
end Go.Proofs.YthllhabjfchgiaaGreatDoor

/- Package lang: checked, at the text of lives. -/
namespace Go.Proofs.YthllhabjfchgiaaGreatDoor
open Go.RowKit
open Hx (Tk)
attribute [local go_sem ↓] Go.wp_at_zero Go.wp_at_succ
attribute [local go_sem] setCell_drewN'
variable {w : World}

theorem checked_results (tmps : Array Value) (w : World) (g : Nat) (v : Value) (h2 : tmps[2]? = some v) (h3 : tmps[3]? = some (.pointer (some ⟨g, 0, none⟩))) (q0 : w.cell? ⟨g, 0, none⟩ = some (.int .i64 0)) (q1 : w.cell? ⟨g, 1, none⟩ = some (.int .i64 0)) :
    (results Tryz.f44 tmps).run Tryz.prog w = .ok (.tuple #[v, .agg #[.int .i64 0, .int .i64 0]]) w := by
  simp [results, Tryz.results44, go_sem, h2, h3, q0, q1]

set_option maxRecDepth 100000 in
set_option maxHeartbeats 1000000 in
theorem checked_live (w : World) : Calls Tryz.prog 44 #[.string liveT] w fun e w' => ∃ W g cap A A1 S1 A2 S2 D N, e = .returned (.tuple #[.slice (some ⟨g, 0, none⟩) 2 cap, .agg #[.int .i64 0, .int .i64 0]]) ∧ LiveP w' W g A A1 S1 A2 S2 D N ∧ W ≤ w'.heap.size ∧ w.grownBy w' none := by
  go_enter Tryz.func44, Tryz.ntmps44
  go_wp2_with fail
  refine (live_parse _).mono ?_
  rintro e w1 ⟨v, rfl, e1, g1⟩
  have hf1 : w1.heap[w.heap.size]? = some (.cells #[.int .i64 0, .int .i64 0] 107) := (g1.block _ (by simp) (by simp)).trans (heap_alloc_new w _)
  have gw1 := (World.grownBy_alloc w (.cells #[.int .i64 0, .int .i64 0] 107) none).trans g1
  obtain ⟨g, cap, A, A1, S1, A2, S2, D, N, rfl, hP⟩ := liveP_of e1
  have HG1 : Hid (w.grownBy w1 none ∧ w1.heap[w.heap.size]? = some (.cells #[.int .i64 0, .int .i64 0] 107)) := ⟨gw1, hf1⟩
  have HL1 : Hid (LiveP w1 w1.heap.size g A A1 S1 A2 S2 D N) := hP
  clear e1 g1 hf1 gw1 hP
  -- behind two more blocks
  have H2 : Hid (∀ o2 o, o2 = Obj.cells #[.int .i64 0, .int .i64 0] 107 → o = Obj.cells #[.slice none 0 0, .int .i64 0, .int .i64 0] 188 →
      Calls Tryz.prog 89 #[.pointer (some ⟨w1.heap.size + 1, 0, none⟩), .slice (some ⟨g, 0, none⟩) 2 cap] ((w1.alloc o2).alloc o) fun e w' => e = .returned (.tuple #[]) ∧ LiveP w' w1.heap.size g A A1 S1 A2 S2 D N ∧ w1.grownBy w' none ∧ w'.heap[w1.heap.size + 1]? = some (.cells #[.slice none 0 0, .int .i64 0, .int .i64 0] 188)) := by
    intro o2 o h2 h3
    have hh := heap_two_new w1 o2 o
    have hgr : w1.grownBy ((w1.alloc o2).alloc o) none := (World.grownBy_alloc w1 _ none).trans (World.grownBy_alloc _ _ none)
    have hC : ((w1.alloc o2).alloc o).heap[w1.heap.size + 1]? = some (.cells #[.slice none 0 0, .int .i64 0, .int .i64 0] 188) := by rw [hh.1, h3]
    have hl := HL1.out.keep fun k hk => hgr.block k hk (by simp)
    refine (block_live (cap := cap) hl hC).mono ?_
    rintro e w' ⟨h4, rfl⟩
    refine ⟨h4, hl.keep fun k hk => Below.heap_setCell _ _ _ _ (by show k ≠ w1.heap.size + 1; omega), grown_new hgr (by omega) _ _, ?_⟩
    exact heap_setCell_same _ _ _ _ _ _ hC
  go_wp2_with fail
  refine (H2.out _ _ rfl rfl).mono ?_
  rintro e w2 ⟨rfl, l2, g2, k2⟩
  have d1 : w2.cell? ⟨w1.heap.size + 1, 1, none⟩ = some (.int .i64 0) := cell_at k2
  have HL2 : Hid (LiveP w2 w1.heap.size g A A1 S1 A2 S2 D N ∧ w1.grownBy w2 none) := ⟨l2, g2⟩
  clear l2 g2 k2 H2 HL1
  go_wp2_with fail
  refine (total_live (cap := cap) HL2.out.1 HL2.out.2.size).mono ?_
  rintro e w3 ⟨rfl, g3⟩
  have hf3 : w3.heap[w.heap.size]? = some (.cells #[.int .i64 0, .int .i64 0] 107) := (g3.block _ (by have := HL2.out.2.size; have := lt_of_some HG1.out.2; omega) (by simp)).trans ((HL2.out.2.block _ (lt_of_some HG1.out.2) (by simp)).trans HG1.out.2)
  have r0 : w3.cell? ⟨w.heap.size, 0, none⟩ = some (.int .i64 0) := cell_at hf3
  have r1 : w3.cell? ⟨w.heap.size, 1, none⟩ = some (.int .i64 0) := cell_at hf3
  have rf : ∀ j, w3.frozen? ⟨w.heap.size, j, none⟩ = false := fun j => frozen_at hf3
  have s1 := HG1.out.1.size
  have s2 := HL2.out.2.size
  have s3 := g3.size
  have hlt := lt_of_some HG1.out.2
  have HF : Hid (∀ X, X = (w3.setCell ⟨w.heap.size, 0, none⟩ (.int .i64 0)).setCell ⟨w.heap.size, 1, none⟩ (.int .i64 0) → X.cell? ⟨w.heap.size, 0, none⟩ = some (.int .i64 0) ∧ X.cell? ⟨w.heap.size, 1, none⟩ = some (.int .i64 0) ∧ LiveP X w1.heap.size g A A1 S1 A2 S2 D N ∧ w1.heap.size ≤ X.heap.size ∧ w.grownBy X none) := by
    intro X hX
    subst hX
    have h0 : (w3.setCell ⟨w.heap.size, 0, none⟩ (.int .i64 0)).heap[w.heap.size]? = some (.cells #[.int .i64 0, .int .i64 0] 107) := heap_setCell_same _ _ _ _ _ _ hf3
    have h1 : ((w3.setCell ⟨w.heap.size, 0, none⟩ (.int .i64 0)).setCell ⟨w.heap.size, 1, none⟩ (.int .i64 0)).heap[w.heap.size]? = some (.cells #[.int .i64 0, .int .i64 0] 107) := heap_setCell_same _ _ _ _ _ _ h0
    have hsame : ∀ k, k < w1.heap.size → ((w3.setCell ⟨w.heap.size, 0, none⟩ (.int .i64 0)).setCell ⟨w.heap.size, 1, none⟩ (.int .i64 0)).heap[k]? = w2.heap[k]? := fun k hk => by
      by_cases e : k = w.heap.size
      · subst e
        rw [h1, HL2.out.2.block _ hlt (by simp)]
        exact HG1.out.2.symm
      · rw [Below.heap_setCell _ _ _ _ e, Below.heap_setCell _ _ _ _ e]
        exact g3.block k (by omega) (by simp)
    exact ⟨cell_at h1, cell_at h1, HL2.out.1.keep hsame, by simp; omega, grown_new (grown_new ((HG1.out.1.trans HL2.out.2).trans g3) (Nat.le_refl _) _ _) (Nat.le_refl _) _ _⟩
  clear hf3 g3 HL2 HG1
  go_wp2_with fail
  obtain ⟨x0, x1, x2, x3, x4⟩ := HF.out _ rfl
  exact bodyPost_ret (checked_results _ _ w.heap.size _ rfl rfl x0 x1) rfl ⟨_, _, _, _, _, _, _, _, _, _, rfl, x2, x3, x4⟩
end Go.Proofs.YthllhabjfchgiaaGreatDoor
