import Derived.Test.YthllhabjfchgiaaGreatDoorHy02
import Derived.Test.YthllhabjfchgiaaGreatDoorHy01
/- PLAIN FUNCTIONS: how code is read and looked over. -/
namespace Go.Proofs.YthllhabjfchgiaaGreatDoor.Hx
open Go.RowKit

/-- op.Shape: the letters of an instruction's numbers -/
def shape (o : Int) : List UInt8 :=
  if o = 0 ∨ o = 1 ∨ o = 3 then [] else if o = 2 ∨ o = 5 then [115] else if o = 6 then [115, 110] else if o = 21 then [115, 108]
  else if o = 7 ∨ o = 8 ∨ o = 9 ∨ o = 22 ∨ o = 23 ∨ o = 24 ∨ o = 27 ∨ o = 28 ∨ o = 29 ∨ o = 30 ∨ o = 31 ∨ o = 32 ∨ o = 33 ∨ o = 34 ∨ o = 36 then [115, 115]
  else if o = 4 then [108, 115, 115]
  else if o = 10 ∨ o = 11 ∨ o = 12 ∨ o = 13 ∨ o = 14 ∨ o = 15 ∨ o = 16 ∨ o = 17 ∨ o = 18 ∨ o = 19 ∨ o = 20 ∨ o = 35 then [115, 115, 115]
  else if o = 25 ∨ o = 26 then [115, 115, 115, 115] else []

def isOp (o : Int) : Bool := decide (0 ≤ o ∧ o ≤ 36)

/-- op.signed -/
def signed (x : Int) : Int := if bits .and .u64 x 1 == 1 then bits .xor .i64 (-1) (x / 2) else x / 2

/-- op.Read: r rounds more, the i-th byte next -/
def readGo (s : List UInt8) (p : Nat) : Nat → Nat → Int → Int × Int
  | 0, _, _ => (0, 0)
  | r + 1, i, acc =>
    if i = 9 ∧ 1 < (s.getD (p + i) 0).toNat then (0, 0)
    else if (s.getD (p + i) 0).toNat < 128 then (signed (bits .or .u64 acc (IntKind.u64.wrap (((s.getD (p + i) 0).toNat % 128 : Nat) * 2 ^ (i * 7)))), i + 1)
    else readGo s p r (i + 1) (bits .or .u64 acc (IntKind.u64.wrap (((s.getD (p + i) 0).toNat % 128 : Nat) * 2 ^ (i * 7))))

def read (s : List UInt8) (p : Nat) : Int × Int := readGo s p (min (s.length - p) 10) 0 0

def listSize (l : Int) : Int := if l = 0 then 8 else 16

structure Bk where
  opener : Int
  other : Int
  need : Int
  before : Int

structure Ls where
  pos : Int
  steps : List St
  blocks : List Bk
  loops : List Int
  slots : Int
  need : Int
  bad : Bool

def Ls.top (l : Ls) : Bk := l.blocks.getLastD ⟨0, 0, 0, 0⟩

/-- (*loader).count -/
def Ls.count (l : Ls) (more : Int) : Ls :=
  { l with blocks := l.blocks.dropLast ++ [{ l.top with need := wrap64 (l.top.need + more) }], bad := l.bad || decide (40000040 < wrap64 (l.top.need + more)) }

/-- (*loader).take -/
def Ls.take (l : Ls) (letter n : Int) : Ls × Bool :=
  if letter = 115 then (if n < 0 ∨ 2008 ≤ n then (l, false) else ({ l with slots := max l.slots (n + 1) }, true))
  else if letter = 108 then (l, decide (0 ≤ n ∧ n < 3)) else (l, true)
end Go.Proofs.YthllhabjfchgiaaGreatDoor.Hx

namespace Go.Proofs.YthllhabjfchgiaaGreatDoor
open Go.RowKit
open Hx (St Bk Ls In64)

/-- (*loader).add, on plain data -/
def addStep (l : Ls) (st : St) : Ls := Hx.Ls.count { l with steps := l.steps ++ [st] } 1

/-- (*loader).open -/
def openStep (l : Ls) (st : St) : Ls := { addStep l st with blocks := (addStep l st).blocks ++ [⟨l.steps.length, 0, 0, 0⟩] }

theorem addStep_steps (l : Ls) (st : St) : (addStep l st).steps = l.steps ++ [st] := rfl
theorem addStep_loops (l : Ls) (st : St) : (addStep l st).loops = l.loops := rfl
theorem addStep_blocks (l : Ls) (st : St) (hne : l.blocks ≠ []) : (addStep l st).blocks.length = l.blocks.length := by
  have : 0 < l.blocks.length := List.length_pos_iff.2 hne
  simp [addStep, Hx.Ls.count]; omega

/-- (*loader).skip -/
def skipStep (l : Ls) (st : St) : Ls := if l.loops = [] then { l with bad := true } else addStep l { st with to := l.loops.getLastD 0 }

/-- (*loader).openLoop, where there is room for one more -/
def loopStep (l : Ls) (st : St) : Ls := { openStep l { st with depth := l.loops.length } with loops := l.loops ++ [(l.steps.length : Int)] }

/-- (*loader).endIf: the step that passes over leads behind; the block is off, its need is in the block around it -/
def endIfAt (l : Ls) (p : Nat) (st : St) (init : List Bk) (b : Bk) : Ls := Hx.Ls.count { l with steps := l.steps.set p { st with to := l.steps.length }, blocks := init } (max b.need b.before)

/-- (*loader).endCode -/
def endCodeAt (l : Ls) : Ls := { addStep l ⟨1, 0, 0, 0, 0, 0, 0⟩ with need := (addStep l ⟨1, 0, 0, 0, 0, 0, 0⟩).top.need, blocks := [] }

/-- (*loader).endLoop, with what add leaves -/
def endLoopOf (l1 : Ls) (p : Nat) (sp : St) : Ls :=
  Hx.Ls.count { l1 with blocks := l1.blocks.dropLast, loops := l1.loops.dropLast, steps := l1.steps.set p { sp with to := l1.steps.length } } (wrap64 (Hx.listSize sp.a * l1.top.need))

def endLoopAt (l : Ls) (st : St) (p : Nat) (sp : St) : Ls := endLoopOf (addStep l { st with to := p }) p sp

/-- (*loader).divide, with what add leaves -/
def divideOf (l1 : Ls) (ns p : Nat) (sp : St) : Ls :=
  { l1 with blocks := l1.blocks.dropLast ++ [⟨l1.top.opener, ns, 0, l1.top.need⟩], steps := l1.steps.set p { sp with to := l1.steps.length } }

def divideAt (l : Ls) (st : St) (p : Nat) (sp : St) : Ls := divideOf (addStep l st) l.steps.length p sp

theorem addStep_top (l : Ls) (st : St) : (addStep l st).top = { l.top with need := wrap64 (l.top.need + 1) } := by
  simp [addStep, Hx.Ls.count, Hx.Ls.top]
theorem addStep_init (l : Ls) (st : St) : (addStep l st).blocks.dropLast = l.blocks.dropLast := by
  simp [addStep, Hx.Ls.count]

/-- what an instruction that was read does to the loader -/
def instr (l : Ls) (s : St) : Ls :=
  if s.op = 2 then openStep l s
  else if s.op = 4 then (if l.loops.length = 8 then { l with bad := true } else loopStep l s)
  else if s.op = 3 then
    (if l.blocks.length = 1 ∨ 0 < l.top.other then { l with bad := true } else match l.steps[l.top.opener.toNat]? with
      | none => { l with bad := true }
      | some sp => if sp.op = 2 then divideAt l s l.top.opener.toNat sp else { l with bad := true })
  else if s.op = 0 then
    (if l.blocks.length = 1 then endCodeAt l else match l.steps[l.top.opener.toNat]? with
      | none => { l with bad := true }
      | some sp =>
        if sp.op = 4 then endLoopAt l s l.top.opener.toNat sp
        else if 0 < l.top.other then match l.steps[l.top.other.toNat]? with
          | none => { l with bad := true }
          | some sr => endIfAt l l.top.other.toNat sr l.blocks.dropLast l.top
        else endIfAt l l.top.opener.toNat sp l.blocks.dropLast l.top)
  else if s.op = 5 then skipStep l s
  else addStep l s

/-- the numbers of an instruction: they, the place behind them, and how many slots there are -/
def readNums (bs : List UInt8) : List UInt8 → Nat → Int → Option (List Int × Nat × Int)
  | [], p, sl => some ([], p, sl)
  | c :: cs, p, sl =>
    if (Hx.read bs p).2 = 0 then none
    else if c = 115 ∧ ((Hx.read bs p).1 < 0 ∨ 2008 ≤ (Hx.read bs p).1) then none
    else if c = 108 ∧ ¬ (0 ≤ (Hx.read bs p).1 ∧ (Hx.read bs p).1 < 3) then none
    else (readNums bs cs (p + (Hx.read bs p).2.toNat) (if c = 115 then max sl ((Hx.read bs p).1 + 1) else sl)).map fun r => ((Hx.read bs p).1 :: r.1, r.2)

/-- (*loader).read -/
def readStep (bs : List UInt8) (l : Ls) : Option (St × Ls) :=
  match bs[l.pos.toNat]? with
  | none => none
  | some o => if Hx.isOp o.toNat then match readNums bs (Hx.shape o.toNat) (l.pos.toNat + 1) l.slots with
      | none => none
      | some (ns, p, sl) => some (⟨o.toNat, ns.getD 0 0, ns.getD 1 0, ns.getD 2 0, ns.getD 3 0, 0, 0⟩, { l with pos := p, slots := sl })
    else none

def firstLs : Ls := ⟨0, [], [⟨0, 0, 0, 0⟩], [], 8, 0, false⟩

def loadGo (bs : List UInt8) : Nat → Ls → Ls
  | 0, l => l
  | f + 1, l => if l.blocks = [] ∨ l.bad = true then l else match readStep bs l with
    | none => { l with bad := true }
    | some (s, l') => loadGo bs f (instr l' s)

/-- vm.Load: the loader at its end -/
def loaded (bs : List UInt8) : Ls := loadGo bs (bs.length + 1) firstLs

/-- whether Load takes it -/
def takes (bs : List UInt8) : Bool := decide (bs.length ≤ 100000) && !(loaded bs).bad && decide ((loaded bs).pos = bs.length)

end Go.Proofs.YthllhabjfchgiaaGreatDoor

/- Package op: how instructions and numbers are read. -/
namespace Go.Proofs.YthllhabjfchgiaaGreatDoor.Hx
open Go.RowKit

end Go.Proofs.YthllhabjfchgiaaGreatDoor.Hx

namespace Go.Proofs.YthllhabjfchgiaaGreatDoor
open Go.RowKit

theorem ret_two {a a' b b' : Value} (h1 : a = a') (h2 : b = b') : Ending.returned (.tuple #[a, b]) = .returned (.tuple #[a', b']) := by rw [h1, h2]

theorem listSize_any (l : Int) (w : World) :
    Calls Tryz.prog 210 #[.int .i64 l] w fun e w' => e = .returned (.int .i64 (Hx.listSize l)) ∧ w' = w := by
  by_cases h : l = 0
  · subst h
    go_enter Tryz.func210, Tryz.ntmps210
    go_wp2
    go_ret
    exact ⟨rfl, rfl⟩
  · have h' : (l == 0) = false := by simpa using h
    go_enter Tryz.func210, Tryz.ntmps210
    go_wp2
    go_ret
    exact ⟨ret_int (by simp [Hx.listSize, h]), rfl⟩

set_option maxHeartbeats 1000000 in
theorem shape_any (o : Int) (w : World) (h0 : 0 ≤ o) :
    Calls Tryz.prog 165 #[.int .u8 o] w fun e w' => e = .returned (.tuple #[.string ⟨(Hx.shape o).toArray⟩, .bool (Hx.isOp o)]) ∧ w' = w := by
  go_enter Tryz.func165, Tryz.ntmps165
  go_wp2
  all_goals (go_ret2; refine ⟨ret_two ?_ ?_, rfl⟩)
  all_goals (simp only [beq_iff_eq, beq_eq_false_iff_ne, ne_eq] at *)
  all_goals first | (subst_vars; rfl) | skip
  · simp [Hx.shape, *]
  · have e : Hx.isOp o = false := by
      simp only [Hx.isOp, decide_eq_false_iff_not]
      omega
    rw [e]
    rfl

theorem signed_any (x : Int) (w : World) (h0 : 0 ≤ x) (h1 : x < 18446744073709551616) :
    Calls Tryz.prog 209 #[.int .u64 x] w fun e w' => e = .returned (.int .i64 (Hx.signed x)) ∧ w' = w := by
  unfold Hx.signed
  generalize hz : (bits .and .u64 x 1 == 1) = z
  cases z with
  | false =>
    go_enter Tryz.func209, Tryz.ntmps209
    go_wp2
    go_ret
    exact ⟨rfl, rfl⟩
  | true =>
    go_enter Tryz.func209, Tryz.ntmps209
    go_wp2
    go_ret
    exact ⟨rfl, rfl⟩

theorem or_u64 (x y : Int) : 0 ≤ bits .or .u64 x y ∧ bits .or .u64 x y < 18446744073709551616 := ⟨bits_lo_u64 _ _ _, by have := bits_hi_u64 .or x y; omega⟩

set_option maxRecDepth 100000 in
set_option maxHeartbeats 1000000 in
theorem read_short (s : ByteArray) (p r : Nat) (out : Int × Int) (w : World) (hs : s.size ≤ 100000) (a1 : (r : Int) ≤ (s.size : Int) - (p : Int)) (a2 : (s.size : Int) - (p : Int) ≤ (r : Int)) (a3 : (s.size : Int) - (p : Int) ≤ 10)
    (HR : Hid (out = Hx.readGo s.data.toList p r 0 0)) :
    Calls Tryz.prog 166 #[.string s, .int .i64 p] w fun e w' => e = .returned (.tuple #[.int .i64 out.1, .int .i64 out.2]) ∧ w' = w := by
  go_enter Tryz.func166, Tryz.ntmps166
  go_wp2
  go_loop [6, 14] (fun acc i => ∃ (k : Nat) (x : Int), k ≤ r ∧ i = .int .i64 k ∧ acc = .int .u64 x ∧ 0 ≤ x ∧ x < 18446744073709551616 ∧ Hid (out = Hx.readGo s.data.toList p (r - k) k x)) (fun _ i => r - (intOf i).toNat)
  case atStart => exact ⟨0, 0, Nat.zero_le _, rfl, rfl, by omega, by omega, HR⟩
  case round =>
    obtain ⟨k, x, hk, rfl, rfl, hx0, hx1, HE⟩ := hrel
    clear HR
    by_cases hlt : k < r
    · obtain ⟨q, hqe⟩ : ∃ q, p + k = q := ⟨_, rfl⟩
      have hq : q < s.size := by omega
      have hpk : (p : Int) + (k : Int) = (q : Int) := by omega
      have hq0 : (0 : Int) ≤ (q : Int) := by omega
      have hq1 : (q : Int) < (s.size : Int) := by omega
      have HN : Hid (out = if k = 9 ∧ 1 < s[q].toNat then (0, 0)
          else if s[q].toNat < 128 then (Hx.signed (bits .or .u64 x (IntKind.u64.wrap ((s[q].toNat % 128 : Nat) * 2 ^ (k * 7)))), (k : Int) + 1)
          else Hx.readGo s.data.toList p (r - (k + 1)) (k + 1) (bits .or .u64 x (IntKind.u64.wrap ((s[q].toNat % 128 : Nat) * 2 ^ (k * 7))))) := by
        show out = _
        have hb : s.data.toList.getD (p + k) 0 = s[q] := by
          subst hqe
          have : (p + k) < s.data.toList.length := by simpa using hq
          rw [List.getD_eq_getElem?_getD, List.getElem?_eq_getElem this]
          rfl
        obtain ⟨r', hr'⟩ : ∃ r', r - k = r' + 1 := ⟨r - k - 1, by omega⟩
        rw [HE.out, hr', Hx.readGo, hb, show r - (k + 1) = r' by omega]
      clear HE hqe
      have hdk : decide ((k : Int) < (s.size : Int) - (p : Int)) = true := by simp; omega
      go_wp2_with fail
      · have e1 : out = (0, 0) := by
          rw [HN.out, if_pos ⟨by omega, by omega⟩]
        go_ret2
        exact ⟨ret_two (by rw [e1]; rfl) (by rw [e1]; rfl), rfl⟩
      · have k9 : k = 9 := by omega
        have e1 : out = (Hx.signed (bits .or .u64 x ((s[q].toNat : Int) % 128 * 9223372036854775808)), 10) := by
          rw [HN.out, if_neg (by omega), if_pos (by omega)]
          have e2 : IntKind.u64.wrap (((s[q].toNat % 128 : Nat) : Int) * 2 ^ (k * 7)) = (s[q].toNat : Int) % 128 * 9223372036854775808 := by
            rw [k9, IntKind.wrap_u64]
            omega
          rw [e2, k9]
          rfl
        refine (signed_any _ _ (or_u64 _ _).1 (or_u64 _ _).2).mono ?_
        rintro e w' ⟨rfl, rfl⟩
        go_wp2
        go_ret2
        exact ⟨ret_two (by rw [e1]; rfl) (by rw [e1]; rfl), rfl⟩
      · have e1 : out = (Hx.signed (bits .or .u64 x (IntKind.u64.wrap ((s[q].toNat : Int) % 128 * 2 ^ (k * 7)))), (k : Int) + 1) := by
          rw [HN.out, if_neg (by omega), if_pos (by omega)]
          rfl
        refine (signed_any _ _ (or_u64 _ _).1 (or_u64 _ _).2).mono ?_
        rintro e w' ⟨rfl, rfl⟩
        go_wp2
        go_ret2
        exact ⟨ret_two (by rw [e1]; rfl) (by rw [e1]; rfl), rfl⟩
      · have HE2 : Hid (out = Hx.readGo s.data.toList p (r - (k + 1)) (k + 1) (bits .or .u64 x (IntKind.u64.wrap ((s[q].toNat : Int) % 128 * 2 ^ (k * 7))))) := by
          show out = _
          rw [HN.out, if_neg (by omega), if_neg (by omega)]
          rfl
        refine ⟨⟨k + 1, _, by omega, by go_num, rfl, (or_u64 _ _).1, (or_u64 _ _).2, HE2⟩, ?_⟩
        simp [intOf]; omega
    · have HF : Hid (out = (0, 0)) := by
        show out = _
        rw [HE.out, show r - k = 0 by omega]; rfl
      have hdk : decide ((k : Int) < (s.size : Int) - (p : Int)) = false := by simp; omega
      clear HE
      go_wp2
      go_ret2
      exact ⟨ret_two (by rw [HF.out]; rfl) (by rw [HF.out]; rfl), rfl⟩

set_option maxRecDepth 100000 in
set_option maxHeartbeats 1000000 in
theorem read_long (s : ByteArray) (p : Nat) (out : Int × Int) (w : World) (hs : s.size ≤ 100000) (a1 : 10 < (s.size : Int) - (p : Int))
    (HR : Hid (out = Hx.readGo s.data.toList p 10 0 0)) :
    Calls Tryz.prog 166 #[.string s, .int .i64 p] w fun e w' => e = .returned (.tuple #[.int .i64 out.1, .int .i64 out.2]) ∧ w' = w := by
  go_enter Tryz.func166, Tryz.ntmps166
  go_wp2
  go_loop [6, 14] (fun acc i => ∃ (k : Nat) (x : Int), k ≤ 10 ∧ i = .int .i64 k ∧ acc = .int .u64 x ∧ 0 ≤ x ∧ x < 18446744073709551616 ∧ Hid (out = Hx.readGo s.data.toList p (10 - k) k x)) (fun _ i => 10 - (intOf i).toNat)
  case atStart => exact ⟨0, 0, Nat.zero_le _, rfl, rfl, by omega, by omega, HR⟩
  case round =>
    obtain ⟨k, x, hk, rfl, rfl, hx0, hx1, HE⟩ := hrel
    clear HR
    by_cases hlt : k < 10
    · obtain ⟨q, hqe⟩ : ∃ q, p + k = q := ⟨_, rfl⟩
      have hq : q < s.size := by omega
      have hpk : (p : Int) + (k : Int) = (q : Int) := by omega
      have hq0 : (0 : Int) ≤ (q : Int) := by omega
      have hq1 : (q : Int) < (s.size : Int) := by omega
      have HN : Hid (out = if k = 9 ∧ 1 < s[q].toNat then (0, 0)
          else if s[q].toNat < 128 then (Hx.signed (bits .or .u64 x (IntKind.u64.wrap ((s[q].toNat % 128 : Nat) * 2 ^ (k * 7)))), (k : Int) + 1)
          else Hx.readGo s.data.toList p (10 - (k + 1)) (k + 1) (bits .or .u64 x (IntKind.u64.wrap ((s[q].toNat % 128 : Nat) * 2 ^ (k * 7))))) := by
        show out = _
        have hb : s.data.toList.getD (p + k) 0 = s[q] := by
          subst hqe
          have : (p + k) < s.data.toList.length := by simpa using hq
          rw [List.getD_eq_getElem?_getD, List.getElem?_eq_getElem this]
          rfl
        obtain ⟨r', hr'⟩ : ∃ r', 10 - k = r' + 1 := ⟨10 - k - 1, by omega⟩
        rw [HE.out, hr', Hx.readGo, hb, show 10 - (k + 1) = r' by omega]
      clear HE hqe
      have hdk : decide ((k : Int) < 10) = true := by simp; omega
      go_wp2_with fail
      · have e1 : out = (0, 0) := by
          rw [HN.out, if_pos ⟨by omega, by omega⟩]
        go_ret2
        exact ⟨ret_two (by rw [e1]; rfl) (by rw [e1]; rfl), rfl⟩
      · have k9 : k = 9 := by omega
        have e1 : out = (Hx.signed (bits .or .u64 x ((s[q].toNat : Int) % 128 * 9223372036854775808)), 10) := by
          rw [HN.out, if_neg (by omega), if_pos (by omega)]
          have e2 : IntKind.u64.wrap (((s[q].toNat % 128 : Nat) : Int) * 2 ^ (k * 7)) = (s[q].toNat : Int) % 128 * 9223372036854775808 := by
            rw [k9, IntKind.wrap_u64]
            omega
          rw [e2, k9]
          rfl
        refine (signed_any _ _ (or_u64 _ _).1 (or_u64 _ _).2).mono ?_
        rintro e w' ⟨rfl, rfl⟩
        go_wp2
        go_ret2
        exact ⟨ret_two (by rw [e1]; rfl) (by rw [e1]; rfl), rfl⟩
      · have e1 : out = (Hx.signed (bits .or .u64 x (IntKind.u64.wrap ((s[q].toNat : Int) % 128 * 2 ^ (k * 7)))), (k : Int) + 1) := by
          rw [HN.out, if_neg (by omega), if_pos (by omega)]
          rfl
        refine (signed_any _ _ (or_u64 _ _).1 (or_u64 _ _).2).mono ?_
        rintro e w' ⟨rfl, rfl⟩
        go_wp2
        go_ret2
        exact ⟨ret_two (by rw [e1]; rfl) (by rw [e1]; rfl), rfl⟩
      · have HE2 : Hid (out = Hx.readGo s.data.toList p (10 - (k + 1)) (k + 1) (bits .or .u64 x (IntKind.u64.wrap ((s[q].toNat : Int) % 128 * 2 ^ (k * 7))))) := by
          show out = _
          rw [HN.out, if_neg (by omega), if_neg (by omega)]
          rfl
        refine ⟨⟨k + 1, _, by omega, by go_num, rfl, (or_u64 _ _).1, (or_u64 _ _).2, HE2⟩, ?_⟩
        simp [intOf]; omega
    · have HF : Hid (out = (0, 0)) := by
        show out = _
        rw [HE.out, show 10 - k = 0 by omega]; rfl
      have hdk : decide ((k : Int) < 10) = false := by simp; omega
      clear HE
      go_wp2
      go_ret2
      exact ⟨ret_two (by rw [HF.out]; rfl) (by rw [HF.out]; rfl), rfl⟩

theorem read_any (s : ByteArray) (p : Nat) (w : World) (hs : s.size ≤ 100000) (hp : p ≤ s.size) :
    Calls Tryz.prog 166 #[.string s, .int .i64 p] w fun e w' => e = .returned (.tuple #[.int .i64 (Hx.read s.data.toList p).1, .int .i64 (Hx.read s.data.toList p).2]) ∧ w' = w := by
  have hlen : s.data.toList.length = s.size := by simp
  by_cases h10 : s.size - p ≤ 10
  · exact read_short s p (s.size - p) _ w hs (by omega) (by omega) (by omega) (by show _ = _; unfold Hx.read; rw [hlen, Nat.min_eq_left h10])
  · exact read_long s p _ w hs (by omega) (by show _ = _; unfold Hx.read; rw [hlen, Nat.min_eq_right (by omega)])
end Go.Proofs.YthllhabjfchgiaaGreatDoor

/- The loader in memory. -/
namespace Go.Proofs.YthllhabjfchgiaaGreatDoor.Hx
open Go.RowKit

end Go.Proofs.YthllhabjfchgiaaGreatDoor.Hx

namespace Go.Proofs.YthllhabjfchgiaaGreatDoor
open Go.RowKit
open Hx (St Bk Ls In64)

def stepCells (s : St) : List Value := [.int .u8 s.op, .int .i64 s.a, .int .i64 s.b, .int .i64 s.c, .int .i64 s.d, .int .i64 s.depth, .int .i64 s.to]
def bkCells (b : Bk) : List Value := [.int .i64 b.opener, .int .i64 b.other, .int .i64 b.need, .int .i64 b.before]

/-- the loader in block L, its three rows from block B on, each in a block of its own -/
structure LoadIn (B : Nat) (w : World) (L : Nat) (s : ByteArray) (l : Ls) (vs vb vl : Value) : Prop where
  bL : B ≤ L
  c0 : w.cell? ⟨L, 0, none⟩ = some (.string s)
  c1 : w.cell? ⟨L, 1, none⟩ = some (.int .i64 l.pos)
  c2 : w.cell? ⟨L, 2, none⟩ = some vs
  c3 : w.cell? ⟨L, 3, none⟩ = some vb
  c4 : w.cell? ⟨L, 4, none⟩ = some vl
  c5 : w.cell? ⟨L, 5, none⟩ = some (.int .i64 l.slots)
  c6 : w.cell? ⟨L, 6, none⟩ = some (.int .i64 l.need)
  c7 : w.cell? ⟨L, 7, none⟩ = some (.bool l.bad)
  fr : ∀ j, w.frozen? ⟨L, j, none⟩ = false
  steps : w.ownsRow B 125 7 vs l.steps.length (l.steps.flatMap stepCells)
  blocks : w.ownsRow B 226 4 vb l.blocks.length (l.blocks.flatMap bkCells)
  loops : w.ownsRow B 3 1 vl l.loops.length (l.loops.map (Value.int .i64))
  ns : vs.ownBlock ≠ some L
  nb : vb.ownBlock ≠ some L
  nl : vl.ownBlock ≠ some L
  sb : vs.ownBlock = none ∨ vs.ownBlock ≠ vb.ownBlock
  sl : vs.ownBlock = none ∨ vs.ownBlock ≠ vl.ownBlock
  bl : vb.ownBlock = none ∨ vb.ownBlock ≠ vl.ownBlock

/-- nothing has turned but the loader and its rows; a row lies where it lay, or in a new block -/
structure Moves (L : Nat) (w : World) (vs vb vl : Value) (w' : World) (vs' vb' vl' : Value) : Prop where
  os : w'.os = w.os
  tape : w'.tape = w.tape
  output : w'.output = w.output
  size : w.heap.size ≤ w'.heap.size
  block : ∀ k, k < w.heap.size → k ≠ L → some k ≠ vs.ownBlock → some k ≠ vb.ownBlock → some k ≠ vl.ownBlock → w'.heap[k]? = w.heap[k]?
  fs : ∀ g, vs'.ownBlock = some g → vs.ownBlock = some g ∨ w.heap.size ≤ g
  fb : ∀ g, vb'.ownBlock = some g → vb.ownBlock = some g ∨ w.heap.size ≤ g
  fl : ∀ g, vl'.ownBlock = some g → vl.ownBlock = some g ∨ w.heap.size ≤ g

theorem Moves.refl (L : Nat) (w : World) (vs vb vl : Value) : Moves L w vs vb vl w vs vb vl :=
  ⟨rfl, rfl, rfl, Nat.le_refl _, fun _ _ _ _ _ _ => rfl, fun _ h => Or.inl h, fun _ h => Or.inl h, fun _ h => Or.inl h⟩

theorem Moves.trans {L : Nat} {w w1 w2 : World} {vs vb vl vs1 vb1 vl1 vs2 vb2 vl2 : Value} (h : Moves L w vs vb vl w1 vs1 vb1 vl1) (k : Moves L w1 vs1 vb1 vl1 w2 vs2 vb2 vl2) : Moves L w vs vb vl w2 vs2 vb2 vl2 := by
  have aux : ∀ {v v1 : Value}, (∀ g, v1.ownBlock = some g → v.ownBlock = some g ∨ w.heap.size ≤ g) → ∀ j, j < w.heap.size → some j ≠ v.ownBlock → some j ≠ v1.ownBlock := fun hf j hj hn e => by
    rcases hf j e.symm with h1 | h1
    · exact hn h1.symm
    · omega
  have aux2 : ∀ {v v1 v2 : Value}, (∀ g, v1.ownBlock = some g → v.ownBlock = some g ∨ w.heap.size ≤ g) → (∀ g, v2.ownBlock = some g → v1.ownBlock = some g ∨ w1.heap.size ≤ g) → ∀ g, v2.ownBlock = some g → v.ownBlock = some g ∨ w.heap.size ≤ g := fun h1 h2 g hg => by
    rcases h2 g hg with h3 | h3
    · exact h1 g h3
    · exact Or.inr (Nat.le_trans h.size h3)
  refine ⟨k.os.trans h.os, k.tape.trans h.tape, k.output.trans h.output, Nat.le_trans h.size k.size, fun j hj hL h1 h2 h3 => ?_, aux2 h.fs k.fs, aux2 h.fb k.fb, aux2 h.fl k.fl⟩
  rw [k.block j (Nat.lt_of_lt_of_le hj h.size) hL (aux h.fs j hj h1) (aux h.fb j hj h2) (aux h.fl j hj h3)]
  exact h.block j hj hL h1 h2 h3

variable {B : Nat} {w : World} {L : Nat} {s : ByteArray} {l : Ls} {vs vb vl : Value}

theorem LoadIn.lt (h : LoadIn B w L s l vs vb vl) : L < w.heap.size := World.block_lt_of_cell? w _ h.c0

/-- behind new blocks and draws -/
theorem LoadIn.grow (h : LoadIn B w L s l vs vb vl) {w' : World} (hg : w.grownBy w' none) : LoadIn B w' L s l vs vb vl := by
  have hb : w'.heap[L]? = w.heap[L]? := hg.block L h.lt (by simp)
  have hc : ∀ j, w'.cell? ⟨L, j, none⟩ = w.cell? ⟨L, j, none⟩ := fun j => World.cell?_of_block hb
  have hf : ∀ j, w'.frozen? ⟨L, j, none⟩ = w.frozen? ⟨L, j, none⟩ := fun j => World.frozen?_of_block hb
  have hk : ∀ v : Value, v.ownBlock = none ∨ v.ownBlock ≠ none := fun v => by cases v.ownBlock <;> simp
  exact ⟨h.bL, by rw [hc]; exact h.c0, by rw [hc]; exact h.c1, by rw [hc]; exact h.c2, by rw [hc]; exact h.c3, by rw [hc]; exact h.c4, by rw [hc]; exact h.c5, by rw [hc]; exact h.c6, by rw [hc]; exact h.c7,
    fun j => by rw [hf]; exact h.fr j, h.steps.kept hg (hk vs), h.blocks.kept hg (hk vb), h.loops.kept hg (hk vl), h.ns, h.nb, h.nl, h.sb, h.sl, h.bl⟩

theorem LoadIn.alloc (h : LoadIn B w L s l vs vb vl) (o : Obj) : LoadIn B (w.alloc o) L s l vs vb vl := h.grow (World.grownBy_alloc w o none)
theorem LoadIn.drewN (h : LoadIn B w L s l vs vb vl) (n : Nat) : LoadIn B (w.drewN n) L s l vs vb vl := h.grow ⟨rfl, rfl, rfl, Nat.le_refl _, fun _ _ _ => rfl⟩

theorem Moves.grow (L : Nat) (w : World) (vs vb vl : Value) {w' : World} (hg : w.grownBy w' none) : Moves L w vs vb vl w' vs vb vl :=
  ⟨hg.os, hg.tape, hg.output, hg.size, fun k hk _ _ _ _ => hg.block k hk (by simp), fun _ h => Or.inl h, fun _ h => Or.inl h, fun _ h => Or.inl h⟩

/-- a store into the loader's own block: what its fields hold then, field by field -/
theorem LoadIn.put (h : LoadIn B w L s l vs vb vl) (j : Nat) (u : Value) (l' : Ls) (vs' vb' vl' : Value)
    (h1 : (w.setCell ⟨L, j, none⟩ u).cell? ⟨L, 1, none⟩ = some (.int .i64 l'.pos)) (h2 : (w.setCell ⟨L, j, none⟩ u).cell? ⟨L, 2, none⟩ = some vs') (h3 : (w.setCell ⟨L, j, none⟩ u).cell? ⟨L, 3, none⟩ = some vb')
    (h4 : (w.setCell ⟨L, j, none⟩ u).cell? ⟨L, 4, none⟩ = some vl') (h5 : (w.setCell ⟨L, j, none⟩ u).cell? ⟨L, 5, none⟩ = some (.int .i64 l'.slots)) (h6 : (w.setCell ⟨L, j, none⟩ u).cell? ⟨L, 6, none⟩ = some (.int .i64 l'.need))
    (h7 : (w.setCell ⟨L, j, none⟩ u).cell? ⟨L, 7, none⟩ = some (.bool l'.bad)) (h0 : ¬ j = 0)
    (hs : w.ownsRow B 125 7 vs' l'.steps.length (l'.steps.flatMap stepCells)) (hb : w.ownsRow B 226 4 vb' l'.blocks.length (l'.blocks.flatMap bkCells)) (hl : w.ownsRow B 3 1 vl' l'.loops.length (l'.loops.map (Value.int .i64)))
    (ns : vs'.ownBlock ≠ some L) (nb : vb'.ownBlock ≠ some L) (nl : vl'.ownBlock ≠ some L) (sb : vs'.ownBlock = none ∨ vs'.ownBlock ≠ vb'.ownBlock) (sl : vs'.ownBlock = none ∨ vs'.ownBlock ≠ vl'.ownBlock) (bl : vb'.ownBlock = none ∨ vb'.ownBlock ≠ vl'.ownBlock) :
    LoadIn B (w.setCell ⟨L, j, none⟩ u) L s l' vs' vb' vl' := by
  have hg := grownBy_setCell w ⟨L, j, none⟩ u
  exact ⟨h.bL, by rw [World.cell?_setCell_other _ _ _ _ (by intro e; cases e; exact h0 rfl)]; exact h.c0, h1, h2, h3, h4, h5, h6, h7, fun j' => by rw [World.frozen?_setCell]; exact h.fr j',
    hs.kept hg (Or.inr ns), hb.kept hg (Or.inr nb), hl.kept hg (Or.inr nl), ns, nb, nl, sb, sl, bl⟩

theorem Moves.own (L : Nat) (w : World) (vs vb vl : Value) (j : Nat) (u : Value) : Moves L w vs vb vl (w.setCell ⟨L, j, none⟩ u) vs vb vl :=
  ⟨rfl, rfl, rfl, by simp, fun k _ hL _ _ _ => Below.heap_setCell _ _ _ _ hL, fun _ h => Or.inl h, fun _ h => Or.inl h, fun _ h => Or.inl h⟩
end Go.Proofs.YthllhabjfchgiaaGreatDoor

/- (*loader).take, innermost, count. -/
namespace Go.Proofs.YthllhabjfchgiaaGreatDoor
open Go.RowKit
open Hx (St Bk Ls In64)
variable {B : Nat} {w : World} {L : Nat} {s : ByteArray} {l : Ls} {vs vb vl : Value}

theorem LoadIn.putSlots (h : LoadIn B w L s l vs vb vl) (x : Int) : LoadIn B (w.setCell ⟨L, 5, none⟩ (.int .i64 x)) L s { l with slots := x } vs vb vl := by
  have hc : ∀ k, ¬ k = 5 → (w.setCell ⟨L, 5, none⟩ (.int .i64 x)).cell? ⟨L, k, none⟩ = w.cell? ⟨L, k, none⟩ := fun k hk => World.cell?_setCell_other _ _ _ _ (by intro e; cases e; exact hk rfl)
  exact h.put 5 _ _ vs vb vl (by rw [hc 1 (by omega)]; exact h.c1) (by rw [hc 2 (by omega)]; exact h.c2) (by rw [hc 3 (by omega)]; exact h.c3) (by rw [hc 4 (by omega)]; exact h.c4) (World.cell?_setCell_same _ _ _ h.c5) (by rw [hc 6 (by omega)]; exact h.c6) (by rw [hc 7 (by omega)]; exact h.c7) (by omega) h.steps h.blocks h.loops h.ns h.nb h.nl h.sb h.sl h.bl

theorem LoadIn.putBad (h : LoadIn B w L s l vs vb vl) : LoadIn B (w.setCell ⟨L, 7, none⟩ (.bool true)) L s { l with bad := true } vs vb vl := by
  have hc : ∀ k, ¬ k = 7 → (w.setCell ⟨L, 7, none⟩ (.bool true)).cell? ⟨L, k, none⟩ = w.cell? ⟨L, k, none⟩ := fun k hk => World.cell?_setCell_other _ _ _ _ (by intro e; cases e; exact hk rfl)
  exact h.put 7 _ _ vs vb vl (by rw [hc 1 (by omega)]; exact h.c1) (by rw [hc 2 (by omega)]; exact h.c2) (by rw [hc 3 (by omega)]; exact h.c3) (by rw [hc 4 (by omega)]; exact h.c4) (by rw [hc 5 (by omega)]; exact h.c5) (by rw [hc 6 (by omega)]; exact h.c6) (World.cell?_setCell_same _ _ _ h.c7) (by omega) h.steps h.blocks h.loops h.ns h.nb h.nl h.sb h.sl h.bl

set_option maxHeartbeats 1000000 in
theorem take_slot (h : LoadIn B w L s l vs vb vl) (n : Int) (h0 : 0 ≤ n) (h1 : n < 2008) :
    Calls Tryz.prog 167 #[.pointer (some ⟨L, 0, none⟩), .int .i32 115, .int .i64 n] w fun e w' => e = .returned (.bool true) ∧ LoadIn B w' L s { l with slots := max l.slots (n + 1) } vs vb vl ∧ Moves L w vs vb vl w' vs vb vl := by
  have c5 := h.c5
  have f5 := h.fr 5
  have d1 : decide (n < 0) = false := by simpa using h0
  have d2 : decide (2008 ≤ n) = false := by simpa using h1
  have HP : Hid (∀ x, x = max l.slots (n + 1) → LoadIn B (w.setCell ⟨L, 5, none⟩ (.int .i64 x)) L s { l with slots := max l.slots (n + 1) } vs vb vl ∧ Moves L w vs vb vl (w.setCell ⟨L, 5, none⟩ (.int .i64 x)) vs vb vl) := by
    intro x hx
    refine ⟨?_, Moves.own _ _ _ _ _ _ _⟩
    rw [← hx]
    exact h.putSlots _
  generalize hl' : ({ l with slots := max l.slots (n + 1) } : Ls) = l' at *
  clear hl'
  generalize l.slots = sl at *
  clear h
  go_enter Tryz.func167, Tryz.ntmps167
  go_wp2
  all_goals (go_ret; exact ⟨rfl, HP.out _ (by omega)⟩)

set_option maxHeartbeats 1000000 in
theorem take_bad (h : LoadIn B w L s l vs vb vl) (n : Int) (hn : n < 0 ∨ 2008 ≤ n) :
    Calls Tryz.prog 167 #[.pointer (some ⟨L, 0, none⟩), .int .i32 115, .int .i64 n] w fun e w' => e = .returned (.bool false) ∧ w' = w := by
  have _h := h.c5
  clear _h h
  by_cases h0 : n < 0
  · have d1 : decide (n < 0) = true := by simpa using h0
    go_enter Tryz.func167, Tryz.ntmps167
    go_wp2
    go_ret
    exact ⟨rfl, rfl⟩
  · have d1 : decide (n < 0) = false := by simpa using h0
    have d2 : decide (2008 ≤ n) = true := by simp; omega
    go_enter Tryz.func167, Tryz.ntmps167
    go_wp2
    go_ret
    exact ⟨rfl, rfl⟩

set_option maxHeartbeats 1000000 in
theorem take_list (n : Int) (w : World) (L : Nat) :
    Calls Tryz.prog 167 #[.pointer (some ⟨L, 0, none⟩), .int .i32 108, .int .i64 n] w fun e w' => e = .returned (.bool (decide (0 ≤ n ∧ n < 3))) ∧ w' = w := by
  by_cases h0 : 0 ≤ n
  · have d1 : decide (0 ≤ n) = true := by simpa using h0
    go_enter Tryz.func167, Tryz.ntmps167
    go_wp2
    go_ret
    exact ⟨ret_bool (by simp [h0]), rfl⟩
  · have d1 : decide (0 ≤ n) = false := by simpa using h0
    go_enter Tryz.func167, Tryz.ntmps167
    go_wp2
    go_ret
    exact ⟨ret_bool (by simp), rfl⟩

set_option maxHeartbeats 1000000 in
theorem take_any_number (c n : Int) (w : World) (L : Nat) (h1 : (c == 115) = false) (h2 : (c == 108) = false) :
    Calls Tryz.prog 167 #[.pointer (some ⟨L, 0, none⟩), .int .i32 c, .int .i64 n] w fun e w' => e = .returned (.bool true) ∧ w' = w := by
  go_enter Tryz.func167, Tryz.ntmps167
  go_wp2
  go_ret
  exact ⟨rfl, rfl⟩
end Go.Proofs.YthllhabjfchgiaaGreatDoor

/- (*loader).innermost, count. -/
namespace Go.Proofs.YthllhabjfchgiaaGreatDoor
open Go.RowKit
open Hx (St Bk Ls In64)
variable {B : Nat} {w : World} {L : Nat} {s : ByteArray} {l : Ls} {vs vb vl : Value} {aS : Option Addr} {nS cS g n cap : Nat}

theorem bk_len (bs : List Bk) : (bs.flatMap bkCells).length = 4 * bs.length := by
  induction bs with
  | nil => rfl
  | cons b bs ih => simp only [List.flatMap_cons, List.length_append, ih, List.length_cons, bkCells, List.length_nil]; omega

/-- the innermost block, in its row -/
theorem LoadIn.inner (h : LoadIn B w L s l vs vb vl) (hne : l.blocks ≠ []) :
    ∃ g cap init b, vb = .slice (some ⟨g, 0, none⟩) l.blocks.length cap ∧ l.blocks = init ++ [b] ∧ l.top = b ∧ ¬ g = L ∧ B ≤ g ∧ g < w.heap.size ∧ some g ≠ vs.ownBlock ∧ some g ≠ vl.ownBlock ∧
      w.cell? ⟨g, init.length * 4, none⟩ = some (.int .i64 b.opener) ∧ w.cell? ⟨g, init.length * 4 + 1, none⟩ = some (.int .i64 b.other) ∧
      w.cell? ⟨g, init.length * 4 + 2, none⟩ = some (.int .i64 b.need) ∧ w.cell? ⟨g, init.length * 4 + 3, none⟩ = some (.int .i64 b.before) ∧ (∀ j, w.frozen? ⟨g, j, none⟩ = false) := by
  obtain ⟨init, b, hb⟩ : ∃ init b, l.blocks = init ++ [b] := ⟨_, _, (List.dropLast_concat_getLast hne).symm⟩
  have hrow := h.blocks
  rcases hrow.2 with ⟨h1, h2⟩ | ⟨g, cap, cur, h1, h2, h3⟩
  · rw [hb] at h2; simp at h2
  · have hlt := hrow.lt g (by rw [h1]; rfl)
    have hnb := h.nb
    have hsb := h.sb
    have hbl := h.bl
    rw [h1] at hrow hnb hsb hbl
    have hcell : ∀ j, j < 4 → w.cell? ⟨g, init.length * 4 + j, none⟩ = (bkCells b)[j]? := fun j hj => by
      rw [hrow.cellAt _ (by rw [hb]; simp; omega), hb]
      simp only [List.flatMap_append, List.flatMap_cons, List.flatMap_nil, List.append_nil]
      rw [List.getElem?_append_right (by rw [bk_len]; omega), bk_len]
      congr 1
      omega
    refine ⟨g, cap, init, b, h1, hb, by simp [Hx.Ls.top, hb], fun e => hnb (by rw [← e]; rfl), h2, hlt.2, ?_, ?_, hcell 0 (by omega), hcell 1 (by omega), hcell 2 (by omega), hcell 3 (by omega), fun j => hrow.frozenAt j⟩
    · rcases hsb with e | e
      · rw [e]; simp
      · exact fun e' => e e'.symm
    · rcases hbl with e | e
      · cases e
      · exact e

set_option maxHeartbeats 1000000 in
theorem inner_walk (L g n cap : Nat) (w : World) (hc : w.cell? ⟨L, 3, none⟩ = some (.slice (some ⟨g, 0, none⟩) (n + 1) cap)) (hn : n ≤ 1000000) :
    Calls Tryz.prog 168 #[.pointer (some ⟨L, 0, none⟩)] w fun e w' => e = .returned (.pointer (some ⟨g, n * 4, none⟩)) ∧ ∃ k, w' = w.drewN k := by
  go_enter Tryz.func168, Tryz.ntmps168
  go_wp2_with fail
  go_quiet (fail)
  go_wp2
  go_ret
  exact ⟨rfl, _, rfl⟩

theorem bk_set_need (init : List Bk) (b : Bk) (x : Int) : ((init ++ [b]).flatMap bkCells).set (init.length * 4 + 2) (.int .i64 x) = (init ++ [{ b with need := x }]).flatMap bkCells := by
  simp only [List.flatMap_append, List.flatMap_cons, List.flatMap_nil, List.append_nil]
  rw [List.set_append_right _ _ (by rw [bk_len]; omega), bk_len, show init.length * 4 + 2 - 4 * init.length = 2 by omega]
  rfl

/-- a store into the innermost block's need -/
theorem LoadIn.putNeed (h : LoadIn B w L s l vs (.slice (some ⟨g, 0, none⟩) n cap) vl) {init : List Bk} {b : Bk} (hb : l.blocks = init ++ [b]) (hn : n = l.blocks.length) (x : Int) :
    LoadIn B (w.setCell ⟨g, init.length * 4 + 2, none⟩ (.int .i64 x)) L s { l with blocks := init ++ [{ b with need := x }] } vs (.slice (some ⟨g, 0, none⟩) n cap) vl ∧
    Moves L w vs (.slice (some ⟨g, 0, none⟩) n cap) vl (w.setCell ⟨g, init.length * 4 + 2, none⟩ (.int .i64 x)) vs (.slice (some ⟨g, 0, none⟩) n cap) vl := by
  have hgL : ¬ g = L := fun e => h.nb (by rw [← e]; rfl)
  have hc : ∀ k, (w.setCell ⟨g, init.length * 4 + 2, none⟩ (.int .i64 x)).cell? ⟨L, k, none⟩ = w.cell? ⟨L, k, none⟩ := fun k => World.cell?_setCell_other _ _ _ _ (by intro e; cases e; exact hgL rfl)
  have hrow := h.blocks
  subst hn
  have hst := hrow.stored (init.length * 4 + 2) (.int .i64 x)
  rw [show (l.blocks.flatMap bkCells).set (init.length * 4 + 2) (.int .i64 x) = (init ++ [{ b with need := x }]).flatMap bkCells by rw [hb]; exact bk_set_need init b x] at hst
  have hlen : l.blocks.length = (init ++ [{ b with need := x }]).length := by rw [hb]; simp
  refine ⟨⟨h.bL, by rw [hc]; exact h.c0, by rw [hc]; exact h.c1, by rw [hc]; exact h.c2, by rw [hc]; exact h.c3, by rw [hc]; exact h.c4, by rw [hc]; exact h.c5, by rw [hc]; exact h.c6, by rw [hc]; exact h.c7, fun j => by rw [World.frozen?_setCell]; exact h.fr j,
    h.steps.kept hst.2 (by rcases h.sb with e | e
                           · exact Or.inl e
                           · exact Or.inr e), ?_, h.loops.kept hst.2 ?_, h.ns, h.nb, h.nl, h.sb, h.sl, h.bl⟩, ?_⟩
  · have := hst.1
    rw [hlen] at this ⊢
    exact this
  · rcases h.bl with e | e
    · cases e
    · exact Or.inr (fun e' => e e'.symm)
  · exact ⟨rfl, rfl, rfl, by simp, fun k _ _ _ h2 _ => Below.heap_setCell _ _ _ _ (fun e => h2 (by rw [e]; rfl)), fun _ h => Or.inl h, fun _ h => Or.inl h, fun _ h => Or.inl h⟩

set_option maxHeartbeats 1000000 in
theorem count_any (h : LoadIn B w L s l vs vb vl) (hne : l.blocks ≠ []) (hlen : l.blocks.length ≤ 1000000) (more : Int) :
    Calls Tryz.prog 172 #[.pointer (some ⟨L, 0, none⟩), .int .i64 more] w fun e w' => e = .returned (.tuple #[]) ∧ LoadIn B w' L s (l.count more) vs vb vl ∧ Moves L w vs vb vl w' vs vb vl := by
  obtain ⟨g, cap, init, b, rfl, hb, htop, hgL, hBg, hgw, hgs, hgl, b0, b1, b2, b3, hf⟩ := h.inner hne
  have hn : l.blocks.length = init.length + 1 := by rw [hb]; simp
  have HI : Hid (Calls Tryz.prog 168 #[.pointer (some ⟨L, 0, none⟩)] w fun e w' => e = .returned (.pointer (some ⟨g, init.length * 4, none⟩)) ∧ ∃ k, w' = w.drewN k) :=
    inner_walk L g init.length cap w (by rw [h.c3, hn]) (by omega)
  have HP : Hid (∀ k, LoadIn B ((w.drewN k).setCell ⟨g, init.length * 4 + 2, none⟩ (.int .i64 (wrap64 (b.need + more)))) L s { l with blocks := init ++ [{ b with need := wrap64 (b.need + more) }] } vs (.slice (some ⟨g, 0, none⟩) l.blocks.length cap) vl ∧
      Moves L w vs (.slice (some ⟨g, 0, none⟩) l.blocks.length cap) vl ((w.drewN k).setCell ⟨g, init.length * 4 + 2, none⟩ (.int .i64 (wrap64 (b.need + more)))) vs (.slice (some ⟨g, 0, none⟩) l.blocks.length cap) vl) := fun k => by
    obtain ⟨h1, h2⟩ := (h.drewN k).putNeed hb rfl (wrap64 (b.need + more))
    exact ⟨h1, (Moves.grow L w _ _ _ (w' := w.drewN k) ⟨rfl, rfl, rfl, Nat.le_refl _, fun _ _ _ => rfl⟩).trans h2⟩
  have HC : Hid (l.count more = { l with blocks := init ++ [{ b with need := wrap64 (b.need + more) }], bad := l.bad || decide (40000040 < wrap64 (b.need + more)) }) := by
    show l.count more = _
    simp [Hx.Ls.count, htop, hb]
  have c7 := h.c7
  have f7 := h.fr 7
  have f2 := hf (init.length * 4 + 2)
  have hgL' : ¬ L = g := fun e => hgL e.symm
  clear h hne hb htop b0 b1 b3 hf hn hlen
  generalize init.length * 4 = p at *
  by_cases hbad : 40000040 < wrap64 (b.need + more)
  · have hd : decide (40000040 < wrap64 (b.need + more)) = true := by simpa using hbad
    have HD : Hid (decide (40000040 < wrap64 (b.need + more)) = true) := hd
    clear hbad
    go_enter Tryz.func172, Tryz.ntmps172
    go_wp2_with fail
    refine (HI.out).mono ?_
    rintro e w1 ⟨rfl, k, rfl⟩
    go_wp2
    go_end0
    obtain ⟨h1, h2⟩ := HP.out k
    refine ⟨rfl, ?_, h2.trans (Moves.own _ _ _ _ _ _ _)⟩
    rw [HC.out, HD.out]
    have := h1.putBad
    simpa using this
  · have hd : decide (40000040 < wrap64 (b.need + more)) = false := by simpa using hbad
    have HD : Hid (decide (40000040 < wrap64 (b.need + more)) = false) := hd
    clear hbad
    go_enter Tryz.func172, Tryz.ntmps172
    go_wp2_with fail
    refine (HI.out).mono ?_
    rintro e w1 ⟨rfl, k, rfl⟩
    go_wp2
    go_end0
    obtain ⟨h1, h2⟩ := HP.out k
    refine ⟨rfl, ?_, h2⟩
    rw [HC.out, HD.out]
    simpa using h1
end Go.Proofs.YthllhabjfchgiaaGreatDoor
