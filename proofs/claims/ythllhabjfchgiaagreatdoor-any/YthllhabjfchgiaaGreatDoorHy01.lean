import Derived.WalkKit
import Derived.Lib.TrailingZeros
import Derived.Test.YthllhabjfchgiaaGreatDoorProg
import Derived.WalkSpells
import Derived.WalkLawsBesides
import Derived.Deep.QuietTactic
import Derived.BigQuiet
import Derived.Laws.Bits64b
import Derived.Below
import Derived.Deep.RegionHeld3
import Derived.Deep.AppendLies
/- PLAIN FUNCTIONS: what the inner functions of packages op and vm come to, on numbers and lists. -/
namespace Go.Proofs.YthllhabjfchgiaaGreatDoor.Hx
open Go.RowKit

structure Rd where
  id : Int
  rtt : Int
  cwnd : Int
  out : Int
  lossy : Bool

structure Pk where
  seq : Int
  size : Int
  on : Int

structure Vw where
  roads : List Rd
  fresh : List Pk
  again : List Pk

def In64 (x : Int) : Prop := -9223372036854775808 ≤ x ∧ x ≤ 9223372036854775807

/-- the numbers of a view are of 64 bits -/
structure Vw.inRange (v : Vw) : Prop where
  roads : ∀ r ∈ v.roads, In64 r.id ∧ In64 r.rtt ∧ In64 r.cwnd ∧ In64 r.out
  fresh : ∀ p ∈ v.fresh, In64 p.seq ∧ In64 p.size ∧ In64 p.on
  again : ∀ p ∈ v.again, In64 p.seq ∧ In64 p.size ∧ In64 p.on

def truth (b : Bool) : Int := if b then 1 else 0

def quot (a b : Int) : Int := if b = 0 then 0 else wrap64 (a.tdiv b)

def rest (a b : Int) : Int := if b = 0 then 0 else a.tmod b

/-- op.Outcome -/
def two (o a b : Int) : Int :=
  if o = 10 then wrap64 (a + b) else if o = 11 then wrap64 (a - b) else if o = 12 then wrap64 (a * b)
  else if o = 13 then quot a b else if o = 14 then rest a b
  else if o = 15 then truth (decide (a < b)) else if o = 16 then truth (decide (a ≤ b))
  else if o = 17 then truth (a == b) else if o = 18 then truth (a != b)
  else if o = 19 then bits .and .i64 a b else if o = 20 then bits .or .i64 a b else 0

def ones1 (x : Int) : Int := IntKind.u64.wrap (bits .and .u64 (x / 2) 6148914691236517205 + bits .and .u64 x 6148914691236517205)
def ones2 (x : Int) : Int := IntKind.u64.wrap (bits .and .u64 (x / 4) 3689348814741910323 + bits .and .u64 x 3689348814741910323)
def ones3 (x : Int) : Int := bits .and .u64 (IntKind.u64.wrap (x / 16 + x)) 1085102592571150095
def onesS (x : Int) (n : Int) : Int := IntKind.u64.wrap (x + x / n)
/-- math/bits.OnesCount64 -/
def ones (x : Int) : Int := bits .and .i64 (wrap64 (onesS (onesS (onesS (ones3 (ones2 (ones1 x))) 256) 65536) 4294967296)) 127

/-- the bits of a number -/
def unsigned (x : Int) : Int := IntKind.u64.wrap x

def tz (x : Int) : Int := Lib.ctz 64 x.toNat

def lowest (x : Int) : Int := if x = 0 then -1 else tz x

def hasBit (x i : Int) : Bool := bits .and .i64 (x / 2 ^ i.toNat) 1 == 1

def Vw.road (v : Vw) (i : Int) : Option Rd := if i < 0 then none else v.roads[i.toNat]?

def Vw.packet (v : Vw) (i : Int) : Option Pk :=
  if 16 ≤ i then v.again[(i - 16).toNat]? else if i < 0 then none else v.fresh[i.toNat]?

def allOf (n : Nat) : Int := wrap64 (wrap64 (2 ^ n) - 1)

def Vw.all (v : Vw) (l : Int) : Int :=
  if l = 0 then allOf v.roads.length else if l = 1 then allOf v.fresh.length else wrap64 (allOf v.again.length * 65536)

def ofRoad (o : Int) : Option Rd → Int
  | none => 0
  | some r => if o = 28 then r.id else if o = 29 then r.rtt else if o = 30 then r.cwnd else if o = 31 then r.out else truth r.lossy

def ofPacket (o : Int) : Option Pk → Int
  | none => 0
  | some p => if o = 33 then p.seq else p.size

def isOn : Option Pk → Option Rd → Bool
  | some p, some r => hasBit p.on r.id
  | _, _ => false

/-- (*machine).outcome -/
def outcome (v : Vw) (o a b : Int) : Int :=
  if o = 7 then a else if o = 8 then wrap64 (-a) else if o = 9 then truth (a == 0)
  else if o = 23 then ones (unsigned a) else if o = 24 then lowest (unsigned a) else if o = 27 then truth (a == -1)
  else if o = 28 ∨ o = 29 ∨ o = 30 ∨ o = 31 ∨ o = 32 then ofRoad o (v.road a)
  else if o = 33 ∨ o = 34 then ofPacket o (v.packet a)
  else if o = 35 then truth (isOn (v.packet a) (v.road b))
  else two o a b

structure St where
  op : Int
  a : Int
  b : Int
  c : Int
  d : Int
  depth : Int
  to : Int

structure Mc where
  slots : List Int
  left : List Int
  acts : List (Int × Int)

def Mc.get (m : Mc) (i : Int) : Int := m.slots.getD i.toNat 0
def Mc.put (m : Mc) (i x : Int) : Mc := { m with slots := m.slots.set i.toNat x }
def Mc.leftAt (m : Mc) (i : Int) : Int := m.left.getD i.toNat 0
def Mc.putLeft (m : Mc) (i x : Int) : Mc := { m with left := m.left.set i.toNat x }

/-- (*machine).choose -/
def choose (s : St) (better : Bool) (m : Mc) : Mc :=
  if better || m.get s.a == -1 then (m.put s.a (m.get s.c)).put s.b (m.get s.d) else m

/-- what a Keep puts into a set -/
def keepBit (x y : Int) : Int := bits .or .i64 x (wrap64 (2 ^ (unsigned y % 64).toNat))

/-- (*machine).work -/
def work (v : Vw) (s : St) (m : Mc) : Mc :=
  if s.op = 6 then m.put s.a s.b
  else if s.op = 21 then m.put s.a (v.all s.b)
  else if s.op = 22 then m.put s.a (keepBit (m.get s.a) (m.get s.b))
  else if s.op = 25 then choose s (decide (m.get s.d < m.get s.b)) m
  else if s.op = 26 then choose s (decide (m.get s.b < m.get s.d)) m
  else m.put s.a (outcome v s.op (m.get s.b) (m.get s.c))

/-- (*machine).begin -/
def begins (v : Vw) (s : St) (m : Mc) : Mc := m.putLeft s.depth (unsigned (bits .and .i64 (m.get s.c) (v.all s.a)))

/-- (*machine).turn, at the step of a loop: the machine and the step that is next -/
def turn (s : St) (loop : Int) (m : Mc) : Mc × Int :=
  if m.leftAt s.depth = 0 then (m, s.to)
  else ((m.put s.b (tz (m.leftAt s.depth))).putLeft s.depth (bits .and .u64 (m.leftAt s.depth) (IntKind.u64.wrap (m.leftAt s.depth - 1))), loop + 1)

def St.slot (n : Nat) (x : Int) : Prop := 0 ≤ x ∧ x < n

/-- the slots of an instruction that leads to the next one are such as there are -/
def St.worksIn (n : Nat) (s : St) : Prop :=
  In64 s.b ∧ slot n s.a ∧ (s.op = 6 ∨ s.op = 21 ∨ (slot n s.b ∧ (s.op = 22 ∨ (slot n s.c ∧ ((s.op = 25 ∨ s.op = 26) → slot n s.d)))))

theorem in_wrap (x : Int) : In64 (wrap64 x) := by unfold wrap64 In64; omega
theorem in_truth (b : Bool) : In64 (truth b) := by unfold truth In64; split <;> omega
theorem in_bits (o : BinOp) (x y : Int) : In64 (bits o .i64 x y) := ⟨bits_lo_i64 _ _ _, bits_hi_i64 _ _ _⟩
theorem in_tmod (a b : Int) (h : In64 a) : In64 (a.tmod b) := by
  unfold In64 at *
  by_cases ha : 0 ≤ a
  · have h1 := Int.tmod_nonneg b ha
    have h2 : a.tmod b ≤ a := by
      obtain ⟨n, rfl⟩ := Int.eq_ofNat_of_zero_le ha
      have : ((n : Int).tmod b).natAbs ≤ n := by rw [Int.natAbs_tmod]; exact Nat.mod_le _ _
      omega
    omega
  · have h1 : (a.tmod b).natAbs ≤ a.natAbs := by rw [Int.natAbs_tmod]; exact Nat.mod_le _ _
    have h2 := Int.tmod_nonneg b (show 0 ≤ -a by omega)
    rw [Int.neg_tmod] at h2
    omega
theorem in_rest (a b : Int) (h : In64 a) : In64 (rest a b) := by
  unfold rest; split
  · unfold In64; omega
  · exact in_tmod a b h
theorem in_quot (a b : Int) : In64 (quot a b) := by
  unfold quot; split
  · unfold In64; omega
  · exact in_wrap _
theorem in_zero : In64 0 := by unfold In64; omega

theorem in_two (o a b : Int) (h : In64 a) : In64 (two o a b) := by
  unfold two
  repeat' split
  all_goals first | exact in_wrap _ | exact in_truth _ | exact in_bits _ _ _ | exact in_quot _ _ | exact in_rest _ _ h | exact in_zero

theorem tz_bd (x : Int) (h0 : 0 ≤ x) (h : x < 18446744073709551616) : 0 ≤ tz x ∧ tz x ≤ 64 := by
  unfold tz
  refine ⟨by omega, ?_⟩
  by_cases hz : x.toNat = 0
  · simp [Lib.ctz, hz]
  · have := (Lib.lowest_bit 64 x.toNat hz (by omega)).2
    omega

theorem in_lowest (x : Int) (h0 : 0 ≤ x) (h : x < 18446744073709551616) : In64 (lowest x) := by
  have := tz_bd x h0 h
  unfold lowest In64; split <;> omega

theorem Vw.mem_road {v : Vw} {i : Int} {r : Rd} (h : v.road i = some r) : r ∈ v.roads := by
  simp only [Vw.road] at h
  split at h
  · cases h
  · exact List.mem_of_getElem? h

theorem Vw.mem_packet {v : Vw} {i : Int} {p : Pk} (h : v.packet i = some p) : p ∈ v.fresh ∨ p ∈ v.again := by
  simp only [Vw.packet] at h
  split at h
  · exact Or.inr (List.mem_of_getElem? h)
  · split at h
    · cases h
    · exact Or.inl (List.mem_of_getElem? h)

theorem in_ofRoad {v : Vw} (hv : v.inRange) (o i : Int) : In64 (ofRoad o (v.road i)) := by
  cases h : v.road i with
  | none => exact in_zero
  | some r =>
    obtain ⟨h1, h2, h3, h4⟩ := hv.roads r (Vw.mem_road h)
    simp only [ofRoad]
    repeat' split
    all_goals first | assumption | exact in_truth _

theorem in_ofPacket {v : Vw} (hv : v.inRange) (o i : Int) : In64 (ofPacket o (v.packet i)) := by
  cases h : v.packet i with
  | none => exact in_zero
  | some p =>
    have h1 : In64 p.seq ∧ In64 p.size := by
      rcases Vw.mem_packet h with h | h
      · exact ⟨(hv.fresh p h).1, (hv.fresh p h).2.1⟩
      · exact ⟨(hv.again p h).1, (hv.again p h).2.1⟩
    simp only [ofPacket]
    split
    · exact h1.1
    · exact h1.2

theorem unsigned_bd (a : Int) : 0 ≤ unsigned a ∧ unsigned a < 18446744073709551616 := by
  unfold unsigned; rw [IntKind.wrap_u64]; omega

theorem in_outcome {v : Vw} (hv : v.inRange) (o a b : Int) (h : In64 a) : In64 (outcome v o a b) := by
  unfold outcome
  repeat' split
  all_goals first | exact h | exact in_wrap _ | exact in_truth _ | exact in_bits _ _ _ | exact in_lowest _ (unsigned_bd a).1 (unsigned_bd a).2 | exact in_ofRoad hv _ _ | exact in_ofPacket hv _ _ | exact in_two _ _ _ h
end Go.Proofs.YthllhabjfchgiaaGreatDoor.Hx

/- Package op, and what of math/bits the machine calls: each function comes to its plain function. -/
namespace Go.Proofs.YthllhabjfchgiaaGreatDoor
open Go.RowKit

theorem ret_int {k : IntKind} {a b : Int} (h : a = b) : Ending.returned (.int k a) = .returned (.int k b) := by rw [h]
theorem ret_bool {a b : Bool} (h : a = b) : Ending.returned (.bool a) = .returned (.bool b) := by rw [h]

theorem truth_any (b : Bool) (w : World) :
    Calls Tryz.prog 152 #[.bool b] w fun e w' => e = .returned (.int .i64 (Hx.truth b)) ∧ w' = w := by
  cases b
  · go_enter Tryz.func152, Tryz.ntmps152
    go_wp2
    go_ret
    exact ⟨rfl, rfl⟩
  · go_enter Tryz.func152, Tryz.ntmps152
    go_wp2
    go_ret
    exact ⟨rfl, rfl⟩

set_option maxHeartbeats 400000 in
theorem quotient_any (a b : Int) (w : World) :
    Calls Tryz.prog 200 #[.int .i64 a, .int .i64 b] w fun e w' => e = .returned (.int .i64 (Hx.quot a b)) ∧ w' = w := by
  by_cases h : b = 0
  · subst h
    go_enter Tryz.func200, Tryz.ntmps200
    go_wp2
    go_ret
    exact ⟨ret_int (by simp [Hx.quot]), rfl⟩
  · have h' : (b == 0) = false := by simpa using h
    go_enter Tryz.func200, Tryz.ntmps200
    go_wp2
    go_ret
    exact ⟨ret_int (by simp [Hx.quot, h]), rfl⟩

set_option maxHeartbeats 400000 in
theorem rest_any (a b : Int) (w : World) :
    Calls Tryz.prog 201 #[.int .i64 a, .int .i64 b] w fun e w' => e = .returned (.int .i64 (Hx.rest a b)) ∧ w' = w := by
  by_cases h : b = 0
  · subst h
    go_enter Tryz.func201, Tryz.ntmps201
    go_wp2
    go_ret
    exact ⟨ret_int (by simp [Hx.rest]), rfl⟩
  · have h' : (b == 0) = false := by simpa using h
    go_enter Tryz.func201, Tryz.ntmps201
    go_wp2
    go_ret
    exact ⟨ret_int (by simp [Hx.rest, h]), rfl⟩

set_option maxHeartbeats 400000 in
theorem outcome2_any (o a b : Int) (w : World) :
    Calls Tryz.prog 158 #[.int .u8 o, .int .i64 a, .int .i64 b] w fun e w' => e = .returned (.int .i64 (Hx.two o a b)) ∧ w' = w := by
  go_enter Tryz.func158, Tryz.ntmps158
  go_wp2_with (first
    | (go_at_call 200; refine (quotient_any _ _ _).mono ?_; rintro e w' ⟨rfl, rfl⟩)
    | (go_at_call 201; refine (rest_any _ _ _).mono ?_; rintro e w' ⟨rfl, rfl⟩)
    | (go_at_call 152; refine (truth_any _ _).mono ?_; rintro e w' ⟨rfl, rfl⟩))
  all_goals (go_ret; exact ⟨ret_int (by simp_all [Hx.two]), rfl⟩)

set_option maxHeartbeats 400000 in
theorem ones64_any (x : Int) (w : World) :
    Calls Tryz.prog 199 #[.int .u64 x] w fun e w' => e = .returned (.int .i64 (Hx.ones x)) ∧ w' = w := by
  go_enter Tryz.func199, Tryz.ntmps199
  go_wp2
  go_ret
  exact ⟨rfl, rfl⟩

set_option maxHeartbeats 400000 in
theorem ones_any (x : Int) (w : World) :
    Calls Tryz.prog 153 #[.int .u64 x] w fun e w' => e = .returned (.int .i64 (Hx.ones x)) ∧ w' = w := by
  go_enter Tryz.func153, Tryz.ntmps153
  go_wp2_with (go_at_call 199; refine (ones64_any _ _).mono ?_; rintro e w' ⟨rfl, rfl⟩)
  go_ret
  exact ⟨rfl, rfl⟩

/-- the table of package math/bits, as it is laid -/
def Tab64 (w : World) : Prop := ∀ j, j < 64 → w.cell? ⟨1, j, none⟩ = some (.int .u8 (Lib.deBruijn64tab.getD j 0))

theorem tz64_key (x a : Nat) (hx : x < 18446744073709551616) (hx0 : x ≠ 0) (hlow : x &&& (18446744073709551616 - x) = a) :
    IntKind.u64.wrap (bits BinOp.and IntKind.u64 (x : Int) (IntKind.u64.wrap (-(x : Int))) * 285870213051353865) / 288230376151711744 = ((a * 285870213051353865 % 18446744073709551616 / 288230376151711744 : Nat) : Int) := by
  have e1 : IntKind.u64.wrap (-(x : Int)) = ((18446744073709551616 - x : Nat) : Int) := by rw [IntKind.wrap_u64]; omega
  rw [e1, bits_and_u64_nat x _ hx (by omega), hlow, IntKind.wrap_u64]
  omega

set_option maxHeartbeats 1000000 in
theorem tz64_core (x k idx : Nat) (w : World) (hx0 : ((x : Int) == 0) = false)
    (key : IntKind.u64.wrap (bits BinOp.and IntKind.u64 (x : Int) (IntKind.u64.wrap (-(x : Int))) * 285870213051353865) / 288230376151711744 = (idx : Int))
    (hi : idx < 64) (hk : k < 64) (hcell : w.cell? ⟨1, idx, none⟩ = some (.int .u8 k)) :
    Calls Tryz.prog 151 #[.int .u64 x] w fun e w' => e = .returned (.int .i64 k) ∧ w' = w := by
  go_enter Tryz.func151, Tryz.ntmps151
  go_wp2_with (simp only [key])
  go_ret
  exact ⟨rfl, rfl⟩

theorem tz64_any (x : Int) (h0 : 0 ≤ x) (hx : x < 18446744073709551616) (w : World) (hT : Tab64 w) :
    Calls Tryz.prog 151 #[.int .u64 x] w fun e w' => e = .returned (.int .i64 (Hx.tz x)) ∧ w' = w := by
  obtain ⟨n, rfl⟩ := Int.eq_ofNat_of_zero_le h0
  by_cases hz : n = 0
  · subst hz
    go_enter Tryz.func151, Tryz.ntmps151
    go_wp2
    go_ret
    exact ⟨rfl, rfl⟩
  · have hx' : n < 2 ^ 64 := by simp; omega
    obtain ⟨hlow, hk⟩ := Lib.lowest_bit 64 n hz hx'
    obtain ⟨hi, htab⟩ := Lib.deBruijn64_at _ hk
    have hcell := hT _ hi
    rw [htab] at hcell
    exact tz64_core n _ _ w (by simp; omega) (tz64_key n _ (by omega) hz hlow) hi hk hcell

set_option maxHeartbeats 400000 in
theorem tz_any (x : Int) (h0 : 0 ≤ x) (hx : x < 18446744073709551616) (w : World) (hT : Tab64 w) :
    Calls Tryz.prog 96 #[.int .u64 x] w fun e w' => e = .returned (.int .i64 (Hx.tz x)) ∧ w' = w := by
  go_enter Tryz.func96, Tryz.ntmps96
  go_wp2_with (go_at_call 151; refine (tz64_any _ ?_ ?_ _ hT).mono ?_; (first | assumption | omega); (first | assumption | omega); rintro e w' ⟨rfl, rfl⟩)
  go_ret
  exact ⟨rfl, rfl⟩
end Go.Proofs.YthllhabjfchgiaaGreatDoor

/- The machine's functions that only read. -/
namespace Go.Proofs.YthllhabjfchgiaaGreatDoor
open Go.RowKit
open Hx (Rd Pk Vw)

/-- a pointer to a road of the view, or nil -/
def RoadP (w : World) (p : Value) : Option Rd → Prop
  | none => p = .pointer none
  | some r => ∃ b o, p = .pointer (some ⟨b, o, none⟩) ∧ w.cell? ⟨b, o, none⟩ = some (.int .i64 r.id) ∧ w.cell? ⟨b, o + 1, none⟩ = some (.int .i64 r.rtt) ∧
      w.cell? ⟨b, o + 2, none⟩ = some (.int .i64 r.cwnd) ∧ w.cell? ⟨b, o + 3, none⟩ = some (.int .i64 r.out) ∧ w.cell? ⟨b, o + 4, none⟩ = some (.bool r.lossy)

def PackP (w : World) (p : Value) : Option Pk → Prop
  | none => p = .pointer none
  | some r => ∃ b o, p = .pointer (some ⟨b, o, none⟩) ∧ w.cell? ⟨b, o, none⟩ = some (.int .i64 r.seq) ∧ w.cell? ⟨b, o + 1, none⟩ = some (.int .i64 r.size) ∧
      w.cell? ⟨b, o + 2, none⟩ = some (.int .i64 r.on)

/-- roads that lie in an array below block B -/
def RoadsAt (B : Nat) (w : World) (a : Option Addr) (rs : List Rd) : Prop :=
  ∀ i r, rs[i]? = some r → ∃ b o, a = some ⟨b, o, none⟩ ∧ b < B ∧ RoadP w (.pointer (some ⟨b, o + i * 5, none⟩)) (some r)

def PacksAt (B : Nat) (w : World) (a : Option Addr) (rs : List Pk) : Prop :=
  ∀ i r, rs[i]? = some r → ∃ b o, a = some ⟨b, o, none⟩ ∧ b < B ∧ PackP w (.pointer (some ⟨b, o + i * 3, none⟩)) (some r)

/-- a view in the first three cells of block M, its arrays below block B -/
structure ViewIn (B : Nat) (w : World) (M : Nat) (v : Vw) : Prop where
  roads : ∃ a cap, w.cell? ⟨M, 0, none⟩ = some (.slice a v.roads.length cap) ∧ RoadsAt B w a v.roads
  fresh : ∃ a cap, w.cell? ⟨M, 1, none⟩ = some (.slice a v.fresh.length cap) ∧ PacksAt B w a v.fresh
  again : ∃ a cap, w.cell? ⟨M, 2, none⟩ = some (.slice a v.again.length cap) ∧ PacksAt B w a v.again
  maxRoads : v.roads.length ≤ 8
  maxFresh : v.fresh.length ≤ 16
  maxAgain : v.again.length ≤ 16
  ids : ∀ r ∈ v.roads, 0 ≤ r.id ∧ r.id < 8
  rng : v.inRange

set_option maxHeartbeats 400000 in
theorem road_some (M : Nat) (i : Int) (b off len cap : Nat) (w : World) (h0 : 0 ≤ i) (h1 : i < len)
    (hr : w.cell? ⟨M, 0, none⟩ = some (.slice (some ⟨b, off, none⟩) len cap)) :
    Calls Tryz.prog 97 #[.pointer (some ⟨M, 0, none⟩), .int .i64 i] w fun e w' => e = .returned (.pointer (some ⟨b, off + i.toNat * 5, none⟩)) ∧ w' = w := by
  have h2 : decide (i < 0) = false := by simpa using h0
  go_enter Tryz.func97, Tryz.ntmps97
  go_wp2
  go_ret
  exact ⟨rfl, rfl⟩

set_option maxHeartbeats 400000 in
theorem road_none (M : Nat) (i : Int) (a : Option Addr) (len cap : Nat) (w : World) (h : i < 0 ∨ (len : Int) ≤ i)
    (hr : w.cell? ⟨M, 0, none⟩ = some (.slice a len cap)) :
    Calls Tryz.prog 97 #[.pointer (some ⟨M, 0, none⟩), .int .i64 i] w fun e w' => e = .returned (.pointer none) ∧ w' = w := by
  rcases h with h | h
  · have h2 : decide (i < 0) = true := by simpa using h
    go_enter Tryz.func97, Tryz.ntmps97
    go_wp2
    go_ret
    exact ⟨rfl, rfl⟩
  · have h2 : decide (i < 0) = false := by simp; omega
    go_enter Tryz.func97, Tryz.ntmps97
    go_wp2
    go_ret
    exact ⟨rfl, rfl⟩

theorem road_any (B : Nat) (M : Nat) (i : Int) (v : Vw) (w : World) (hv : ViewIn B w M v) :
    Calls Tryz.prog 97 #[.pointer (some ⟨M, 0, none⟩), .int .i64 i] w fun e w' => (∃ p, e = .returned p ∧ RoadP w p (v.road i)) ∧ w' = w := by
  obtain ⟨a, cap, hc, hr⟩ := hv.roads
  by_cases hi : i < 0
  · refine (road_none M i a _ cap w (Or.inl hi) hc).mono ?_
    rintro e w' ⟨rfl, rfl⟩
    exact ⟨⟨_, rfl, by simp [Hx.Vw.road, hi, RoadP]⟩, rfl⟩
  · by_cases hl : i.toNat < v.roads.length
    · obtain ⟨b, o, rfl, hb, hp⟩ := hr i.toNat v.roads[i.toNat] (by simp [hl])
      refine (road_some M i b o _ cap w (by omega) (by omega) hc).mono ?_
      rintro e w' ⟨rfl, rfl⟩
      exact ⟨⟨_, rfl, by simpa [Hx.Vw.road, hi, hl] using hp⟩, rfl⟩
    · refine (road_none M i a _ cap w (Or.inr (by omega)) hc).mono ?_
      rintro e w' ⟨rfl, rfl⟩
      exact ⟨⟨_, rfl, by simp [Hx.Vw.road, hi, Nat.not_lt.1 hl, RoadP]⟩, rfl⟩

set_option maxHeartbeats 400000 in
theorem fresh_some (M : Nat) (i : Int) (b off len cap : Nat) (w : World) (h0 : 0 ≤ i) (h1 : i < len) (h16 : i < 16)
    (hr : w.cell? ⟨M, 1, none⟩ = some (.slice (some ⟨b, off, none⟩) len cap)) :
    Calls Tryz.prog 98 #[.pointer (some ⟨M, 0, none⟩), .int .i64 i] w fun e w' => e = .returned (.pointer (some ⟨b, off + i.toNat * 3, none⟩)) ∧ w' = w := by
  have h2 : decide (i < 0) = false := by simpa using h0
  have h3 : decide (16 ≤ i) = false := by simpa using h16
  go_enter Tryz.func98, Tryz.ntmps98
  go_wp2
  go_ret
  exact ⟨rfl, rfl⟩

set_option maxHeartbeats 400000 in
theorem fresh_none (M : Nat) (i : Int) (a : Option Addr) (len cap : Nat) (w : World) (h : i < 0 ∨ (len : Int) ≤ i) (h16 : i < 16)
    (hr : w.cell? ⟨M, 1, none⟩ = some (.slice a len cap)) :
    Calls Tryz.prog 98 #[.pointer (some ⟨M, 0, none⟩), .int .i64 i] w fun e w' => e = .returned (.pointer none) ∧ w' = w := by
  have h3 : decide (16 ≤ i) = false := by simpa using h16
  rcases h with h | h
  · have h2 : decide (i < 0) = true := by simpa using h
    go_enter Tryz.func98, Tryz.ntmps98
    go_wp2
    go_ret
    exact ⟨rfl, rfl⟩
  · have h2 : decide (i < 0) = false := by simp; omega
    go_enter Tryz.func98, Tryz.ntmps98
    go_wp2
    go_ret
    exact ⟨rfl, rfl⟩

set_option maxHeartbeats 400000 in
theorem again_some (M : Nat) (i : Int) (b off len cap : Nat) (af : Option Addr) (lf cf : Nat) (w : World) (h0 : 16 ≤ i) (h1 : i - 16 < len) (hm : i ≤ 9223372036854775807)
    (hf : w.cell? ⟨M, 1, none⟩ = some (.slice af lf cf)) (hr : w.cell? ⟨M, 2, none⟩ = some (.slice (some ⟨b, off, none⟩) len cap)) :
    Calls Tryz.prog 98 #[.pointer (some ⟨M, 0, none⟩), .int .i64 i] w fun e w' => e = .returned (.pointer (some ⟨b, off + (i - 16).toNat * 3, none⟩)) ∧ w' = w := by
  have h2 : decide (i - 16 < 0) = false := by simp; omega
  have h3 : decide (16 ≤ i) = true := by simpa using h0
  go_enter Tryz.func98, Tryz.ntmps98
  go_wp2
  go_ret
  exact ⟨rfl, rfl⟩

set_option maxHeartbeats 400000 in
theorem again_none (M : Nat) (i : Int) (a : Option Addr) (len cap : Nat) (af : Option Addr) (lf cf : Nat) (w : World) (h0 : 16 ≤ i) (h : (len : Int) ≤ i - 16) (hm : i ≤ 9223372036854775807)
    (hf : w.cell? ⟨M, 1, none⟩ = some (.slice af lf cf)) (hr : w.cell? ⟨M, 2, none⟩ = some (.slice a len cap)) :
    Calls Tryz.prog 98 #[.pointer (some ⟨M, 0, none⟩), .int .i64 i] w fun e w' => e = .returned (.pointer none) ∧ w' = w := by
  have h2 : decide (i - 16 < 0) = false := by simp; omega
  have h3 : decide (16 ≤ i) = true := by simpa using h0
  go_enter Tryz.func98, Tryz.ntmps98
  go_wp2
  go_ret
  exact ⟨rfl, rfl⟩

theorem packet_any (B : Nat) (M : Nat) (i : Int) (v : Vw) (w : World) (hv : ViewIn B w M v) (hm : i ≤ 9223372036854775807) :
    Calls Tryz.prog 98 #[.pointer (some ⟨M, 0, none⟩), .int .i64 i] w fun e w' => (∃ p, e = .returned p ∧ PackP w p (v.packet i)) ∧ w' = w := by
  obtain ⟨a, cap, hc, hr⟩ := hv.fresh
  obtain ⟨a2, cap2, hc2, hr2⟩ := hv.again
  by_cases h16 : 16 ≤ i
  · by_cases hl : (i - 16).toNat < v.again.length
    · obtain ⟨b, o, rfl, hb, hp⟩ := hr2 (i - 16).toNat v.again[(i - 16).toNat] (by simp [hl])
      refine (again_some M i b o _ cap2 a _ cap w h16 (by omega) hm hc hc2).mono ?_
      rintro e w' ⟨rfl, rfl⟩
      exact ⟨⟨_, rfl, by simpa [Hx.Vw.packet, h16, hl] using hp⟩, rfl⟩
    · refine (again_none M i a2 _ cap2 a _ cap w h16 (by omega) hm hc hc2).mono ?_
      rintro e w' ⟨rfl, rfl⟩
      exact ⟨⟨_, rfl, by simp only [Hx.Vw.packet, if_pos h16, List.getElem?_eq_none (Nat.not_lt.1 hl)]; rfl⟩, rfl⟩
  · by_cases hi : i < 0
    · refine (fresh_none M i a _ cap w (Or.inl hi) (by omega) hc).mono ?_
      rintro e w' ⟨rfl, rfl⟩
      exact ⟨⟨_, rfl, by simp [Hx.Vw.packet, h16, hi, PackP]⟩, rfl⟩
    · by_cases hl : i.toNat < v.fresh.length
      · obtain ⟨b, o, rfl, hb, hp⟩ := hr i.toNat v.fresh[i.toNat] (by simp [hl])
        refine (fresh_some M i b o _ cap w (by omega) (by omega) (by omega) hc).mono ?_
        rintro e w' ⟨rfl, rfl⟩
        exact ⟨⟨_, rfl, by simpa [Hx.Vw.packet, h16, hi, hl] using hp⟩, rfl⟩
      · refine (fresh_none M i a _ cap w (Or.inr (by omega)) (by omega) hc).mono ?_
        rintro e w' ⟨rfl, rfl⟩
        exact ⟨⟨_, rfl, by simp [Hx.Vw.packet, h16, hi, Nat.not_lt.1 hl, PackP]⟩, rfl⟩

set_option maxHeartbeats 400000 in
theorem all_any (B : Nat) (M : Nat) (l : Int) (v : Vw) (w : World) (hv : ViewIn B w M v) :
    Calls Tryz.prog 95 #[.pointer (some ⟨M, 0, none⟩), .int .i64 l] w fun e w' => e = .returned (.int .i64 (v.all l)) ∧ w' = w := by
  obtain ⟨a1, c1, h1, -⟩ := hv.roads
  obtain ⟨a2, c2, h2, -⟩ := hv.fresh
  obtain ⟨a3, c3, h3, -⟩ := hv.again
  have m1 := hv.maxRoads
  have m2 := hv.maxFresh
  have m3 := hv.maxAgain
  clear hv
  generalize hn1 : v.roads.length = n1 at *
  generalize hn2 : v.fresh.length = n2 at *
  generalize hn3 : v.again.length = n3 at *
  have hall : v.all l = if l = 0 then Hx.allOf n1 else if l = 1 then Hx.allOf n2 else wrap64 (Hx.allOf n3 * 65536) := by simp [Hx.Vw.all, hn1, hn2, hn3]
  rw [hall]
  clear hall hn1 hn2 hn3
  go_enter Tryz.func95, Tryz.ntmps95
  go_wp2
  all_goals (go_ret; exact ⟨ret_int (by simp_all [Hx.allOf]), rfl⟩)

set_option maxHeartbeats 400000 in
theorem hasBit_any (x i : Int) (w : World) (h0 : 0 ≤ i) (h1 : i < 8) :
    Calls Tryz.prog 94 #[.int .i64 x, .int .i64 i] w fun e w' => e = .returned (.bool (Hx.hasBit x i)) ∧ w' = w := by
  go_enter Tryz.func94, Tryz.ntmps94
  go_wp2
  go_ret
  exact ⟨rfl, rfl⟩

set_option maxHeartbeats 400000 in
theorem ofRoad_any (o : Int) (p : Value) (r : Option Rd) (w : World) (hp : RoadP w p r) :
    Calls Tryz.prog 155 #[.int .u8 o, p] w fun e w' => e = .returned (.int .i64 (Hx.ofRoad o r)) ∧ w' = w := by
  cases r with
  | none =>
    obtain rfl := hp
    go_enter Tryz.func155, Tryz.ntmps155
    go_wp2
    go_ret
    exact ⟨rfl, rfl⟩
  | some r =>
    obtain ⟨b, off, rfl, h1, h2, h3, h4, h5⟩ := hp
    go_enter Tryz.func155, Tryz.ntmps155
    go_wp2_with (go_at_call 152; refine (truth_any _ _).mono ?_; rintro e w' ⟨rfl, rfl⟩)
    all_goals (go_ret; exact ⟨ret_int (by simp_all [Hx.ofRoad]), rfl⟩)

set_option maxHeartbeats 400000 in
theorem ofPacket_any (o : Int) (p : Value) (r : Option Pk) (w : World) (hp : PackP w p r) :
    Calls Tryz.prog 156 #[.int .u8 o, p] w fun e w' => e = .returned (.int .i64 (Hx.ofPacket o r)) ∧ w' = w := by
  cases r with
  | none =>
    obtain rfl := hp
    go_enter Tryz.func156, Tryz.ntmps156
    go_wp2
    go_ret
    exact ⟨rfl, rfl⟩
  | some r =>
    obtain ⟨b, off, rfl, h1, h2, h3⟩ := hp
    go_enter Tryz.func156, Tryz.ntmps156
    go_wp2
    all_goals (go_ret; exact ⟨ret_int (by simp_all [Hx.ofPacket]), rfl⟩)

set_option maxHeartbeats 400000 in
theorem isOn_any (p q : Value) (pk : Option Pk) (rd : Option Rd) (w : World) (hp : PackP w p pk) (hq : RoadP w q rd) (hid : ∀ r, rd = some r → 0 ≤ r.id ∧ r.id < 8) :
    Calls Tryz.prog 157 #[p, q] w fun e w' => e = .returned (.bool (Hx.isOn pk rd)) ∧ ∃ n, w' = w.drewN n := by
  cases pk with
  | none =>
    obtain rfl := hp
    cases rd with
    | none =>
      obtain rfl := hq
      go_enter Tryz.func157, Tryz.ntmps157
      go_wp2_with fail
      go_quiet (fail)
      go_wp2
      go_ret
      exact ⟨rfl, _, rfl⟩
    | some r =>
      obtain ⟨b, off, rfl, h1, h2, h3, h4, h5⟩ := hq
      go_enter Tryz.func157, Tryz.ntmps157
      go_wp2_with fail
      go_quiet (fail)
      go_wp2
      go_ret
      exact ⟨rfl, _, rfl⟩
  | some k =>
    obtain ⟨b, off, rfl, h1, h2, h3⟩ := hp
    cases rd with
    | none =>
      obtain rfl := hq
      go_enter Tryz.func157, Tryz.ntmps157
      go_wp2_with fail
      go_quiet (fail)
      go_wp2
      go_ret
      exact ⟨rfl, _, rfl⟩
    | some r =>
      obtain ⟨i0, i8⟩ := hid r rfl
      obtain ⟨b2, off2, rfl, q1, q2, q3, q4, q5⟩ := hq
      clear hid
      go_enter Tryz.func157, Tryz.ntmps157
      go_wp2_with fail
      go_quiet ((go_at_call 94; exact Calls.quiet_of_same (hasBit_any _ _ _ i0 i8)))
      go_wp2
      go_ret
      exact ⟨rfl, _, rfl⟩
end Go.Proofs.YthllhabjfchgiaaGreatDoor

/- (*machine).outcome. -/
namespace Go.Proofs.YthllhabjfchgiaaGreatDoor
open Go.RowKit
open Hx (Rd Pk Vw)

set_option maxHeartbeats 400000 in
theorem lowest_any (x : Int) (h0 : 0 ≤ x) (hx : x < 18446744073709551616) (w : World) (hT : Tab64 w) :
    Calls Tryz.prog 154 #[.int .u64 x] w fun e w' => e = .returned (.int .i64 (Hx.lowest x)) ∧ w' = w := by
  by_cases hz : x = 0
  · subst hz
    go_enter Tryz.func154, Tryz.ntmps154
    go_wp2
    go_ret
    exact ⟨rfl, rfl⟩
  · have hz' : (x == 0) = false := by simpa using hz
    have HZ : Hid (¬ x = 0) := hz
    clear hz
    go_enter Tryz.func154, Tryz.ntmps154
    go_wp2_with (go_at_call 96; refine (tz_any _ h0 hx _ hT).mono ?_; rintro e w' ⟨rfl, rfl⟩)
    go_ret
    exact ⟨ret_int (by have := HZ.out; simp [Hx.lowest, this]), rfl⟩

theorem road_id {B : Nat} {w : World} {M : Nat} {v : Vw} (hv : ViewIn B w M v) {i : Int} {r : Rd} (h : v.road i = some r) : 0 ≤ r.id ∧ r.id < 8 := by
  refine hv.ids r ?_
  simp only [Hx.Vw.road] at h
  split at h
  · cases h
  · exact List.mem_of_getElem? h

set_option maxHeartbeats 1000000 in
theorem outcome_any (B M : Nat) (o a b : Int) (v : Vw) (w : World) (hv : ViewIn B w M v) (hT : Tab64 w) (ha : a ≤ 9223372036854775807) :
    Calls Tryz.prog 100 #[.pointer (some ⟨M, 0, none⟩), .int .u8 o, .int .i64 a, .int .i64 b] w fun e w' => e = .returned (.int .i64 (Hx.outcome v o a b)) ∧ ∃ n, w' = w.drewN n := by
  have HI : Hid (∀ i r, v.road i = some r → 0 ≤ r.id ∧ r.id < 8) := fun i r h => road_id hv h
  have hu := Hx.unsigned_bd a
  have HU : Hid (0 ≤ Hx.unsigned a ∧ Hx.unsigned a < 18446744073709551616) := hu
  clear hu
  go_enter Tryz.func100, Tryz.ntmps100
  go_wp2_with (first
    | (go_at_call 152; refine (truth_any _ _).mono ?_; rintro e w' ⟨rfl, rfl⟩)
    | (go_at_call 153; refine (ones_any _ _).mono ?_; rintro e w' ⟨rfl, rfl⟩)
    | (go_at_call 154; refine (lowest_any _ HU.out.1 HU.out.2 _ hT).mono ?_; rintro e w' ⟨rfl, rfl⟩)
    | (go_at_call 97; refine (road_any B M _ v _ hv).mono ?_; rintro e w' ⟨⟨p, rfl, hp⟩, rfl⟩)
    | (go_at_call 98; refine (packet_any B M _ v _ hv ha).mono ?_; rintro e w' ⟨⟨q, rfl, hq⟩, rfl⟩)
    | (go_at_call 155; refine (ofRoad_any _ _ _ _ hp).mono ?_; rintro e w' ⟨rfl, rfl⟩)
    | (go_at_call 156; refine (ofPacket_any _ _ _ _ hq).mono ?_; rintro e w' ⟨rfl, rfl⟩)
    | (go_at_call 157; refine (isOn_any _ _ _ _ _ hq hp (HI.out _)).mono ?_; rintro e w1 ⟨rfl, n, rfl⟩)
    | (go_at_call 158; refine (outcome2_any _ _ _ _).mono ?_; rintro e w' ⟨rfl, rfl⟩))
  all_goals (go_ret; refine ⟨ret_int ?_, ?_⟩)
  all_goals (first | exact ⟨0, rfl⟩ | exact ⟨_, rfl⟩ | (clear hv hT HI HU; simp_all [Hx.outcome, Hx.unsigned]))
end Go.Proofs.YthllhabjfchgiaaGreatDoor

/- The machine in memory: a view, slots, what is left of the loops, actions. -/
namespace Go.Proofs.YthllhabjfchgiaaGreatDoor
open Go.RowKit
open Hx (Rd Pk Vw St Mc In64)

theorem RoadP.keep {B : Nat} {w w' : World} {b o : Nat} {r : Rd} (hb : b < B) (hc : ∀ x : Addr, x.block < B → w'.cell? x = w.cell? x)
    (h : RoadP w (.pointer (some ⟨b, o, none⟩)) (some r)) : RoadP w' (.pointer (some ⟨b, o, none⟩)) (some r) := by
  obtain ⟨b', o', e, h1, h2, h3, h4, h5⟩ := h
  obtain ⟨rfl, rfl⟩ : b = b' ∧ o = o' := by simpa using e
  exact ⟨b, o, rfl, by rw [hc _ hb]; exact h1, by rw [hc _ hb]; exact h2, by rw [hc _ hb]; exact h3, by rw [hc _ hb]; exact h4, by rw [hc _ hb]; exact h5⟩

theorem PackP.keep {B : Nat} {w w' : World} {b o : Nat} {r : Pk} (hb : b < B) (hc : ∀ x : Addr, x.block < B → w'.cell? x = w.cell? x)
    (h : PackP w (.pointer (some ⟨b, o, none⟩)) (some r)) : PackP w' (.pointer (some ⟨b, o, none⟩)) (some r) := by
  obtain ⟨b', o', e, h1, h2, h3⟩ := h
  obtain ⟨rfl, rfl⟩ : b = b' ∧ o = o' := by simpa using e
  exact ⟨b, o, rfl, by rw [hc _ hb]; exact h1, by rw [hc _ hb]; exact h2, by rw [hc _ hb]; exact h3⟩

theorem ViewIn.keep {B : Nat} {w w' : World} {M : Nat} {v : Vw} (h : ViewIn B w M v) (hc : ∀ x : Addr, x.block < B → w'.cell? x = w.cell? x)
    (hM : ∀ k, k < 3 → w'.cell? ⟨M, k, none⟩ = w.cell? ⟨M, k, none⟩) : ViewIn B w' M v := by
  refine ⟨?_, ?_, ?_, h.maxRoads, h.maxFresh, h.maxAgain, h.ids, h.rng⟩
  · obtain ⟨a, cap, h1, h2⟩ := h.roads
    refine ⟨a, cap, by rw [hM 0 (by omega)]; exact h1, fun i r hr => ?_⟩
    obtain ⟨b, o, e, hb, hp⟩ := h2 i r hr
    exact ⟨b, o, e, hb, hp.keep hb hc⟩
  · obtain ⟨a, cap, h1, h2⟩ := h.fresh
    refine ⟨a, cap, by rw [hM 1 (by omega)]; exact h1, fun i r hr => ?_⟩
    obtain ⟨b, o, e, hb, hp⟩ := h2 i r hr
    exact ⟨b, o, e, hb, hp.keep hb hc⟩
  · obtain ⟨a, cap, h1, h2⟩ := h.again
    refine ⟨a, cap, by rw [hM 2 (by omega)]; exact h1, fun i r hr => ?_⟩
    obtain ⟨b, o, e, hb, hp⟩ := h2 i r hr
    exact ⟨b, o, e, hb, hp.keep hb hc⟩

def actCells (l : List (Int × Int)) : List Value := l.flatMap fun p => [.int .i64 p.1, .int .i64 p.2]


/-- the machine in block M, its slots in block SB, its actions in a block from C on; what was there before the run lies below B -/
structure MachIn (B C : Nat) (w : World) (M SB : Nat) (v : Vw) (m : Mc) : Prop where
  view : ViewIn B w M v
  bM : B ≤ M
  bS : B ≤ SB
  cM : M < C
  cS : SB < C
  ne : ¬ M = SB
  size : C ≤ w.heap.size
  slots : w.cell? ⟨M, 3, none⟩ = some (.slice (some ⟨SB, 0, none⟩) m.slots.length m.slots.length)
  slot : ∀ k, k < m.slots.length → w.cell? ⟨SB, k, none⟩ = some (.int .i64 (m.slots.getD k 0))
  slotF : ∀ k, k < m.slots.length → w.frozen? ⟨SB, k, none⟩ = false
  left : ∀ k, k < 8 → w.cell? ⟨M, 4 + k, none⟩ = some (.int .u64 (m.left.getD k 0))
  leftF : ∀ k, k < 8 → w.frozen? ⟨M, 4 + k, none⟩ = false
  leftLen : m.left.length = 8
  acts : ∃ va, w.cell? ⟨M, 12, none⟩ = some va ∧ w.ownsRow C 76 2 va m.acts.length (actCells m.acts)
  actsF : w.frozen? ⟨M, 12, none⟩ = false
  inSlots : ∀ k, In64 (m.slots.getD k 0)
  inLeft : ∀ k, 0 ≤ m.left.getD k 0 ∧ m.left.getD k 0 < 18446744073709551616
  tab : Tab64 w
  one : 1 < B

variable {B C : Nat} {w : World} {M SB : Nat} {v : Vw} {m : Mc}

theorem MachIn.grow (h : MachIn B C w M SB v m) {w' : World} (hg : w.grownBy w' none) : MachIn B C w' M SB v m := by
  have hs := h.size
  have b1 := h.bM
  have c1 := h.cM
  have c2 := h.cS
  have hb : ∀ k, k < w.heap.size → w'.heap[k]? = w.heap[k]? := fun k hk => hg.block k hk (by simp)
  have hc : ∀ x : Addr, x.block < w.heap.size → w'.cell? x = w.cell? x := fun x hx => World.cell?_of_block (hb _ hx)
  have hf : ∀ x : Addr, x.block < w.heap.size → w'.frozen? x = w.frozen? x := fun x hx => World.frozen?_of_block (hb _ hx)
  refine ⟨h.view.keep (fun x hx => hc x (by omega)) (fun k _ => hc _ (by show M < _; omega)), h.bM, h.bS, h.cM, h.cS, h.ne, Nat.le_trans h.size hg.size, ?_, ?_, ?_, ?_, ?_, h.leftLen, ?_, ?_, h.inSlots, h.inLeft, ?_, h.one⟩
  · rw [hc _ (by show M < _; omega)]; exact h.slots
  · intro k hk; rw [hc _ (by show SB < _; omega)]; exact h.slot k hk
  · intro k hk; rw [hf _ (by show SB < _; omega)]; exact h.slotF k hk
  · intro k hk; rw [hc _ (by show M < _; omega)]; exact h.left k hk
  · intro k hk; rw [hf _ (by show M < _; omega)]; exact h.leftF k hk
  · obtain ⟨va, h1, h2⟩ := h.acts
    exact ⟨va, by rw [hc _ (by show M < _; omega)]; exact h1, h2.kept hg (by cases va.ownBlock <;> simp)⟩
  · rw [hf _ (by show M < _; omega)]; exact h.actsF
  · intro j hj
    have := h.one
    rw [hc _ (by show 1 < _; omega)]; exact h.tab j hj

theorem MachIn.alloc (h : MachIn B C w M SB v m) (o : Obj) : MachIn B C (w.alloc o) M SB v m := h.grow (World.grownBy_alloc w o none)

theorem MachIn.drewN (h : MachIn B C w M SB v m) (n : Nat) : MachIn B C (w.drewN n) M SB v m :=
  h.grow ⟨rfl, rfl, rfl, Nat.le_refl _, fun _ _ _ => rfl⟩

theorem getD_set (l : List Int) (k j : Nat) (x : Int) (hk : k < l.length) : (l.set k x).getD j 0 = if j = k then x else l.getD j 0 := by
  simp only [List.getD_eq_getElem?_getD, List.getElem?_set]
  by_cases h : k = j
  · subst h; simp [hk]
  · simp [h, Ne.symm h]

theorem grownBy_setCell (w : World) (a : Addr) (u : Value) : w.grownBy (w.setCell a u) (some a.block) :=
  ⟨rfl, rfl, rfl, by simp, fun k _ hk => Below.heap_setCell _ _ _ _ (fun e => hk (by rw [e]))⟩

theorem MachIn.put (h : MachIn B C w M SB v m) {i : Nat} {x : Int} (hi : i < m.slots.length) (hx : In64 x) :
    MachIn B C (w.setCell ⟨SB, i, none⟩ (.int .i64 x)) M SB v (m.put i x) := by
  have hne := h.ne
  have b1 := h.bM
  have b2 := h.bS
  have c2 := h.cS
  have hs := h.size
  have ho : ∀ y : Addr, ¬ y.block = SB → (w.setCell ⟨SB, i, none⟩ (.int .i64 x)).cell? y = w.cell? y := fun y hy => World.cell?_setCell_other _ _ _ _ (fun e => hy (by rw [← e]))
  have hlen : (m.put i x).slots.length = m.slots.length := by simp [Hx.Mc.put]
  have hget : ∀ j, (m.put i x).slots.getD j 0 = if j = i then x else m.slots.getD j 0 := fun j => by
    have := getD_set m.slots i j x hi
    simpa [Hx.Mc.put] using this
  refine ⟨h.view.keep (fun y hy => ho y (by omega)) (fun k _ => ho _ hne), h.bM, h.bS, h.cM, h.cS, h.ne, by simpa using h.size, ?_, ?_, ?_, ?_, ?_, h.leftLen, ?_, ?_, ?_, h.inLeft, ?_, h.one⟩
  · rw [ho _ hne, hlen]; exact h.slots
  · intro k hk
    rw [hlen] at hk
    rw [hget]
    by_cases e : k = i
    · subst e; rw [if_pos rfl]; exact World.cell?_setCell_same _ _ _ (h.slot k hk)
    · rw [if_neg e, World.cell?_setCell_other _ _ _ _ (by intro h'; cases h'; exact e rfl)]; exact h.slot k hk
  · intro k hk
    rw [hlen] at hk
    simpa using h.slotF k hk
  · intro k hk; rw [ho _ hne]; exact h.left k hk
  · intro k hk; simpa using h.leftF k hk
  · obtain ⟨va, h1, h2⟩ := h.acts
    refine ⟨va, by rw [ho _ hne]; exact h1, h2.kept (grownBy_setCell w ⟨SB, i, none⟩ _) ?_⟩
    cases hb : va.ownBlock with
    | none => exact Or.inl rfl
    | some g =>
      right
      have := (h2.lt g hb).1
      simp; omega
  · simpa using h.actsF
  · intro k; rw [hget]; split
    · exact hx
    · exact h.inSlots k
  · intro j hj
    have := h.one
    rw [ho _ (by show ¬ 1 = SB; omega)]; exact h.tab j hj

theorem MachIn.putLeft (h : MachIn B C w M SB v m) {i : Nat} {x : Int} (hi : i < 8) (hx : 0 ≤ x ∧ x < 18446744073709551616) :
    MachIn B C (w.setCell ⟨M, 4 + i, none⟩ (.int .u64 x)) M SB v (m.putLeft i x) := by
  have hne := h.ne
  have b1 := h.bM
  have b2 := h.bS
  have c2 := h.cS
  have hs := h.size
  have hl := h.leftLen
  have ho : ∀ y : Addr, ¬ y.block = M → (w.setCell ⟨M, 4 + i, none⟩ (.int .u64 x)).cell? y = w.cell? y := fun y hy => World.cell?_setCell_other _ _ _ _ (fun e => hy (by rw [← e]))
  have hoM : ∀ k, ¬ k = 4 + i → (w.setCell ⟨M, 4 + i, none⟩ (.int .u64 x)).cell? ⟨M, k, none⟩ = w.cell? ⟨M, k, none⟩ := fun k hk => World.cell?_setCell_other _ _ _ _ (by intro h'; cases h'; exact hk rfl)
  have hget : ∀ j, (m.putLeft i x).left.getD j 0 = if j = i then x else m.left.getD j 0 := fun j => by
    have := getD_set m.left i j x (by omega)
    simpa [Hx.Mc.putLeft] using this
  refine ⟨h.view.keep (fun y hy => ho y (by omega)) (fun k hk => hoM k (by omega)), h.bM, h.bS, h.cM, h.cS, h.ne, by simpa using h.size, ?_, ?_, ?_, ?_, ?_, ?_, ?_, ?_, h.inSlots, ?_, ?_, h.one⟩
  · rw [hoM 3 (by omega)]; exact h.slots
  · intro k hk; rw [ho _ (fun e => hne e.symm)]; exact h.slot k hk
  · intro k hk; simpa using h.slotF k hk
  · intro k hk
    rw [hget]
    by_cases e : k = i
    · subst e; rw [if_pos rfl]; exact World.cell?_setCell_same _ _ _ (h.left k hk)
    · rw [if_neg e, hoM _ (by omega)]; exact h.left k hk
  · intro k hk; simpa using h.leftF k hk
  · simp [Hx.Mc.putLeft, hl]
  · obtain ⟨va, h1, h2⟩ := h.acts
    have c1 := h.cM
    refine ⟨va, by rw [hoM 12 (by omega)]; exact h1, h2.kept (grownBy_setCell w ⟨M, 4 + i, none⟩ _) ?_⟩
    cases hb : va.ownBlock with
    | none => exact Or.inl rfl
    | some g =>
      right
      have := (h2.lt g hb).1
      simp; omega
  · simpa using h.actsF
  · intro k; rw [hget]; split
    · exact hx
    · exact h.inLeft k
  · intro j hj
    have := h.one
    rw [ho _ (by show ¬ 1 = M; omega)]; exact h.tab j hj

/-- a step in memory, below B -/
def StepAt (w : World) (b o : Nat) (s : St) : Prop :=
  w.cell? ⟨b, o, none⟩ = some (.int .u8 s.op) ∧ w.cell? ⟨b, o + 1, none⟩ = some (.int .i64 s.a) ∧ w.cell? ⟨b, o + 2, none⟩ = some (.int .i64 s.b) ∧
  w.cell? ⟨b, o + 3, none⟩ = some (.int .i64 s.c) ∧ w.cell? ⟨b, o + 4, none⟩ = some (.int .i64 s.d) ∧ w.cell? ⟨b, o + 5, none⟩ = some (.int .i64 s.depth) ∧
  w.cell? ⟨b, o + 6, none⟩ = some (.int .i64 s.to)
end Go.Proofs.YthllhabjfchgiaaGreatDoor
