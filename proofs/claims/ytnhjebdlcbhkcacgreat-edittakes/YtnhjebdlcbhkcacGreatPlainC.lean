/- Contract of edit.isUsed: whether a clock of a site is used. -/
import Derived.Test.YtnhjebdlcbhkcacGreatStateCk
import Derived.Test.YtnhjebdlcbhkcacGreatRunCk
namespace Go.Proofs.YtnhjebdlcbhkcacGreat
open Go.RowKit

/-- that clock of that site, or a later one -/
def usedM (site clock : Int) (p : List (Int × Int)) (c : Int) : Bool := (lastS p).2 == site && decide (clock ≤ c)
def usedS (site clock : Int) (l : List At) (g : List (List (Int × Int) × Int)) : Bool := l.any (fun x => usedM site clock x.path x.clock) || g.any (fun x => usedM site clock x.1 x.2)

/-- the boxes of isUsed's literals -/
structure LateAt (w : World) (site clock : Int) (B0 B1 B2 : Nat) : Prop where
  c0 : w.cell? ⟨B0, 0, none⟩ = some (.func (.func 99) #[] #[.pointer (some ⟨B1, 0, none⟩), .pointer (some ⟨B2, 0, none⟩)])
  c1 : w.cell? ⟨B1, 0, none⟩ = some (.int .i64 site)
  c2 : w.cell? ⟨B2, 0, none⟩ = some (.int .i64 clock)
  z0 : B0 < w.heap.size
  z1 : B1 < w.heap.size
  z2 : B2 < w.heap.size
theorem LateAt.below {w w' : World} {site clock : Int} {B0 B1 B2 : Nat} (h : LateAt w site clock B0 B1 B2) (hb : Below w.heap.size w w') : LateAt w' site clock B0 B1 B2 :=
  ⟨(hb.cell (p := ⟨B0, 0, none⟩) h.z0).trans h.c0, (hb.cell (p := ⟨B1, 0, none⟩) h.z1).trans h.c1, (hb.cell (p := ⟨B2, 0, none⟩) h.z2).trans h.c2, Nat.lt_of_lt_of_le h.z0 hb.size, Nat.lt_of_lt_of_le h.z1 hb.size, Nat.lt_of_lt_of_le h.z2 hb.size⟩

set_option maxHeartbeats 1000000 in
theorem late_any (a : Option Addr) (cap : Nat) (l : List (Int × Int)) (c site clock : Int) (B0 B1 B2 : Nat) (w : World) (h0 : 0 < l.length) (hl : l.length ≤ maxLen) (h : StepsAt w a l) (hu : LateAt w site clock B0 B1 B2) :
    Calls Tryz.prog 99 #[.agg #[.slice a l.length cap, .int .i64 c], .pointer (some ⟨B1, 0, none⟩), .pointer (some ⟨B2, 0, none⟩)] w fun e w' => e = .returned (.bool (usedM site clock l c)) ∧ Below w.heap.size w w' := by
  unfold maxLen at hl
  rcases h with hs | ⟨b, off, rfl, hbl, hc⟩
  · simp [hs] at h0
  obtain ⟨-, q⟩ := hc (l.length - 1) (by omega)
  have hg : l[l.length - 1]'(by omega) = lastS l := by unfold lastS; rw [List.getD_eq_getElem?_getD, List.getElem?_eq_getElem (by omega)]; rfl
  rw [hg] at q
  clear hc hg
  have HU : Hid (usedM site clock l c = (decide ((lastS l).2 = site) && decide (c ≥ clock))) := by
    show usedM site clock l c = _
    unfold usedM; rfl
  generalize usedM site clock l c = ub at HU ⊢
  generalize (lastS l).2 = ls at *
  obtain ⟨n, hn⟩ : ∃ n, l.length = n + 1 := ⟨l.length - 1, by omega⟩
  rw [hn] at hl q ⊢
  rw [Nat.add_sub_cancel] at q
  clear hn h0
  have hbA := (Below.refl w.heap.size w).alloc (Nat.le_refl _) (Obj.cells #[.slice (some ⟨b, off, none⟩) (n + 1) cap, .int .i64 c] 46)
  have q' := (hbA.cell (p := ⟨b, off + n * 2 + 1, none⟩) hbl).trans q
  have k1 := (hbA.cell (p := ⟨B1, 0, none⟩) hu.z1).trans hu.c1
  have k2 := (hbA.cell (p := ⟨B2, 0, none⟩) hu.z2).trans hu.c2
  have y0 : (w.alloc (Obj.cells #[.slice (some ⟨b, off, none⟩) (n + 1) cap, .int .i64 c] 46)).cell? ⟨w.heap.size, 0, none⟩ = some (.slice (some ⟨b, off, none⟩) (n + 1) cap) := by simp
  have y1 : (w.alloc (Obj.cells #[.slice (some ⟨b, off, none⟩) (n + 1) cap, .int .i64 c] 46)).cell? ⟨w.heap.size, 1, none⟩ = some (.int .i64 c) := by simp
  have HB := hidE hbA
  clear q hu hbl
  by_cases e1 : ls = site
  all_goals
    have e2 : (ls == site) = decide (ls = site) := rfl
    have e3 : decide (ls = site) = decide (ls = site) := rfl
    first | rw [decide_eq_true e1] at e2 HU | rw [decide_eq_false e1] at e2 HU
    clear e3
    go_enter Tryz.func99, Tryz.ntmps99
    go_wp2_with fail
    generalize w.alloc (Obj.cells #[.slice (some ⟨b, off, none⟩) (n + 1) cap, .int .i64 c] 46) = W at *
    have r0 := cell_regrown y0
    have r1 := cell_regrown y1
    have r2 := cell_regrown q'
    have r3 := cell_regrown k1
    have r4 := cell_regrown k2
    have hw1 : IntKind.i64.wrap (((n + 1 : Nat) : Int) - 1) = (n : Int) := by rw [IntKind.wrap_i64] <;> omega
    have hj1 : (n : Int) < ((n + 1 : Nat) : Int) := by omega
    refine wp_region_quiet_below (by kernel_rfl) (by kernel_rfl) ?_
    repeat (first | go_big_quiet_step (fail) | quiet_step (fail))
    refine wpQuiet_nil ?_
    intro _ hw'
    obtain ⟨⟨dq, osq⟩, hw''⟩ := hw'
    subst hw''
    go_wp2
    go_ret
    refine ⟨ret_bool ?_, HB.out.thru (below_regrown _ _ _) HB.out.size⟩
    rw [HU.out]
    simp

set_option maxHeartbeats 400000 in
theorem lateA_any (a : Option Addr) (cap : Nat) (l : List (Int × Int)) (c s site clock : Int) (B0 B1 B2 : Nat) (w : World) (h0 : 0 < l.length) (hl : l.length ≤ maxLen) (h : StepsAt w a l) (hu : LateAt w site clock B0 B1 B2) :
    Calls Tryz.prog 101 #[.agg #[.slice a l.length cap, .int .i64 c, .int .u8 s], .pointer (some ⟨B0, 0, none⟩)] w fun e w' => e = .returned (.bool (usedM site clock l c)) ∧ Below w.heap.size w w' := by
  have hbA := (Below.refl w.heap.size w).alloc (Nat.le_refl _) (Obj.cells #[.slice a l.length cap, .int .i64 c, .int .u8 s] 66)
  have HC := hidE (late_any a cap l c site clock B0 B1 B2 _ h0 hl (h.below hbA (Nat.le_refl _)) (hu.below hbA))
  have k0 := (hbA.cell (p := ⟨B0, 0, none⟩) hu.z0).trans hu.c0
  have HB := hidE hbA
  clear h0 hl h hu hbA
  generalize l.length = n at *
  generalize usedM site clock l c = ub at *
  go_enter Tryz.func101, Tryz.ntmps101
  go_wp2_with fail
  refine HC.out.mono ?_
  rintro e w' ⟨rfl, hb⟩
  have hb2 := HB.out.thru hb HB.out.size
  go_wp2_with fail
  go_ret
  exact ⟨rfl, hb2⟩

set_option maxHeartbeats 1000000 in
theorem atomsIndex_any (a : Option Addr) (cap : Nat) (l : List At) (site clock : Int) (B0 B1 B2 : Nat) (w : World) (hl : l.length ≤ maxLen) (h : AtomsAt w a l) (hp : ∀ x ∈ l, 0 < x.path.length) (hu : LateAt w site clock B0 B1 B2) :
    Calls Tryz.prog 126 #[.slice a l.length cap, .func (.func 101) #[] #[.pointer (some ⟨B0, 0, none⟩)]] w fun e w' => (∃ r : Int, e = .returned (.int .i64 r) ∧ (0 ≤ r ↔ l.any (fun x => usedM site clock x.path x.clock) = true)) ∧ Below w.heap.size w w' := by
  unfold maxLen at hl
  have HP := hidE hp
  clear hp
  go_enter Tryz.func126, Tryz.ntmps126
  go_wp2
  go_loopw [8] (fun i wr => ∃ k : Nat, k ≤ l.length ∧ i = .int .i64 k ∧ (∀ j (hj : j < l.length), j < k → usedM site clock l[j].path l[j].clock = false) ∧ Below w.heap.size w wr) (fun i _ => l.length - (intOf i).toNat)
  case atStart => exact ⟨0, Nat.zero_le _, rfl, fun j _ hj => absurd hj (Nat.not_lt_zero _), Below.refl _ _⟩
  case round =>
    obtain ⟨k, hk, rfl, hall, hb⟩ := hrel
    have HALL := hidE hall
    clear hall
    by_cases hlt : k < l.length
    · have hs := h.below hb (Nat.le_refl _)
      have hu' := hu.below hb
      rcases hs with hs | ⟨b, off, rfl, hbl, hc⟩
      · simp [hs] at hlt
      obtain ⟨p, cp, c0, c1, c2, hst, hpl, _, _, _⟩ := hc k hlt
      have h0 := HP.out l[k] (List.getElem_mem hlt)
      clear hc h hu
      generalize hux : usedM site clock l[k].path l[k].clock = ub
      have HK := hidE hux
      have HC := hidE (lateA_any p cp l[k].path l[k].clock l[k].sign site clock B0 B1 B2 wr h0 hpl hst hu')
      rw [hux] at HC
      clear hux h0 hst hpl
      generalize l[k].path = pk at c0 HC
      generalize l[k].clock = ck at c1 HC
      cases ub
      · go_wp2_with fail
        refine HC.out.mono ?_
        rintro e w' ⟨rfl, hb2⟩
        have hb3 := hb.thru hb2 hb.size
        go_wp2_with fail
        go_roundw
        case rel =>
          refine ⟨k + 1, by omega, by go_num, fun j hj hjk => ?_, hb3⟩
          by_cases e : j = k
          · subst e; exact HK.out
          · exact HALL.out j hj (by omega)
        case measure => simp [intOf]; omega
      · go_wp2_with fail
        refine HC.out.mono ?_
        rintro e w' ⟨rfl, hb2⟩
        have hb3 := hb.thru hb2 hb.size
        go_wp2_with fail
        go_ret
        refine ⟨⟨_, rfl, ?_⟩, hb3⟩
        have : l.any (fun x => usedM site clock x.path x.clock) = true := List.any_eq_true.2 ⟨l[k], List.getElem_mem hlt, HK.out⟩
        simp [this]
    · go_wp2
      go_ret
      refine ⟨⟨_, rfl, ?_⟩, hb⟩
      have : l.any (fun x => usedM site clock x.path x.clock) = false := by
        rw [List.any_eq_false]
        intro x hx
        obtain ⟨i, hi, rfl⟩ := List.getElem_of_mem hx
        simp [HALL.out i hi (by omega)]
      simp [this]

set_option maxHeartbeats 400000 in
theorem atomsHas_any (a : Option Addr) (cap : Nat) (l : List At) (site clock : Int) (B0 B1 B2 : Nat) (w : World) (hl : l.length ≤ maxLen) (h : AtomsAt w a l) (hp : ∀ x ∈ l, 0 < x.path.length) (hu : LateAt w site clock B0 B1 B2) :
    Calls Tryz.prog 100 #[.slice a l.length cap, .func (.func 101) #[] #[.pointer (some ⟨B0, 0, none⟩)]] w fun e w' => e = .returned (.bool (l.any (fun x => usedM site clock x.path x.clock))) ∧ Below w.heap.size w w' := by
  have HI := hidE (atomsIndex_any a cap l site clock B0 B1 B2 w hl h hp hu)
  clear h hp hu hl
  generalize l.length = n at HI ⊢
  generalize l.any (fun x => usedM site clock x.path x.clock) = ub at HI ⊢
  go_enter Tryz.func100, Tryz.ntmps100
  go_wp2_with fail
  refine HI.out.mono ?_
  rintro e w' ⟨⟨r, rfl, hr⟩, hb⟩
  go_wp2_with fail
  go_ret
  refine ⟨ret_bool ?_, hb⟩
  first | rfl | (rw [Bool.eq_iff_iff, decide_eq_true_eq]; exact hr)

set_option maxHeartbeats 1000000 in
theorem marksIndex_any (a : Option Addr) (cap : Nat) (l : List (List (Int × Int) × Int)) (site clock : Int) (B0 B1 B2 : Nat) (w : World) (hl : l.length ≤ maxLen) (h : MarksAt w a l) (hp : ∀ x ∈ l, 0 < x.1.length) (hu : LateAt w site clock B0 B1 B2) :
    Calls Tryz.prog 127 #[.slice a l.length cap, .func (.func 99) #[] #[.pointer (some ⟨B1, 0, none⟩), .pointer (some ⟨B2, 0, none⟩)]] w fun e w' => (∃ r : Int, e = .returned (.int .i64 r) ∧ (0 ≤ r ↔ l.any (fun x => usedM site clock x.1 x.2) = true)) ∧ Below w.heap.size w w' := by
  unfold maxLen at hl
  have HP := hidE hp
  clear hp
  go_enter Tryz.func127, Tryz.ntmps127
  go_wp2
  go_loopw [8] (fun i wr => ∃ k : Nat, k ≤ l.length ∧ i = .int .i64 k ∧ (∀ j (hj : j < l.length), j < k → usedM site clock l[j].1 l[j].2 = false) ∧ Below w.heap.size w wr) (fun i _ => l.length - (intOf i).toNat)
  case atStart => exact ⟨0, Nat.zero_le _, rfl, fun j _ hj => absurd hj (Nat.not_lt_zero _), Below.refl _ _⟩
  case round =>
    obtain ⟨k, hk, rfl, hall, hb⟩ := hrel
    have HALL := hidE hall
    clear hall
    by_cases hlt : k < l.length
    · have hs := h.below hb (Nat.le_refl _)
      have hu' := hu.below hb
      rcases hs with hs | ⟨b, off, rfl, hbl, hc⟩
      · simp [hs] at hlt
      obtain ⟨p, cp, c0, c1, hst, hpl⟩ := hc k hlt
      have h0 := HP.out l[k] (List.getElem_mem hlt)
      clear hc h hu
      generalize hux : usedM site clock l[k].1 l[k].2 = ub
      have HK := hidE hux
      have HC := hidE (late_any p cp l[k].1 l[k].2 site clock B0 B1 B2 wr h0 hpl hst hu')
      rw [hux] at HC
      clear hux h0 hst hpl
      generalize l[k].1 = pk at c0 HC
      generalize l[k].2 = ck at c1 HC
      cases ub
      · go_wp2_with fail
        refine HC.out.mono ?_
        rintro e w' ⟨rfl, hb2⟩
        have hb3 := hb.thru hb2 hb.size
        go_wp2_with fail
        go_roundw
        case rel =>
          refine ⟨k + 1, by omega, by go_num, fun j hj hjk => ?_, hb3⟩
          by_cases e : j = k
          · subst e; exact HK.out
          · exact HALL.out j hj (by omega)
        case measure => simp [intOf]; omega
      · go_wp2_with fail
        refine HC.out.mono ?_
        rintro e w' ⟨rfl, hb2⟩
        have hb3 := hb.thru hb2 hb.size
        go_wp2_with fail
        go_ret
        refine ⟨⟨_, rfl, ?_⟩, hb3⟩
        have : l.any (fun x => usedM site clock x.1 x.2) = true := List.any_eq_true.2 ⟨l[k], List.getElem_mem hlt, HK.out⟩
        simp [this]
    · go_wp2
      go_ret
      refine ⟨⟨_, rfl, ?_⟩, hb⟩
      have : l.any (fun x => usedM site clock x.1 x.2) = false := by
        rw [List.any_eq_false]
        intro x hx
        obtain ⟨i, hi, rfl⟩ := List.getElem_of_mem hx
        simp [HALL.out i hi (by omega)]
      simp [this]

set_option maxHeartbeats 400000 in
theorem marksHas_any (a : Option Addr) (cap : Nat) (l : List (List (Int × Int) × Int)) (site clock : Int) (B0 B1 B2 : Nat) (w : World) (hl : l.length ≤ maxLen) (h : MarksAt w a l) (hp : ∀ x ∈ l, 0 < x.1.length) (hu : LateAt w site clock B0 B1 B2) :
    Calls Tryz.prog 102 #[.slice a l.length cap, .func (.func 99) #[] #[.pointer (some ⟨B1, 0, none⟩), .pointer (some ⟨B2, 0, none⟩)]] w fun e w' => e = .returned (.bool (l.any (fun x => usedM site clock x.1 x.2))) ∧ Below w.heap.size w w' := by
  have HI := hidE (marksIndex_any a cap l site clock B0 B1 B2 w hl h hp hu)
  clear h hp hu hl
  generalize l.length = n at HI ⊢
  generalize l.any (fun x => usedM site clock x.1 x.2) = ub at HI ⊢
  go_enter Tryz.func102, Tryz.ntmps102
  go_wp2_with fail
  refine HI.out.mono ?_
  rintro e w' ⟨⟨r, rfl, hr⟩, hb⟩
  go_wp2_with fail
  go_ret
  refine ⟨ret_bool ?_, hb⟩
  first | rfl | (rw [Bool.eq_iff_iff, decide_eq_true_eq]; exact hr)
end Go.Proofs.YtnhjebdlcbhkcacGreat

namespace Go.Proofs.YtnhjebdlcbhkcacGreat
open Go.RowKit

/-- an edit -/
structure Ed where
  kind : Int
  at' : Int
  many : Int
  text : ByteArray
def edV (e : Ed) : Value := .agg #[.int .i64 e.kind, .int .i64 e.at', .int .i64 e.many, .string e.text]

set_option maxHeartbeats 400000 in
theorem isPlace_any (n k : Int) (w : World) :
    Calls Tryz.prog 66 #[.int .i64 n, .int .i64 k] w fun e w' => e = .returned (.bool (inB n 0 k)) ∧ w' = w := by
  by_cases h1 : n ≥ 0 <;> by_cases h2 : n ≤ k
  all_goals
    go_enter Tryz.func66, Tryz.ntmps66
    go_wp2
    go_ret
    exact ⟨ret_bool (by simp [inB]; omega), rfl⟩

/-- so many of the signs stand from a place on -/
def pieceB (n m k : Int) : Bool := decide (0 ≤ n) && decide (0 ≤ m) && decide (n + m ≤ k)

set_option maxHeartbeats 400000 in
theorem isPiece_any (n m : Int) (k : Nat) (w : World) (hk : k ≤ 9223372036854775807) (hm : m ≤ 9223372036854775807) :
    Calls Tryz.prog 16 #[.int .i64 n, .int .i64 m, .int .i64 k] w fun e w' => e = .returned (.bool (pieceB n m k)) ∧ w' = w := by
  by_cases h1 : n ≥ 0
  · by_cases h2 : m ≥ 0
    · have hw : IntKind.i64.wrap ((k : Int) - m) = k - m := by rw [IntKind.wrap_i64] <;> omega
      by_cases h3 : n ≤ (k : Int) - m
      all_goals
        go_enter Tryz.func16, Tryz.ntmps16
        go_wp2
        go_ret
        exact ⟨ret_bool (by simp [pieceB]; omega), rfl⟩
    · go_enter Tryz.func16, Tryz.ntmps16
      go_wp2
      go_ret
      exact ⟨ret_bool (by simp [pieceB]; omega), rfl⟩
  · go_enter Tryz.func16, Tryz.ntmps16
    go_wp2
    go_ret
    exact ⟨ret_bool (by simp [pieceB]; omega), rfl⟩

def putE (s : ByteArray) (n many : Int) (t : ByteArray) : Int := if many ≠ 0 then 1 else if inB n 0 s.size = false then 3 else if allS t.data.toList = false then 3 else if 300 < s.size + t.size then 2 else 0
def putT (s : ByteArray) (n many : Int) (t : ByteArray) : ByteArray := if putE s n many t = 0 then s.extract 0 n.toNat ++ t ++ s.extract n.toNat s.size else ⟨#[]⟩
def takeE (s : ByteArray) (n many : Int) (t : ByteArray) : Int := if t.size ≠ 0 then 1 else if pieceB n many s.size = false then 3 else 0
def takeT (s : ByteArray) (n many : Int) (t : ByteArray) : ByteArray := if takeE s n many t = 0 then s.extract 0 n.toNat ++ s.extract (n.toNat + many.toNat) s.size else ⟨#[]⟩
/-- what Plain answers -/
def plE (s : ByteArray) (e : Ed) : Int := if 300 < s.size then 2 else if allS s.data.toList = false then 3 else if e.kind = 1 then putE s e.at' e.many e.text else if e.kind = 2 then takeE s e.at' e.many e.text else 7
def plT (s : ByteArray) (e : Ed) : ByteArray := if 300 < s.size then ⟨#[]⟩ else if allS s.data.toList = false then ⟨#[]⟩ else if e.kind = 1 then putT s e.at' e.many e.text else if e.kind = 2 then takeT s e.at' e.many e.text else ⟨#[]⟩

theorem putE_ok {s t : ByteArray} {n many : Int} (h0 : many = 0) (h1 : inB n 0 s.size = true) (h2 : allS t.data.toList = true) (h3 : ¬ 300 < s.size + t.size) : putE s n many t = 0 := by
  unfold putE; rw [if_neg (by simpa using h0), if_neg (by rw [h1]; decide), if_neg (by rw [h2]; decide), if_neg h3]
theorem putT_err {s t : ByteArray} {n many : Int} (h : putE s n many t ≠ 0) : putT s n many t = ⟨#[]⟩ := by unfold putT; rw [if_neg h]
theorem takeE_ok {s t : ByteArray} {n many : Int} (h0 : t.size = 0) (h1 : pieceB n many s.size = true) : takeE s n many t = 0 := by
  unfold takeE; rw [if_neg (by simpa using h0), if_neg (by rw [h1]; decide)]
theorem takeT_err {s t : ByteArray} {n many : Int} (h : takeE s n many t ≠ 0) : takeT s n many t = ⟨#[]⟩ := by unfold takeT; rw [if_neg h]

set_option maxRecDepth 100000 in
set_option maxHeartbeats 2000000 in
theorem plainPut_any (s t : ByteArray) (kind n many : Int) (w : World) (hs : s.size ≤ 300) (ht : t.size ≤ 4611686018427387904) :
    Calls Tryz.prog 56 #[.string s, .agg #[.int .i64 kind, .int .i64 n, .int .i64 many, .string t]] w fun e w' => e = .returned (.tuple #[.string (putT s n many t), .int .i64 (putE s n many t)]) ∧ Below w.heap.size w w' := by
  have hB := (Below.refl w.heap.size w).alloc (Nat.le_refl _) (Obj.cells #[.int .i64 kind, .int .i64 n, .int .i64 many, .string t] 58)
  have q0 : (w.alloc (Obj.cells #[.int .i64 kind, .int .i64 n, .int .i64 many, .string t] 58)).cell? ⟨w.heap.size, 0, none⟩ = some (.int .i64 kind) := by simp
  have q1 : (w.alloc (Obj.cells #[.int .i64 kind, .int .i64 n, .int .i64 many, .string t] 58)).cell? ⟨w.heap.size, 1, none⟩ = some (.int .i64 n) := by simp
  have q2 : (w.alloc (Obj.cells #[.int .i64 kind, .int .i64 n, .int .i64 many, .string t] 58)).cell? ⟨w.heap.size, 2, none⟩ = some (.int .i64 many) := by simp
  have q3 : (w.alloc (Obj.cells #[.int .i64 kind, .int .i64 n, .int .i64 many, .string t] 58)).cell? ⟨w.heap.size, 3, none⟩ = some (.string t) := by simp
  have z : w.heap.size < (w.alloc (Obj.cells #[.int .i64 kind, .int .i64 n, .int .i64 many, .string t] 58)).heap.size := by simp
  go_enter Tryz.func56, Tryz.ntmps56
  go_upto_region 1 with fail
  generalize w.alloc (Obj.cells #[.int .i64 kind, .int .i64 n, .int .i64 many, .string t] 58) = W at hB q0 q1 q2 q3 z ⊢
  by_cases hm : many = 0
  case neg =>
    have HE : Hid (putE s n many t = 1) := by show _ = _; unfold putE; rw [if_pos hm]
    have HT : Hid (putT s n many t = ⟨#[]⟩) := putT_err (by rw [HE.out]; decide)
    have hmb : (many != 0) = true := by rw [bne_iff_ne]; exact hm
    clear hm
    go_wp2_with fail
    go_ret2
    exact ⟨by rw [HE.out, HT.out]; rfl, hB⟩
  subst hm
  cases h1 : inB n 0 s.size
  · have HE : Hid (putE s n 0 t = 3) := by show _ = _; unfold putE; rw [if_neg (by decide), if_pos h1]
    have HT : Hid (putT s n 0 t = ⟨#[]⟩) := putT_err (by rw [HE.out]; decide)
    have H1 := hidE h1
    have H2 := hidE (rfl : True = True)
    clear h1
    go_wp2_with (first | (go_at_call 66; refine (isPlace_any _ _ _).mono ?_; rintro e w' ⟨rfl, hw⟩; replace hw := hw.symm; subst hw; rw [H1.out]) | (go_at_call 55; refine (signAll_any _ _ (by unfold maxLen; omega)).mono ?_; rintro e w' ⟨rfl, hw⟩; replace hw := hw.symm; subst hw; rw [H2.out]))
    go_ret2
    exact ⟨by rw [HE.out, HT.out]; rfl, hB⟩
  cases h2 : allS t.data.toList
  · have HE : Hid (putE s n 0 t = 3) := by show _ = _; unfold putE; rw [if_neg (by decide), if_neg (by rw [h1]; decide), if_pos h2]
    have HT : Hid (putT s n 0 t = ⟨#[]⟩) := putT_err (by rw [HE.out]; decide)
    have H1 := hidE h1
    have H2 := hidE h2
    clear h1 h2
    go_wp2_with (first | (go_at_call 66; refine (isPlace_any _ _ _).mono ?_; rintro e w' ⟨rfl, hw⟩; replace hw := hw.symm; subst hw; rw [H1.out]) | (go_at_call 55; refine (signAll_any _ _ (by unfold maxLen; omega)).mono ?_; rintro e w' ⟨rfl, hw⟩; replace hw := hw.symm; subst hw; rw [H2.out]))
    go_ret2
    exact ⟨by rw [HE.out, HT.out]; rfl, hB⟩
  have hw1 : IntKind.i64.wrap ((s.size : Int) + t.size) = s.size + t.size := by rw [IntKind.wrap_i64] <;> omega
  by_cases h3 : (s.size : Int) + t.size > 300
  · have HE : Hid (putE s n 0 t = 2) := by show _ = _; unfold putE; rw [if_neg (by decide), if_neg (by rw [h1]; decide), if_neg (by rw [h2]; decide), if_pos (by omega)]
    have HT : Hid (putT s n 0 t = ⟨#[]⟩) := putT_err (by rw [HE.out]; decide)
    have H1 := hidE h1
    have H2 := hidE h2
    clear h1 h2
    go_wp2_with (first | (go_at_call 66; refine (isPlace_any _ _ _).mono ?_; rintro e w' ⟨rfl, hw⟩; replace hw := hw.symm; subst hw; rw [H1.out]) | (go_at_call 55; refine (signAll_any _ _ (by unfold maxLen; omega)).mono ?_; rintro e w' ⟨rfl, hw⟩; replace hw := hw.symm; subst hw; rw [H2.out]))
    go_ret2
    exact ⟨by rw [HE.out, HT.out]; rfl, hB⟩
  have HE : Hid (putE s n 0 t = 0) := putE_ok rfl h1 h2 (by omega)
  have HT : Hid (putT s n 0 t = s.extract 0 n.toNat ++ t ++ s.extract n.toNat s.size) := by show _ = _; unfold putT; rw [if_pos HE.out]
  have H1 := hidE h1
  have H2 := hidE h2
  have hn : 0 ≤ n ∧ n ≤ s.size := by simpa [inB] using h1
  clear h1 h2
  obtain ⟨k, rfl⟩ : ∃ k : Nat, n = k := ⟨n.toNat, by omega⟩
  have hk : k ≤ s.size := by omega
  have k1 := cell_regrown q1
  have k3 := cell_regrown q3
  go_upto_region 7 with (first | (go_at_call 66; refine (isPlace_any _ _ _).mono ?_; rintro e w' ⟨rfl, hw⟩; replace hw := hw.symm; subst hw; rw [H1.out]) | (go_at_call 55; refine (signAll_any _ _ (by unfold maxLen; omega)).mono ?_; rintro e w' ⟨rfl, hw⟩; replace hw := hw.symm; subst hw; rw [H2.out]))
  refine wp_region_quiet_below (by kernel_rfl) (by kernel_rfl) ?_
  repeat (first | go_big_quiet_step (fail) | quiet_step (fail))
  refine wpQuiet_nil ?_
  intro _ hw'
  obtain ⟨⟨dq, osq⟩, hw''⟩ := hw'
  subst hw''
  replace hB := hB.thru (below_regrown W dq osq) (Nat.le_of_lt z)
  go_wp2_with fail
  go_ret2
  exact ⟨by rw [HE.out, HT.out, Int.toNat_natCast]; rfl, hB⟩

set_option maxRecDepth 100000 in
set_option maxHeartbeats 2000000 in
theorem plainTake_any (s t : ByteArray) (kind n many : Int) (w : World) (hs : s.size ≤ 300) (hmn : many ≤ 9223372036854775807) :
    Calls Tryz.prog 57 #[.string s, .agg #[.int .i64 kind, .int .i64 n, .int .i64 many, .string t]] w fun e w' => e = .returned (.tuple #[.string (takeT s n many t), .int .i64 (takeE s n many t)]) ∧ Below w.heap.size w w' := by
  have hB := (Below.refl w.heap.size w).alloc (Nat.le_refl _) (Obj.cells #[.int .i64 kind, .int .i64 n, .int .i64 many, .string t] 58)
  have q0 : (w.alloc (Obj.cells #[.int .i64 kind, .int .i64 n, .int .i64 many, .string t] 58)).cell? ⟨w.heap.size, 0, none⟩ = some (.int .i64 kind) := by simp
  have q1 : (w.alloc (Obj.cells #[.int .i64 kind, .int .i64 n, .int .i64 many, .string t] 58)).cell? ⟨w.heap.size, 1, none⟩ = some (.int .i64 n) := by simp
  have q2 : (w.alloc (Obj.cells #[.int .i64 kind, .int .i64 n, .int .i64 many, .string t] 58)).cell? ⟨w.heap.size, 2, none⟩ = some (.int .i64 many) := by simp
  have q3 : (w.alloc (Obj.cells #[.int .i64 kind, .int .i64 n, .int .i64 many, .string t] 58)).cell? ⟨w.heap.size, 3, none⟩ = some (.string t) := by simp
  have z : w.heap.size < (w.alloc (Obj.cells #[.int .i64 kind, .int .i64 n, .int .i64 many, .string t] 58)).heap.size := by simp
  go_enter Tryz.func57, Tryz.ntmps57
  go_upto_region 1 with fail
  generalize w.alloc (Obj.cells #[.int .i64 kind, .int .i64 n, .int .i64 many, .string t] 58) = W at hB q0 q1 q2 q3 z ⊢
  by_cases ht : t.size = 0
  case neg =>
    have HE : Hid (takeE s n many t = 1) := by show _ = _; unfold takeE; rw [if_pos ht]
    have HT : Hid (takeT s n many t = ⟨#[]⟩) := takeT_err (by rw [HE.out]; decide)
    have htb : t.toList.isEmpty = false := by rw [isEmpty_size]; simpa using ht
    clear ht
    go_wp2_with fail
    go_ret2
    exact ⟨by rw [HE.out, HT.out]; rfl, hB⟩
  have HTS := hidE ht
  have htb : t.toList.isEmpty = true := by rw [isEmpty_size, ht]; rfl
  clear ht
  cases h1 : pieceB n many s.size
  · have HE : Hid (takeE s n many t = 3) := by show _ = _; unfold takeE; rw [if_neg (by simpa using HTS.out), if_pos h1]
    have HT : Hid (takeT s n many t = ⟨#[]⟩) := takeT_err (by rw [HE.out]; decide)
    have H1 := hidE h1
    clear h1
    go_wp2_with (go_at_call 16; refine (isPiece_any _ _ _ _ (by omega) hmn).mono ?_; rintro e w' ⟨rfl, hw⟩; replace hw := hw.symm; subst hw; rw [H1.out])
    go_ret2
    exact ⟨by rw [HE.out, HT.out]; rfl, hB⟩
  have HE : Hid (takeE s n many t = 0) := takeE_ok HTS.out h1
  have HT : Hid (takeT s n many t = s.extract 0 n.toNat ++ s.extract (n.toNat + many.toNat) s.size) := by show _ = _; unfold takeT; rw [if_pos HE.out]
  have H1 := hidE h1
  have hn : 0 ≤ n ∧ 0 ≤ many ∧ n + many ≤ s.size := by simp [pieceB] at h1; omega
  clear h1
  obtain ⟨k, rfl⟩ : ∃ k : Nat, n = k := ⟨n.toNat, by omega⟩
  obtain ⟨j, rfl⟩ : ∃ j : Nat, many = j := ⟨many.toNat, by omega⟩
  have hk : k ≤ s.size := by omega
  have hkj : k + j ≤ s.size := by omega
  have hw1 : IntKind.i64.wrap ((k : Int) + j) = ((k + j : Nat) : Int) := by rw [IntKind.wrap_i64] <;> omega
  have k1 := cell_regrown q1
  have k2 := cell_regrown q2
  go_upto_region 5 with (go_at_call 16; refine (isPiece_any _ _ _ _ (by omega) hmn).mono ?_; rintro e w' ⟨rfl, hw⟩; replace hw := hw.symm; subst hw; rw [H1.out])
  refine wp_region_quiet_below (by kernel_rfl) (by kernel_rfl) ?_
  repeat (first | go_big_quiet_step (fail) | quiet_step (fail))
  refine wpQuiet_nil ?_
  intro _ hw'
  obtain ⟨⟨dq, osq⟩, hw''⟩ := hw'
  subst hw''
  replace hB := hB.thru (below_regrown W dq osq) (Nat.le_of_lt z)
  go_wp2_with fail
  go_ret2
  exact ⟨by rw [HE.out, HT.out, Int.toNat_natCast, Int.toNat_natCast]; rfl, hB⟩
end Go.Proofs.YtnhjebdlcbhkcacGreat
