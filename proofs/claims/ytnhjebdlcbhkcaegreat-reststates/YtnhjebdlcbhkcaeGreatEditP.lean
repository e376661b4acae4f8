/- Contracts of edit.Plain. -/
import Derived.Test.YtnhjebdlcbhkcaeGreatRunCk
import Derived.Laws.EntriesVeiled
import Derived.Test.YtnhjebdlcbhkcaeGreatUsedC
import Derived.Test.YtnhjebdlcbhkcaeGreatDPut
import Derived.Test.YtnhjebdlcbhkcaeGreatRunsC
namespace Go.Proofs.YtnhjebdlcbhkcaeGreat
open Go.RowKit

structure Ed where
  kind : Int
  at' : Int
  many : Int
  text : ByteArray
set_option maxHeartbeats 400000 in
theorem isPlace_any (n k : Int) (w : World) :
    Calls Tryz.prog 169 #[.int .i64 n, .int .i64 k] w fun e w' => e = .returned (.bool (inB n 0 k)) ∧ w' = w := by
  by_cases h1 : n ≥ 0 <;> by_cases h2 : n ≤ k
  all_goals
    go_enter Tryz.func169, Tryz.ntmps169
    go_wp2
    go_ret
    exact ⟨ret_bool (by simp [inB]; omega), rfl⟩

def pieceB (n m k : Int) : Bool := decide (0 ≤ n) && decide (0 ≤ m) && decide (n + m ≤ k)

set_option maxHeartbeats 400000 in
theorem isPiece_any (n m : Int) (k : Nat) (w : World) (hk : k ≤ 9223372036854775807) (hm : m ≤ 9223372036854775807) :
    Calls Tryz.prog 86 #[.int .i64 n, .int .i64 m, .int .i64 k] w fun e w' => e = .returned (.bool (pieceB n m k)) ∧ w' = w := by
  by_cases h1 : n ≥ 0
  · by_cases h2 : m ≥ 0
    · have hw : IntKind.i64.wrap ((k : Int) - m) = k - m := by rw [IntKind.wrap_i64] <;> omega
      by_cases h3 : n ≤ (k : Int) - m
      all_goals
        go_enter Tryz.func86, Tryz.ntmps86
        go_wp2
        go_ret
        exact ⟨ret_bool (by simp [pieceB]; omega), rfl⟩
    · go_enter Tryz.func86, Tryz.ntmps86
      go_wp2
      go_ret
      exact ⟨ret_bool (by simp [pieceB]; omega), rfl⟩
  · go_enter Tryz.func86, Tryz.ntmps86
    go_wp2
    go_ret
    exact ⟨ret_bool (by simp [pieceB]; omega), rfl⟩

def putE (s : ByteArray) (n many : Int) (t : ByteArray) : Int := if many ≠ 0 then 1 else if inB n 0 s.size = false then 3 else if allS t.data.toList = false then 3 else if 300 < s.size + t.size then 2 else 0
def putT (s : ByteArray) (n many : Int) (t : ByteArray) : ByteArray := if putE s n many t = 0 then s.extract 0 n.toNat ++ t ++ s.extract n.toNat s.size else ⟨#[]⟩
def takeE (s : ByteArray) (n many : Int) (t : ByteArray) : Int := if t.size ≠ 0 then 1 else if pieceB n many s.size = false then 3 else 0
def takeT (s : ByteArray) (n many : Int) (t : ByteArray) : ByteArray := if takeE s n many t = 0 then s.extract 0 n.toNat ++ s.extract (n.toNat + many.toNat) s.size else ⟨#[]⟩
def plE (s : ByteArray) (e : Ed) : Int := if 300 < s.size then 2 else if allS s.data.toList = false then 3 else if e.kind = 1 then putE s e.at' e.many e.text else if e.kind = 2 then takeE s e.at' e.many e.text else 7
def plT (s : ByteArray) (e : Ed) : ByteArray := if 300 < s.size then ⟨#[]⟩ else if allS s.data.toList = false then ⟨#[]⟩ else if e.kind = 1 then putT s e.at' e.many e.text else if e.kind = 2 then takeT s e.at' e.many e.text else ⟨#[]⟩

theorem putE_ok {s t : ByteArray} {n many : Int} (h0 : many = 0) (h1 : inB n 0 s.size = true) (h2 : allS t.data.toList = true) (h3 : ¬ 300 < s.size + t.size) : putE s n many t = 0 := by
  unfold putE; rw [if_neg (by simpa using h0), if_neg (by rw [h1]; decide), if_neg (by rw [h2]; decide), if_neg h3]
theorem putT_err {s t : ByteArray} {n many : Int} (h : putE s n many t ≠ 0) : putT s n many t = ⟨#[]⟩ := by unfold putT; rw [if_neg h]
theorem takeE_ok {s t : ByteArray} {n many : Int} (h0 : t.size = 0) (h1 : pieceB n many s.size = true) : takeE s n many t = 0 := by
  unfold takeE; rw [if_neg (by simpa using h0), if_neg (by rw [h1]; decide)]
theorem takeT_err {s t : ByteArray} {n many : Int} (h : takeE s n many t ≠ 0) : takeT s n many t = ⟨#[]⟩ := by unfold takeT; rw [if_neg h]

set_option maxRecDepth 100000 in
set_option maxHeartbeats 2000000 in
theorem plainPut_any (s t : ByteArray) (kind n many : Int) (w : World) (hs : s.size ≤ 300) (ht : t.size ≤ 4611686018427387904) :
    Calls Tryz.prog 137 #[.string s, .agg #[.int .i64 kind, .int .i64 n, .int .i64 many, .string t]] w fun e w' => e = .returned (.tuple #[.string (putT s n many t), .int .i64 (putE s n many t)]) ∧ Below w.heap.size w w' := by
  have hB := (Below.refl w.heap.size w).alloc (Nat.le_refl _) (Obj.cells #[.int .i64 kind, .int .i64 n, .int .i64 many, .string t] 66)
  have q0 : (w.alloc (Obj.cells #[.int .i64 kind, .int .i64 n, .int .i64 many, .string t] 66)).cell? ⟨w.heap.size, 0, none⟩ = some (.int .i64 kind) := by simp
  have q1 : (w.alloc (Obj.cells #[.int .i64 kind, .int .i64 n, .int .i64 many, .string t] 66)).cell? ⟨w.heap.size, 1, none⟩ = some (.int .i64 n) := by simp
  have q2 : (w.alloc (Obj.cells #[.int .i64 kind, .int .i64 n, .int .i64 many, .string t] 66)).cell? ⟨w.heap.size, 2, none⟩ = some (.int .i64 many) := by simp
  have q3 : (w.alloc (Obj.cells #[.int .i64 kind, .int .i64 n, .int .i64 many, .string t] 66)).cell? ⟨w.heap.size, 3, none⟩ = some (.string t) := by simp
  have z : w.heap.size < (w.alloc (Obj.cells #[.int .i64 kind, .int .i64 n, .int .i64 many, .string t] 66)).heap.size := by simp
  go_enter Tryz.func137, Tryz.ntmps137
  go_upto_region 1 with fail
  generalize w.alloc (Obj.cells #[.int .i64 kind, .int .i64 n, .int .i64 many, .string t] 66) = W at hB q0 q1 q2 q3 z ⊢
  by_cases hm : many = 0
  case neg =>
    have HE : Hid (putE s n many t = 1) := by show _ = _; unfold putE; rw [if_pos hm]
    have HT : Hid (putT s n many t = ⟨#[]⟩) := putT_err (by rw [HE.out]; decide)
    have hmb : (many != 0) = true := by rw [bne_iff_ne]; exact hm
    clear hm
    go_wp2_with fail
    go_ret2
    exact ⟨by rw [HE.out, HT.out]; rfl, hB⟩
  subst hm
  cases h1 : inB n 0 s.size
  · have HE : Hid (putE s n 0 t = 3) := by show _ = _; unfold putE; rw [if_neg (by decide), if_pos h1]
    have HT : Hid (putT s n 0 t = ⟨#[]⟩) := putT_err (by rw [HE.out]; decide)
    have H1 := hidE h1
    have H2 := hidE (rfl : True = True)
    clear h1
    go_wp2_with (first | (go_at_call 169; refine (isPlace_any _ _ _).mono ?_; rintro e w' ⟨rfl, hw⟩; replace hw := hw.symm; subst hw; rw [H1.out]) | (go_at_call 88; refine (signAll_any _ _ (by unfold maxLen; omega)).mono ?_; rintro e w' ⟨rfl, hw⟩; replace hw := hw.symm; subst hw; rw [H2.out]))
    go_ret2
    exact ⟨by rw [HE.out, HT.out]; rfl, hB⟩
  cases h2 : allS t.data.toList
  · have HE : Hid (putE s n 0 t = 3) := by show _ = _; unfold putE; rw [if_neg (by decide), if_neg (by rw [h1]; decide), if_pos h2]
    have HT : Hid (putT s n 0 t = ⟨#[]⟩) := putT_err (by rw [HE.out]; decide)
    have H1 := hidE h1
    have H2 := hidE h2
    clear h1 h2
    go_wp2_with (first | (go_at_call 169; refine (isPlace_any _ _ _).mono ?_; rintro e w' ⟨rfl, hw⟩; replace hw := hw.symm; subst hw; rw [H1.out]) | (go_at_call 88; refine (signAll_any _ _ (by unfold maxLen; omega)).mono ?_; rintro e w' ⟨rfl, hw⟩; replace hw := hw.symm; subst hw; rw [H2.out]))
    go_ret2
    exact ⟨by rw [HE.out, HT.out]; rfl, hB⟩
  have hw1 : IntKind.i64.wrap ((s.size : Int) + t.size) = s.size + t.size := by rw [IntKind.wrap_i64] <;> omega
  by_cases h3 : (s.size : Int) + t.size > 300
  · have HE : Hid (putE s n 0 t = 2) := by show _ = _; unfold putE; rw [if_neg (by decide), if_neg (by rw [h1]; decide), if_neg (by rw [h2]; decide), if_pos (by omega)]
    have HT : Hid (putT s n 0 t = ⟨#[]⟩) := putT_err (by rw [HE.out]; decide)
    have H1 := hidE h1
    have H2 := hidE h2
    clear h1 h2
    go_wp2_with (first | (go_at_call 169; refine (isPlace_any _ _ _).mono ?_; rintro e w' ⟨rfl, hw⟩; replace hw := hw.symm; subst hw; rw [H1.out]) | (go_at_call 88; refine (signAll_any _ _ (by unfold maxLen; omega)).mono ?_; rintro e w' ⟨rfl, hw⟩; replace hw := hw.symm; subst hw; rw [H2.out]))
    go_ret2
    exact ⟨by rw [HE.out, HT.out]; rfl, hB⟩
  have HE : Hid (putE s n 0 t = 0) := putE_ok rfl h1 h2 (by omega)
  have HT : Hid (putT s n 0 t = s.extract 0 n.toNat ++ t ++ s.extract n.toNat s.size) := by show _ = _; unfold putT; rw [if_pos HE.out]
  have H1 := hidE h1
  have H2 := hidE h2
  have hn : 0 ≤ n ∧ n ≤ s.size := by simpa [inB] using h1
  clear h1 h2
  obtain ⟨k, rfl⟩ : ∃ k : Nat, n = k := ⟨n.toNat, by omega⟩
  have hk : k ≤ s.size := by omega
  have k1 := cell_regrown q1
  have k3 := cell_regrown q3
  go_upto_region 7 with (first | (go_at_call 169; refine (isPlace_any _ _ _).mono ?_; rintro e w' ⟨rfl, hw⟩; replace hw := hw.symm; subst hw; rw [H1.out]) | (go_at_call 88; refine (signAll_any _ _ (by unfold maxLen; omega)).mono ?_; rintro e w' ⟨rfl, hw⟩; replace hw := hw.symm; subst hw; rw [H2.out]))
  refine wp_region_quiet_below (by kernel_rfl) (by kernel_rfl) ?_
  repeat (first | go_big_quiet_step (fail) | quiet_step (fail))
  refine wpQuiet_nil ?_
  intro _ hw'
  obtain ⟨⟨dq, osq⟩, hw''⟩ := hw'
  subst hw''
  replace hB := hB.thru (below_regrown W dq osq) (Nat.le_of_lt z)
  go_wp2_with fail
  go_ret2
  exact ⟨by rw [HE.out, HT.out, Int.toNat_natCast]; rfl, hB⟩

set_option maxRecDepth 100000 in
set_option maxHeartbeats 2000000 in
theorem plainTake_any (s t : ByteArray) (kind n many : Int) (w : World) (hs : s.size ≤ 300) (hmn : many ≤ 9223372036854775807) :
    Calls Tryz.prog 138 #[.string s, .agg #[.int .i64 kind, .int .i64 n, .int .i64 many, .string t]] w fun e w' => e = .returned (.tuple #[.string (takeT s n many t), .int .i64 (takeE s n many t)]) ∧ Below w.heap.size w w' := by
  have hB := (Below.refl w.heap.size w).alloc (Nat.le_refl _) (Obj.cells #[.int .i64 kind, .int .i64 n, .int .i64 many, .string t] 66)
  have q0 : (w.alloc (Obj.cells #[.int .i64 kind, .int .i64 n, .int .i64 many, .string t] 66)).cell? ⟨w.heap.size, 0, none⟩ = some (.int .i64 kind) := by simp
  have q1 : (w.alloc (Obj.cells #[.int .i64 kind, .int .i64 n, .int .i64 many, .string t] 66)).cell? ⟨w.heap.size, 1, none⟩ = some (.int .i64 n) := by simp
  have q2 : (w.alloc (Obj.cells #[.int .i64 kind, .int .i64 n, .int .i64 many, .string t] 66)).cell? ⟨w.heap.size, 2, none⟩ = some (.int .i64 many) := by simp
  have q3 : (w.alloc (Obj.cells #[.int .i64 kind, .int .i64 n, .int .i64 many, .string t] 66)).cell? ⟨w.heap.size, 3, none⟩ = some (.string t) := by simp
  have z : w.heap.size < (w.alloc (Obj.cells #[.int .i64 kind, .int .i64 n, .int .i64 many, .string t] 66)).heap.size := by simp
  go_enter Tryz.func138, Tryz.ntmps138
  go_upto_region 1 with fail
  generalize w.alloc (Obj.cells #[.int .i64 kind, .int .i64 n, .int .i64 many, .string t] 66) = W at hB q0 q1 q2 q3 z ⊢
  by_cases ht : t.size = 0
  case neg =>
    have HE : Hid (takeE s n many t = 1) := by show _ = _; unfold takeE; rw [if_pos ht]
    have HT : Hid (takeT s n many t = ⟨#[]⟩) := takeT_err (by rw [HE.out]; decide)
    have htb : t.toList.isEmpty = false := by rw [isEmpty_size]; simpa using ht
    clear ht
    go_wp2_with fail
    go_ret2
    exact ⟨by rw [HE.out, HT.out]; rfl, hB⟩
  have HTS := hidE ht
  have htb : t.toList.isEmpty = true := by rw [isEmpty_size, ht]; rfl
  clear ht
  cases h1 : pieceB n many s.size
  · have HE : Hid (takeE s n many t = 3) := by show _ = _; unfold takeE; rw [if_neg (by simpa using HTS.out), if_pos h1]
    have HT : Hid (takeT s n many t = ⟨#[]⟩) := takeT_err (by rw [HE.out]; decide)
    have H1 := hidE h1
    clear h1
    go_wp2_with (go_at_call 86; refine (isPiece_any _ _ _ _ (by omega) hmn).mono ?_; rintro e w' ⟨rfl, hw⟩; replace hw := hw.symm; subst hw; rw [H1.out])
    go_ret2
    exact ⟨by rw [HE.out, HT.out]; rfl, hB⟩
  have HE : Hid (takeE s n many t = 0) := takeE_ok HTS.out h1
  have HT : Hid (takeT s n many t = s.extract 0 n.toNat ++ s.extract (n.toNat + many.toNat) s.size) := by show _ = _; unfold takeT; rw [if_pos HE.out]
  have H1 := hidE h1
  have hn : 0 ≤ n ∧ 0 ≤ many ∧ n + many ≤ s.size := by simp [pieceB] at h1; omega
  clear h1
  obtain ⟨k, rfl⟩ : ∃ k : Nat, n = k := ⟨n.toNat, by omega⟩
  obtain ⟨j, rfl⟩ : ∃ j : Nat, many = j := ⟨many.toNat, by omega⟩
  have hk : k ≤ s.size := by omega
  have hkj : k + j ≤ s.size := by omega
  have hw1 : IntKind.i64.wrap ((k : Int) + j) = ((k + j : Nat) : Int) := by rw [IntKind.wrap_i64] <;> omega
  have k1 := cell_regrown q1
  have k2 := cell_regrown q2
  go_upto_region 5 with (go_at_call 86; refine (isPiece_any _ _ _ _ (by omega) hmn).mono ?_; rintro e w' ⟨rfl, hw⟩; replace hw := hw.symm; subst hw; rw [H1.out])
  refine wp_region_quiet_below (by kernel_rfl) (by kernel_rfl) ?_
  repeat (first | go_big_quiet_step (fail) | quiet_step (fail))
  refine wpQuiet_nil ?_
  intro _ hw'
  obtain ⟨⟨dq, osq⟩, hw''⟩ := hw'
  subst hw''
  replace hB := hB.thru (below_regrown W dq osq) (Nat.le_of_lt z)
  go_wp2_with fail
  go_ret2
  exact ⟨by rw [HE.out, HT.out, Int.toNat_natCast, Int.toNat_natCast]; rfl, hB⟩
end Go.Proofs.YtnhjebdlcbhkcaeGreat

namespace Go.Proofs.YtnhjebdlcbhkcaeGreat
open Go.RowKit

theorem boxesU (w : World) (v0 v1 m0 m1 : Value) (T T' : TypeId) : ∃ W, W = ((w.alloc (Obj.cells #[v0, v1] T)).alloc (Obj.cells #[m0] T')).alloc (Obj.cells #[m1] T') ∧
    W.cell? ⟨w.heap.size, 0, none⟩ = some v0 ∧ W.cell? ⟨w.heap.size, 1, none⟩ = some v1 ∧ W.cell? ⟨w.heap.size + 1, 0, none⟩ = some m0 ∧ W.cell? ⟨w.heap.size + 1 + 1, 0, none⟩ = some m1 ∧ W.heap.size = w.heap.size + 3 ∧ Below w.heap.size w W :=
  ⟨_, rfl, by go_simp, by go_simp, by go_simp, by go_simp, by simp, (((Below.refl _ _).alloc (Nat.le_refl _) _).alloc (by simp) _).alloc (by simp; omega) _⟩

set_option maxRecDepth 100000 in
set_option maxHeartbeats 2000000 in
theorem isUsed_any (a b : Option Addr) (cap cap' : Nat) (l : List At) (g : List (List (Int × Int) × Int)) (site clock : Int) (w : World) (hl : l.length ≤ maxLen) (hg : g.length ≤ maxLen) (h : AtomsAt w a l) (h' : MarksAt w b g) (hp : ∀ x ∈ l, 0 < x.path.length) (hp' : ∀ x ∈ g, 0 < x.1.length) :
    Calls Tryz.prog 170 #[.agg #[.slice a l.length cap, .slice b g.length cap'], .int .i64 site, .int .i64 clock] w fun e w' => e = .returned (.bool (usedS site clock l g)) ∧ Below w.heap.size w w' := by
  obtain ⟨V, hV, v0, v1, v2, v3, hVs, hBV⟩ := boxesU w (.slice a l.length cap) (.slice b g.length cap') (.int .i64 site) (.int .i64 clock) 25 3
  have HV := hidE hV
  have HVs := hidE hVs
  clear hV hVs
  go_enter Tryz.func170, Tryz.ntmps170
  go_upto_region 1 with fail
  rw [← HV.out]
  have hBW := (Below.refl V.heap.size V).alloc (Nat.le_refl _) (Obj.cells #[.func (.func 213) #[] #[.pointer (some ⟨w.heap.size + 1, 0, none⟩), .pointer (some ⟨w.heap.size + 1 + 1, 0, none⟩)]] 196)
  have k0 : (V.alloc (Obj.cells #[.func (.func 213) #[] #[.pointer (some ⟨w.heap.size + 1, 0, none⟩), .pointer (some ⟨w.heap.size + 1 + 1, 0, none⟩)]] 196)).cell? ⟨V.heap.size, 0, none⟩ = some (.func (.func 213) #[] #[.pointer (some ⟨w.heap.size + 1, 0, none⟩), .pointer (some ⟨w.heap.size + 1 + 1, 0, none⟩)]) := by simp
  have z0 : V.heap.size < (V.alloc (Obj.cells #[.func (.func 213) #[] #[.pointer (some ⟨w.heap.size + 1, 0, none⟩), .pointer (some ⟨w.heap.size + 1 + 1, 0, none⟩)]] 196)).heap.size := by simp
  go_upto_region 2 with fail
  generalize V.alloc (Obj.cells #[.func (.func 213) #[] #[.pointer (some ⟨w.heap.size + 1, 0, none⟩), .pointer (some ⟨w.heap.size + 1 + 1, 0, none⟩)]] 196) = W at hBW k0 z0 ⊢
  have hVs := HVs.out
  have q0 := (hBW.cell (p := ⟨w.heap.size, 0, none⟩) (by show w.heap.size < V.heap.size; omega)).trans v0
  have q1 := (hBW.cell (p := ⟨w.heap.size, 1, none⟩) (by show w.heap.size < V.heap.size; omega)).trans v1
  have q2 := (hBW.cell (p := ⟨w.heap.size + 1, 0, none⟩) (by show w.heap.size + 1 < V.heap.size; omega)).trans v2
  have q3 := (hBW.cell (p := ⟨w.heap.size + 1 + 1, 0, none⟩) (by show w.heap.size + 1 + 1 < V.heap.size; omega)).trans v3
  have hB : Below w.heap.size w W := hBV.thru hBW hBV.size
  have zW : w.heap.size < W.heap.size := by omega
  replace h := (h.below hBV (Nat.le_refl _)).below hBW (Nat.le_refl _)
  replace h' := (h'.below hBV (Nat.le_refl _)).below hBW (Nat.le_refl _)
  clear hBV hBW v0 v1 v2 v3 HV HVs
  generalize V.heap.size = VS at *
  generalize hzz : w.heap.size = Z at *
  have HZ := hidE hzz
  clear hzz

  have HL : LateAt W site clock VS (Z + 1) (Z + 1 + 1) := ⟨k0, q2, q3, z0, by omega, by omega⟩
  have HA := hidE (atomsHas_any a cap l site clock _ _ _ W hl h hp HL)
  have HM := hidE (fun (W' : World) (hb : Below W.heap.size W W') => marksHas_any b cap' g site clock VS _ _ W' hg (h'.below hb (Nat.le_refl _)) hp' (HL.below hb))
  have HU : Hid (usedS site clock l g = (l.any (fun x => usedM site clock x.path x.clock) || g.any (fun x => usedM site clock x.1 x.2))) := by
    show _ = _; rfl
  clear hl hg h h' hp hp' HL q2 q3 hVs
  generalize l.any (fun x => usedM site clock x.path x.clock) = ua at *
  generalize g.any (fun x => usedM site clock x.1 x.2) = ug at *
  generalize l.length = nl at *
  generalize g.length = ng at *
  cases ua
  · go_wp2_with (first | (go_at_call 214; refine HA.out.mono ?_; rintro e w2 ⟨rfl, hb⟩; have q1' := (hb.cell (p := ⟨Z, 1, none⟩) zW).trans q1; have k0' := (hb.cell (p := ⟨VS, 0, none⟩) z0).trans k0) | (go_at_call 216; refine (HM.out _ hb).mono ?_; rintro e w3 ⟨rfl, hb3⟩))
    go_ret
    refine ⟨ret_bool ?_, ?_⟩
    · rw [HU.out]; rfl
    · rw [HZ.out]; exact hB.trans ((hb.thru hb3 hb.size).mono (Nat.le_of_lt zW))
  · go_wp2_with (first | (go_at_call 214; refine HA.out.mono ?_; rintro e w2 ⟨rfl, hb⟩))
    go_ret
    refine ⟨ret_bool ?_, ?_⟩
    · rw [HU.out]; rfl
    · rw [HZ.out]; exact hB.trans (hb.mono (Nat.le_of_lt zW))

def aheadM (l : List At) (n : Nat) : List (Int × Int) × Int := if n = 0 then ([], 0) else match l[n - 1]? with
  | some x => (x.path, x.clock)
  | none => ([], 0)
def behindM (l : List At) (n : Nat) : List (Int × Int) × Int := match l[n]? with
  | some x => (x.path, x.clock)
  | none => ([], 0)

set_option maxRecDepth 100000 in
set_option maxHeartbeats 2000000 in
theorem around_any (a : Option Addr) (cap : Nat) (l : List At) (n : Nat) (w : World) (hn : n ≤ l.length) (hl : l.length ≤ 300) (h : AtomsAt w a l) :
    Calls Tryz.prog 81 #[.slice a l.length cap, .int .i64 n] w fun e w' => ∃ p c q d, e = .returned (.tuple #[.agg #[.slice p (aheadM l n).1.length c, .int .i64 (aheadM l n).2], .agg #[.slice q (behindM l n).1.length d, .int .i64 (behindM l n).2]]) ∧ StepsAt w' p (aheadM l n).1 ∧ StepsAt w' q (behindM l n).1 ∧ (aheadM l n).1.length ≤ c ∧ (behindM l n).1.length ≤ d ∧ (aheadM l n).1.length ≤ maxLen ∧ (behindM l n).1.length ≤ maxLen ∧ Below w.heap.size w w' := by
  have HBB : Hid (∀ (o1 o2 : Obj), Below w.heap.size w (((w.alloc o1).alloc o2).drew)) := fun o1 o2 => (((Below.refl _ _).alloc (Nat.le_refl _) _).alloc (by simp) _).drew
  by_cases h0 : n = 0
  · subst h0
    have HA : Hid (aheadM l 0 = ([], 0)) := by show _ = _; rfl
    by_cases hnl : 0 < l.length
    · have HBe : Hid (behindM l 0 = (l[0].path, l[0].clock)) := by show _ = _; unfold behindM; rw [List.getElem?_eq_getElem hnl]
      have hpos := hnl
      obtain ⟨bb, oo, rfl, hbb, hc⟩ : ∃ b off, a = some ⟨b, off, none⟩ ∧ b < w.heap.size ∧ ∀ i (h : i < l.length), ∃ p cap, w.cell? ⟨b, off + i * 3, none⟩ = some (.slice p l[i].path.length cap) ∧ w.cell? ⟨b, off + i * 3 + 1, none⟩ = some (.int .i64 l[i].clock) ∧ w.cell? ⟨b, off + i * 3 + 2, none⟩ = some (.int .u8 l[i].sign) ∧ StepsAt w p l[i].path ∧ l[i].path.length ≤ maxLen ∧ l[i].path.length ≤ cap ∧ 0 ≤ l[i].sign ∧ l[i].sign ≤ 255 := by
        rcases h with hs | h
        · exfalso; rw [hs] at hpos; simp at hpos
        · exact h
      obtain ⟨pb, cb, b0, b1, -, sb, lb, kb, -, -⟩ := hc (0) hnl
      have HSB : Hid (∀ W', Below w.heap.size w W' → StepsAt W' pb l[0].path) := fun W' hb => sb.below hb (Nat.le_refl _)
      have HLB : Hid (l[0].path.length ≤ maxLen ∧ l[0].path.length ≤ cb) := ⟨lb, kb⟩
      have hi0 : (0 : Int) < (l.length : Int) := by omega
      simp only [Nat.zero_mul, Nat.add_zero] at b0 b1
      clear hc sb lb kb h
      generalize l[0] = xb at *
      go_enter Tryz.func81, Tryz.ntmps81
      go_wp2_with fail
      first | go_region_with (fail) | trace_state
      all_goals
        go_wp2
        refine bodyPost_ret (v := .tuple #[.agg #[.slice none 0 0, .int .i64 0], .agg #[.slice pb xb.path.length cb, .int .i64 xb.clock]]) (by simp [results, Tryz.results81, go_sem]) rfl ?_
        refine ⟨none, 0, pb, cb, by (rw [HA.out, HBe.out]) <;> rfl, ?_, ?_, ?_, ?_, ?_, ?_, (HBB.out _ _)⟩
        · rw [HA.out]; exact Or.inl rfl
        · rw [HBe.out]; exact HSB.out _ (HBB.out _ _)
        · rw [HA.out]; exact Nat.zero_le _
        · rw [HBe.out]; exact HLB.out.2
        · rw [HA.out]; exact Nat.zero_le _
        · rw [HBe.out]; exact HLB.out.1
    · have HBe : Hid (behindM l 0 = ([], 0)) := by show _ = _; unfold behindM; rw [List.getElem?_eq_none (by omega)]
      have hl0 : l.length = 0 := by omega
      rw [hl0]
      go_enter Tryz.func81, Tryz.ntmps81
      go_wp2_with fail
      first | go_region_with (fail) | trace_state
      all_goals
        go_wp2
        refine bodyPost_ret (v := .tuple #[.agg #[.slice none 0 0, .int .i64 0], .agg #[.slice none 0 0, .int .i64 0]]) (by simp [results, Tryz.results81, go_sem]) rfl ?_
        refine ⟨none, 0, none, 0, by (rw [HA.out, HBe.out]) <;> rfl, ?_, ?_, ?_, ?_, ?_, ?_, (HBB.out _ _)⟩
        · rw [HA.out]; exact Or.inl rfl
        · rw [HBe.out]; exact Or.inl rfl
        · rw [HA.out]; exact Nat.zero_le _
        · rw [HBe.out]; exact Nat.zero_le _
        · rw [HA.out]; exact Nat.zero_le _
        · rw [HBe.out]; exact Nat.zero_le _
  · obtain ⟨k, rfl⟩ : ∃ k, n = k + 1 := ⟨n - 1, by omega⟩
    have hk : k < l.length := by omega
    have HA : Hid (aheadM l (k + 1) = (l[k].path, l[k].clock)) := by show _ = _; unfold aheadM; rw [if_neg (by omega), Nat.add_sub_cancel, List.getElem?_eq_getElem hk]
    have hw1 : IntKind.i64.wrap (((k + 1 : Nat) : Int) - 1) = (k : Int) := by rw [IntKind.wrap_i64] <;> omega
    have hpos : 0 < l.length := by omega
    have hi0 : (0 : Int) < ((k + 1 : Nat) : Int) := by omega
    have hi1 : (k : Int) < (l.length : Int) := by omega
    by_cases hnl : k + 1 < l.length
    · have HBe : Hid (behindM l (k + 1) = (l[k + 1].path, l[k + 1].clock)) := by show _ = _; unfold behindM; rw [List.getElem?_eq_getElem hnl]
      obtain ⟨bb, oo, rfl, hbb, hc⟩ : ∃ b off, a = some ⟨b, off, none⟩ ∧ b < w.heap.size ∧ ∀ i (h : i < l.length), ∃ p cap, w.cell? ⟨b, off + i * 3, none⟩ = some (.slice p l[i].path.length cap) ∧ w.cell? ⟨b, off + i * 3 + 1, none⟩ = some (.int .i64 l[i].clock) ∧ w.cell? ⟨b, off + i * 3 + 2, none⟩ = some (.int .u8 l[i].sign) ∧ StepsAt w p l[i].path ∧ l[i].path.length ≤ maxLen ∧ l[i].path.length ≤ cap ∧ 0 ≤ l[i].sign ∧ l[i].sign ≤ 255 := by
        rcases h with hs | h
        · exfalso; rw [hs] at hpos; simp at hpos
        · exact h
      obtain ⟨pa, ca, a0, a1, -, sa, la, ka, -, -⟩ := hc (k) hk
      have HSA : Hid (∀ W', Below w.heap.size w W' → StepsAt W' pa l[k].path) := fun W' hb => sa.below hb (Nat.le_refl _)
      have HLA : Hid (l[k].path.length ≤ maxLen ∧ l[k].path.length ≤ ca) := ⟨la, ka⟩
      obtain ⟨pb, cb, b0, b1, -, sb, lb, kb, -, -⟩ := hc (k + 1) hnl
      have HSB : Hid (∀ W', Below w.heap.size w W' → StepsAt W' pb l[k + 1].path) := fun W' hb => sb.below hb (Nat.le_refl _)
      have HLB : Hid (l[k + 1].path.length ≤ maxLen ∧ l[k + 1].path.length ≤ cb) := ⟨lb, kb⟩
      have hi2 : ((k + 1 : Nat) : Int) < (l.length : Int) := by omega
      clear hc sa la ka sb lb kb h
      generalize l[k] = xa at *
      generalize l[k + 1] = xb at *
      go_enter Tryz.func81, Tryz.ntmps81
      go_wp2_with fail
      first | go_region_with (fail) | trace_state
      all_goals
        go_wp2
        refine bodyPost_ret (v := .tuple #[.agg #[.slice pa xa.path.length ca, .int .i64 xa.clock], .agg #[.slice pb xb.path.length cb, .int .i64 xb.clock]]) (by simp [results, Tryz.results81, go_sem]) rfl ?_
        refine ⟨pa, ca, pb, cb, by (rw [HA.out, HBe.out]) <;> rfl, ?_, ?_, ?_, ?_, ?_, ?_, (HBB.out _ _)⟩
        · rw [HA.out]; exact HSA.out _ (HBB.out _ _)
        · rw [HBe.out]; exact HSB.out _ (HBB.out _ _)
        · rw [HA.out]; exact HLA.out.2
        · rw [HBe.out]; exact HLB.out.2
        · rw [HA.out]; exact HLA.out.1
        · rw [HBe.out]; exact HLB.out.1
    · have HBe : Hid (behindM l (k + 1) = ([], 0)) := by show _ = _; unfold behindM; rw [List.getElem?_eq_none (by omega)]
      have hl0 : l.length = k + 1 := by omega
      obtain ⟨bb, oo, rfl, hbb, hc⟩ : ∃ b off, a = some ⟨b, off, none⟩ ∧ b < w.heap.size ∧ ∀ i (h : i < l.length), ∃ p cap, w.cell? ⟨b, off + i * 3, none⟩ = some (.slice p l[i].path.length cap) ∧ w.cell? ⟨b, off + i * 3 + 1, none⟩ = some (.int .i64 l[i].clock) ∧ w.cell? ⟨b, off + i * 3 + 2, none⟩ = some (.int .u8 l[i].sign) ∧ StepsAt w p l[i].path ∧ l[i].path.length ≤ maxLen ∧ l[i].path.length ≤ cap ∧ 0 ≤ l[i].sign ∧ l[i].sign ≤ 255 := by
        rcases h with hs | h
        · exfalso; rw [hs] at hpos; simp at hpos
        · exact h
      obtain ⟨pa, ca, a0, a1, -, sa, la, ka, -, -⟩ := hc (k) hk
      have HSA : Hid (∀ W', Below w.heap.size w W' → StepsAt W' pa l[k].path) := fun W' hb => sa.below hb (Nat.le_refl _)
      have HLA : Hid (l[k].path.length ≤ maxLen ∧ l[k].path.length ≤ ca) := ⟨la, ka⟩
      clear hc sa la ka h
      generalize l[k] = xa at *
      rw [hl0]
      go_enter Tryz.func81, Tryz.ntmps81
      go_wp2_with fail
      first | go_region_with (fail) | trace_state
      all_goals
        go_wp2
        refine bodyPost_ret (v := .tuple #[.agg #[.slice pa xa.path.length ca, .int .i64 xa.clock], .agg #[.slice none 0 0, .int .i64 0]]) (by simp [results, Tryz.results81, go_sem]) rfl ?_
        refine ⟨pa, ca, none, 0, by (rw [HA.out, HBe.out]) <;> rfl, ?_, ?_, ?_, ?_, ?_, ?_, (HBB.out _ _)⟩
        · rw [HA.out]; exact HSA.out _ (HBB.out _ _)
        · rw [HBe.out]; exact Or.inl rfl
        · rw [HA.out]; exact HLA.out.2
        · rw [HBe.out]; exact Nat.zero_le _
        · rw [HA.out]; exact HLA.out.1
        · rw [HBe.out]; exact Nat.zero_le _
end Go.Proofs.YtnhjebdlcbhkcaeGreat
