/- Contract of atom.Put. -/
import Derived.Test.YtcggeeejkgndmabPutStep
import Derived.Test.YtcggeeejkgndmabInsA
import Derived.Test.YtcggeeejkgndmabPickA
namespace Go.Proofs.Ytcggeeejkgndmab
open Go.RowKit

set_option maxHeartbeats 400000 in
theorem or25_any (b cap : Nat) (x y : Int) (w : World) (h0 : w.cell? ⟨b, 0, none⟩ = some (.int .i64 x)) (h1 : w.cell? ⟨b, 1, none⟩ = some (.int .i64 y)) :
    Calls Try.prog 102 #[.slice (some ⟨b, 0, none⟩) 2 cap] w fun e w' => e = .returned (.int .i64 (orI x y)) ∧ w' = w := by
  go_enter Try.func102, Try.ntmps102
  go_wp2
  go_loop [8] (fun i => ∃ k : Nat, k ≤ 2 ∧ i = .int .i64 k ∧ (1 ≤ k → x = 0) ∧ (2 ≤ k → y = 0)) (fun i => 2 - (intOf i).toNat)
  case atStart => exact ⟨0, by omega, rfl, by omega, by omega⟩
  case round =>
    obtain ⟨k, hk, rfl, hx, hy⟩ := hrel
    rcases (show k = 0 ∨ k = 1 ∨ k = 2 by omega) with rfl | rfl | rfl
    · clear hx hy
      by_cases hx : x = 0
      · go_wp2
        go_round
        case rel => exact ⟨1, by omega, by go_num, fun _ => hx, by omega⟩
        case measure => simp [intOf]
      · go_wp2
        go_ret
        exact ⟨ret_int (by simp [orI, hx]), rfl⟩
    · have hx0 := hx (by omega)
      subst hx0
      clear hx hy
      by_cases hy : y = 0
      · go_wp2
        go_round
        case rel => exact ⟨2, by omega, by go_num, fun _ => by simp, fun _ => hy⟩
        case measure => simp [intOf]
      · go_wp2
        go_ret
        exact ⟨ret_int (by simp [orI]), rfl⟩
    · have hx0 := hx (by omega)
      have hy0 := hy (by omega)
      subst hx0
      subst hy0
      clear hx hy
      go_wp2
      go_ret
      exact ⟨ret_int (by simp [orI]), rfl⟩

set_option maxRecDepth 100000 in
set_option maxHeartbeats 2000000 in
theorem put_bad (a a' : Option Addr) (cap cap' : Nat) (l m : List At) (w : World) (hl : l.length ≤ maxLen) (hm : m.length ≤ maxLen) (h : AtomsAt w a l) (h' : AtomsAt w a' m) (h0 : orI (chkL l) (chkL m) ≠ 0) :
    Calls Try.prog 89 #[.slice a l.length cap, .slice a' m.length cap'] w fun e w' => e = .returned (.tuple #[.slice none 0 0, .int .i64 (orI (chkL l) (chkL m))]) ∧ Below w.heap.size w w' := by
  have hx : (orI (chkL l) (chkL m) != 0) = true := bne_iff_ne.2 h0
  clear h0
  go_enter Try.func89, Try.ntmps89
  go_wp2_with fail
  refine (atomCheck_any _ _ l _ hl h).mono ?_
  rintro e w1 ⟨rfl, hb1⟩
  go_wp2_with fail
  refine (atomCheck_any _ _ m _ hm (h'.below hb1 (Nat.le_refl _))).mono ?_
  rintro e w2 ⟨rfl, hb2⟩
  have hb3 := hb1.thru hb2 hb1.size
  go_wp2_with (go_at_call 102; refine (or25_any _ _ (chkL l) (chkL m) _ (by go_simp) (by go_simp)).mono ?_; rintro e w' ⟨rfl, rfl⟩)
  refine bodyPost_ret (v := .tuple #[.slice none 0 0, .int .i64 (orI (chkL l) (chkL m))]) (by simp [results, Try.results89, go_sem]) rfl ?_
  exact ⟨rfl, hb3.alloc hb3.size _⟩


theorem flatR_take (rs : List Raw) : ∀ i, (flatR rs).take (i * 3) = flatR (rs.take i) := by
  induction rs with
  | nil => intro i; simp [flatR]
  | cons r rs ih =>
    intro i
    cases i with
    | zero => simp [flatR]
    | succ i =>
      have h1 : flatR (r :: rs) = r.cells ++ flatR rs := rfl
      have h2 : flatR ((r :: rs).take (i + 1)) = r.cells ++ flatR (rs.take i) := rfl
      rw [h1, h2, List.take_append, List.take_of_length_le (by show 3 ≤ _; omega), show (i + 1) * 3 - r.cells.length = i * 3 by show (i + 1) * 3 - 3 = _; omega, ih]
theorem flatR_drop (rs : List Raw) : ∀ i, (flatR rs).drop (i * 3) = flatR (rs.drop i) := by
  induction rs with
  | nil => intro i; simp [flatR]
  | cons r rs ih =>
    intro i
    cases i with
    | zero => simp [flatR]
    | succ i =>
      have h1 : flatR (r :: rs) = r.cells ++ flatR rs := rfl
      have h2 : flatR ((r :: rs).drop (i + 1)) = flatR (rs.drop i) := rfl
      rw [h1, h2, List.drop_append, List.drop_of_length_le (by show 3 ≤ _; omega), show (i + 1) * 3 - r.cells.length = i * 3 by show (i + 1) * 3 - 3 = _; omega, ih, List.nil_append]

theorem PickRow.ins {w w' : World} {base : Nat} {v v' : Value} {xs : List At} {r : Raw} {x : At} {rs : List Raw} {i : Nat} (hi : i ≤ xs.length) (hl : rs.length = xs.length) (hown : w.ownsRow base 69 3 v xs.length (flatR rs)) (hr : ∀ i (h : i < xs.length) (h' : i < rs.length), PickRaw w base rs[i] xs[i]) (hx : PickRaw w base r x) (hg : w.grownBy w' v.ownBlock)
    (h : w'.ownsRow base 69 3 v' (xs.length + 1) ((flatR rs).take (i * 3) ++ r.cells ++ (flatR rs).drop (i * 3))) : PickRow w' base v' (xs.take i ++ x :: xs.drop i) := by
  refine ⟨rs.take i ++ r :: rs.drop i, by simp [hl], ?_, fun k hk hk' => ?_⟩
  · have e1 : (xs.take i ++ x :: xs.drop i).length = xs.length + 1 := by simp; omega
    rw [e1, flatR_append]
    rw [flatR_take, flatR_drop, List.append_assoc] at h
    exact h
  · have hkl : k < xs.length + 1 := by simp at hk; omega
    rcases Nat.lt_trichotomy k i with hlt | heq | hgt
    · have e1 : (rs.take i ++ r :: rs.drop i)[k] = rs[k]'(by omega) := by rw [List.getElem_append_left (by simp; omega)]; simp
      have e2 : (xs.take i ++ x :: xs.drop i)[k] = xs[k]'(by omega) := by rw [List.getElem_append_left (by simp; omega)]; simp
      rw [e1, e2]
      exact (hr k (by omega) (by omega)).kept hg (fun g cap _ ho => types_ne ho hown)
    · subst heq
      have e1 : (rs.take k ++ r :: rs.drop k)[k] = r := by
        rw [List.getElem_append_right (by simp; omega)]
        simp [show k - min k rs.length = 0 by omega]
      have e2 : (xs.take k ++ x :: xs.drop k)[k] = x := by
        rw [List.getElem_append_right (by simp; omega)]
        simp [show k - min k xs.length = 0 by omega]
      rw [e1, e2]
      exact hx.kept hg (fun g cap _ ho => types_ne ho hown)
    · obtain ⟨j, rfl⟩ : ∃ j, k = j + 1 := ⟨k - 1, by omega⟩
      have e1 : (rs.take i ++ r :: rs.drop i)[j + 1] = rs[j]'(by omega) := by
        rw [List.getElem_append_right (by simp; omega)]
        simp only [List.length_take, show j + 1 - min i rs.length = (j - i) + 1 by omega, List.getElem_cons_succ, List.getElem_drop]
        congr 1; omega
      have e2 : (xs.take i ++ x :: xs.drop i)[j + 1] = xs[j]'(by omega) := by
        rw [List.getElem_append_right (by simp; omega)]
        simp only [List.length_take, show j + 1 - min i xs.length = (j - i) + 1 by omega, List.getElem_cons_succ, List.getElem_drop]
        congr 1; omega
      rw [e1, e2]
      exact (hr j (by omega) (by omega)).kept hg (fun g cap _ ho => types_ne ho hown)

theorem flatR_set (rs : List Raw) : ∀ (i : Nat) (s : Int) (h : i < rs.length), (flatR rs).set (i * 3 + 2) (.int .u8 s) = flatR (rs.set i { rs[i] with sign := s }) := by
  induction rs with
  | nil => intro i s h; simp at h
  | cons r rs ih =>
    intro i s h
    cases i with
    | zero => rfl
    | succ i =>
      have h1 : flatR (r :: rs) = r.cells ++ flatR rs := rfl
      have h2 : flatR ((r :: rs).set (i + 1) { (r :: rs)[i + 1] with sign := s }) = r.cells ++ flatR (rs.set i { (rs[i]'(by simpa using h)) with sign := s }) := rfl
      rw [h1, h2, List.set_append_right _ _ (by show 3 ≤ _; omega), show (i + 1) * 3 + 2 - r.cells.length = i * 3 + 2 by show (i + 1) * 3 + 2 - 3 = _; omega, ih i s (by simpa using h)]

theorem PickRow.less {w : World} {base g cap : Nat} {xs : List At} {rs : List Raw} {i : Nat} {s : Int} (hi : i < xs.length) (hl : rs.length = xs.length) (hown : w.ownsRow base 69 3 (.slice (some ⟨g, 0, none⟩) xs.length cap) xs.length (flatR rs)) (hr : ∀ i (h : i < xs.length) (h' : i < rs.length), PickRaw w base rs[i] xs[i]) (s0 : 0 ≤ s) (s1 : s ≤ 255) :
    PickRow (w.setCell ⟨g, i * 3 + 2, none⟩ (.int .u8 s)) base (.slice (some ⟨g, 0, none⟩) xs.length cap) (xs.set i { xs[i] with sign := s }) ∧ w.grownBy (w.setCell ⟨g, i * 3 + 2, none⟩ (.int .u8 s)) (some g) := by
  obtain ⟨h1, h2⟩ := hown.stored (i * 3 + 2) (.int .u8 s)
  refine ⟨⟨rs.set i { (rs[i]'(by omega)) with sign := s }, by simp [hl], ?_, fun k hk hk' => ?_⟩, h2⟩
  · rw [flatR_set rs i s (by omega)] at h1
    simpa using h1
  · have hk2 : k < xs.length := by simpa using hk
    by_cases e : k = i
    · subst e
      obtain ⟨g2, cap2, hq, ho, h3, h4, h5⟩ := (hr k hi (by omega)).kept h2 (fun g cap _ ho => types_ne ho hown)
      rw [List.getElem_set_self, List.getElem_set_self]
      refine ⟨g2, cap2, ?_, ho, h3, s0, s1⟩
      rw [hq]
    · rw [List.getElem_set_ne (fun h => e h.symm), List.getElem_set_ne (fun h => e h.symm)]
      exact (hr k hk2 (by omega)).kept h2 (fun g cap _ ho => types_ne ho hown)
end Go.Proofs.Ytcggeeejkgndmab
