/- Contracts of package seen: Check, Join, Covers. -/
import Derived.Test.YtlpfnpkmgkbngaeIntsC
import Derived.Test.YtlpfnpkmgkbngaeOwnsF
import Derived.Laws.AppendOwn
import Derived.Deep.RegionWith
import Derived.Deep.AppendLies
namespace Go.Proofs.Ytlpfnpkmgkbngae
open Go.RowKit

def orE (x y : Int) : Int := if x ≠ 0 then x else y

set_option maxHeartbeats 400000 in
theorem orE_any (b cap : Nat) (x y : Int) (w : World) (h0 : w.cell? ⟨b, 0, none⟩ = some (.int .i64 x)) (h1 : w.cell? ⟨b, 1, none⟩ = some (.int .i64 y)) :
    Calls Try.prog 17 #[.slice (some ⟨b, 0, none⟩) 2 cap] w fun e w' => e = .returned (.int .i64 (orE x y)) ∧ w' = w := by
  go_enter Try.func17, Try.ntmps17
  go_wp2
  go_loop [8] (fun i => ∃ k : Nat, k ≤ 2 ∧ i = .int .i64 k ∧ (1 ≤ k → x = 0) ∧ (2 ≤ k → y = 0)) (fun i => 2 - (intOf i).toNat)
  case atStart => exact ⟨0, by omega, rfl, by omega, by omega⟩
  case round =>
    obtain ⟨k, hk, rfl, hx, hy⟩ := hrel
    rcases (show k = 0 ∨ k = 1 ∨ k = 2 by omega) with rfl | rfl | rfl
    · clear hx hy
      by_cases hx : x = 0
      · go_wp2
        go_round
        case rel => exact ⟨1, by omega, by go_num, fun _ => hx, by omega⟩
        case measure => simp [intOf]
      · go_wp2
        go_ret
        exact ⟨ret_int (by simp [orE, hx]), rfl⟩
    · have hx0 := hx (by omega)
      subst hx0
      clear hx hy
      by_cases hy : y = 0
      · go_wp2
        go_round
        case rel => exact ⟨2, by omega, by go_num, fun _ => by simp, fun _ => hy⟩
        case measure => simp [intOf]
      · go_wp2
        go_ret
        exact ⟨ret_int (by simp [orE]), rfl⟩
    · have hx0 := hx (by omega)
      have hy0 := hy (by omega)
      subst hx0
      subst hy0
      clear hx hy
      go_wp2
      go_ret
      exact ⟨ret_int (by simp [orE]), rfl⟩

/-- what Check of what was seen answers -/
def chkSeen (l : List Int) : Int := if l.length ≠ 5 then 1 else if okNums l = false then 3 else 0

set_option maxHeartbeats 1000000 in
theorem seenCheck_any (a : Option Addr) (cap : Nat) (l : List Int) (w : World) (hl : l.length ≤ maxLen) (h : IntsAt w a l) :
    Calls Try.prog 13 #[.slice a l.length cap] w fun e w' => e = .returned (.int .i64 (chkSeen l)) ∧ Below w.heap.size w w' := by
  by_cases h5 : l.length = 5
  · have HC := hidE (containsFuncS_any a cap l w hl h)
    have HS : Hid (chkSeen l = if okNums l = false then 3 else 0) := by show _ = _; unfold chkSeen; rw [if_neg (by simpa using h5)]
    rw [h5] at HC ⊢
    clear hl h
    cases ho : okNums l
    · have HF : Hid (chkSeen l = 3) := by show _ = _; rw [HS.out, ho]; rfl
      rw [ho] at HC
      clear ho HS
      go_enter Try.func13, Try.ntmps13
      go_wp2_with (go_at_call 26; refine HC.out.mono ?_; rintro e w' ⟨rfl, hb⟩)
      go_ret
      exact ⟨ret_int HF.out.symm, hb⟩
    · have HF : Hid (chkSeen l = 0) := by show _ = _; rw [HS.out, ho]; rfl
      rw [ho] at HC
      clear ho HS
      go_enter Try.func13, Try.ntmps13
      go_wp2_with (go_at_call 26; refine HC.out.mono ?_; rintro e w' ⟨rfl, hb⟩)
      go_ret
      exact ⟨ret_int HF.out.symm, hb⟩
  · have HF : Hid (chkSeen l = 1) := by show _ = _; unfold chkSeen; rw [if_pos h5]
    have hd : ((l.length : Int) != 5) = true := by rw [bne_iff_ne]; omega
    go_enter Try.func13, Try.ntmps13
    go_wp2
    go_ret
    exact ⟨ret_int HF.out.symm, Below.refl _ _⟩

theorem Try.info3 : ∃ i, Try.prog.info? 3 = some i ∧ i.zero = some (.int .i64 0) ∧ i.size = 1 ∧ i.bytes = 8 := by
  have h : (Try.prog.info? 3).map (fun i => (i.zero, i.size, i.bytes)) = some (some (.int .i64 0), 1, 8) := by kernel_rfl
  rw [Option.map_eq_some_iff] at h
  obtain ⟨i, hi, he⟩ := h
  simp only [Prod.mk.injEq] at he
  exact ⟨i, hi, he⟩

theorem owns_slice {w : World} {base : Nat} {e : TypeId} {size : Nat} {v : Value} {n : Nat} {xs : List Value} (h : w.ownsRow base e size v n xs) : ∃ p cap, v = .slice p n cap := by
  rcases h.2 with ⟨rfl, h0⟩ | ⟨g, cap, cur, rfl, _⟩
  · exact ⟨none, 0, by rw [h0]⟩
  · exact ⟨some ⟨g, 0, none⟩, cap, rfl⟩

/-- a box that holds a row of numbers, which is the call's own -/
structure BoxI (w : World) (B : Nat) (xs : List Int) : Prop where
  at0 : ∃ p c, w.cell? ⟨B, 0, none⟩ = some (.slice p xs.length c) ∧ w.ownsRow (B + 1) 3 1 (.slice p xs.length c) xs.length (xs.map (Value.int .i64))
  froz : w.frozen? ⟨B, 0, none⟩ = false
  lt : B < w.heap.size

theorem BoxI.end {w w' : World} {B n : Nat} {v : Value} {xs : List Int} {p : Option Addr} {c : Nat} {x : Int} (hlt : B < w.heap.size) (hf : w.frozen? ⟨B, 0, none⟩ = false) (hown : w.ownsRow (B + 1) 3 1 (.slice p n c) n (xs.map (Value.int .i64)))
    (hg : (w.alloc (Obj.cells #[.int .i64 x] 3)).grownBy w' (Value.slice p n c).ownBlock) (hn : n = xs.length) (h5 : w'.ownsRow (B + 1) 3 1 v (n + 1) (xs.map (Value.int .i64) ++ [.int .i64 x])) (hc : w.cell? ⟨B, 0, none⟩ = some (.slice p n c)) :
    BoxI (w'.setCell ⟨B, 0, none⟩ v) B (xs ++ [x]) ∧ Below B w (w'.setCell ⟨B, 0, none⟩ v) ∧ w'.cell? ⟨B, 0, none⟩ = some (.slice p n c) ∧ w'.frozen? ⟨B, 0, none⟩ = false := by
  subst hn
  have hne : some B ≠ (Value.slice p xs.length c).ownBlock := fun e => by have := (hown.lt _ e.symm).1; omega
  have hl1 : B < (w.alloc (Obj.cells #[.int .i64 x] 3)).heap.size := by simp; omega
  have hb1 : Below B w (w.alloc (Obj.cells #[.int .i64 x] 3)) := (Below.refl _ _).alloc (Nat.le_of_lt hlt) _
  have hb2 : Below B w w' := hb1.grown hg (Nat.le_of_lt hl1) (fun j hj => by have := (hown.lt j hj).1; omega)
  have hba : Below w.heap.size w (w.alloc (Obj.cells #[.int .i64 x] 3)) := (Below.refl _ _).alloc (Nat.le_refl _) _
  have c' : w'.cell? ⟨B, 0, none⟩ = some (.slice p xs.length c) := (hg.cell_far ⟨B, 0, none⟩ hl1 hne).trans ((hba.cell (p := ⟨B, 0, none⟩) hlt).trans hc)
  have f' : w'.frozen? ⟨B, 0, none⟩ = false := (hg.frozen_far ⟨B, 0, none⟩ hl1 hne).trans ((hba.frozen (p := ⟨B, 0, none⟩) hlt).trans hf)
  have hlt' : B < w'.heap.size := Nat.lt_of_lt_of_le hl1 hg.size
  obtain ⟨p', c1, rfl⟩ := owns_slice h5
  have hm : (xs ++ [x]).map (Value.int .i64) = xs.map (Value.int .i64) ++ [.int .i64 x] := by simp
  have hlen : (xs ++ [x]).length = xs.length + 1 := by simp
  refine ⟨⟨⟨p', c1, ?_, ?_⟩, ?_, ?_⟩, hb2.setCell (p := ⟨B, 0, none⟩) (Nat.le_refl _) _, c', f'⟩
  · rw [hlen]; exact World.cell?_setCell_same _ _ _ c'
  · rw [hm, hlen]
    exact ownsRow_setCell_other h5 (fun e => absurd (h5.lt B e).1 (by omega)) _
  · rw [World.frozen?_setCell]; exact f'
  · simpa [World.setCell] using hlt'

set_option maxRecDepth 100000 in
set_option maxHeartbeats 1000000 in
theorem join1_0 (B : Nat) (xs : List Int) (x y : Int) (w : World) (hxy : x < y) (h : BoxI w B xs) (hl : xs.length ≤ 100) :
    Calls Try.prog 19 #[.int .i64 x, .int .i64 y, .pointer (some ⟨B, 0, none⟩)] w fun e w' => e = .returned (.tuple #[]) ∧ BoxI w' B (xs ++ [y]) ∧ Below B w w' := by
  obtain ⟨⟨p, c, hc, hown⟩, hf, hlt⟩ := h
  obtain ⟨i0, hi0, hz0, hz1, hz2⟩ := Try.info3
  have HN : Hid (∃ n, n = xs.length) := ⟨_, rfl⟩
  generalize hn : xs.length = n at hc hown hl
  have hN := hidE hn.symm
  clear hn HN
  have hown1 := hown.alloc (Obj.cells #[.int .i64 y] 3)
  go_enter Try.func19, Try.ntmps19
  go_wp2_with (at_builtin; refine wpList_append_own _ rfl _ _ 22 rfl (B + 1) 3 i0 (.int .i64 0) 1 8 Try.underlying22 hi0 hz0 hz1 hz2 rfl (by decide) _ _ _ rfl hown1 ⟨w.heap.size, 0, none⟩ 1 1 [.int .i64 y] rfl rfl (by intro j u hj; rw [Addr.add_lit, World.cell?_alloc_new]; simpa using hj) (by intro u hu; rw [List.mem_singleton.1 hu]; rfl) (by unfold maxLen; omega) (by omega) (by simp; omega) ?_)
  intro v' w5 hown5 hgrow _
  obtain ⟨hB, hb, hc5, hf5⟩ := BoxI.end hlt hf hown hgrow hN.out hown5 hc
  obtain ⟨p', c', rfl⟩ := owns_slice hown5
  clear hown5 hgrow hown1 hown
  go_wp2_with fail
  go_end0
  exact ⟨rfl, hB, hb⟩

set_option maxRecDepth 100000 in
set_option maxHeartbeats 1000000 in
theorem join1_1 (B : Nat) (xs : List Int) (x y : Int) (w : World) (hxy : ¬ x < y) (h : BoxI w B xs) (hl : xs.length ≤ 100) :
    Calls Try.prog 19 #[.int .i64 x, .int .i64 y, .pointer (some ⟨B, 0, none⟩)] w fun e w' => e = .returned (.tuple #[]) ∧ BoxI w' B (xs ++ [x]) ∧ Below B w w' := by
  obtain ⟨⟨p, c, hc, hown⟩, hf, hlt⟩ := h
  obtain ⟨i0, hi0, hz0, hz1, hz2⟩ := Try.info3
  have HN : Hid (∃ n, n = xs.length) := ⟨_, rfl⟩
  generalize hn : xs.length = n at hc hown hl
  have hN := hidE hn.symm
  clear hn HN
  have hown1 := hown.alloc (Obj.cells #[.int .i64 x] 3)
  go_enter Try.func19, Try.ntmps19
  go_wp2_with (at_builtin; refine wpList_append_own _ rfl _ _ 22 rfl (B + 1) 3 i0 (.int .i64 0) 1 8 Try.underlying22 hi0 hz0 hz1 hz2 rfl (by decide) _ _ _ rfl hown1 ⟨w.heap.size, 0, none⟩ 1 1 [.int .i64 x] rfl rfl (by intro j u hj; rw [Addr.add_lit, World.cell?_alloc_new]; simpa using hj) (by intro u hu; rw [List.mem_singleton.1 hu]; rfl) (by unfold maxLen; omega) (by omega) (by simp; omega) ?_)
  intro v' w5 hown5 hgrow _
  obtain ⟨hB, hb, hc5, hf5⟩ := BoxI.end hlt hf hown hgrow hN.out hown5 hc
  obtain ⟨p', c', rfl⟩ := owns_slice hown5
  clear hown5 hgrow hown1 hown
  go_wp2_with fail
  go_end0
  exact ⟨rfl, hB, hb⟩

theorem join1_any (B : Nat) (xs : List Int) (x y : Int) (w : World) (h : BoxI w B xs) (hl : xs.length ≤ 100) :
    Calls Try.prog 19 #[.int .i64 x, .int .i64 y, .pointer (some ⟨B, 0, none⟩)] w fun e w' => e = .returned (.tuple #[]) ∧ BoxI w' B (xs ++ [max x y]) ∧ Below B w w' := by
  by_cases hxy : x < y
  · rw [show max x y = y by omega]; exact join1_0 B xs x y w hxy h hl
  · rw [show max x y = x by omega]; exact join1_1 B xs x y w hxy h hl

set_option maxRecDepth 100000 in
set_option maxHeartbeats 1000000 in
theorem pairsJ_any (a a' : Option Addr) (cap cap' B : Nat) (l m : List Int) (w0 w : World) (h5 : l.length = 5) (h5' : m.length = 5) (h : IntsAt w0 a l) (h' : IntsAt w0 a' m) (hB : B = w0.heap.size) (hw : BoxI w B []) (hb0 : Below B w0 w) :
    Calls Try.prog 18 #[.slice a 5 cap, .slice a' 5 cap', .func (.func 19) #[] #[.pointer (some ⟨B, 0, none⟩)]] w fun e w' => e = .returned (.tuple #[]) ∧ BoxI w' B (List.zipWith max l m) ∧ Below B w0 w' := by
  subst hB
  rcases h with h | ⟨b, o, rfl, hlt, hc⟩
  · rw [h] at h5; simp at h5
  rcases h' with h' | ⟨b', o', rfl, hlt', hc'⟩
  · rw [h'] at h5'; simp at h5'
  go_enter Try.func18, Try.ntmps18
  go_wp2_with fail
  go_loopw [7] (fun i wr => ∃ k : Nat, k ≤ 5 ∧ i = .int .i64 k ∧ BoxI wr w0.heap.size (List.zipWith max (l.take k) (m.take k)) ∧ Below w0.heap.size w0 wr) (fun i _ => 5 - (intOf i).toNat)
  case atStart => exact ⟨0, Nat.zero_le _, rfl, hw, hb0⟩
  case round =>
    obtain ⟨k, hk, rfl, hBx, hb⟩ := hrel
    by_cases hlt5 : k < 5
    · have e0 := (hb.cell (p := ⟨b, o + k, none⟩) hlt).trans (hc k (by omega))
      have e1 := (hb.cell (p := ⟨b', o' + k, none⟩) hlt').trans (hc' k (by omega))
      have HZ : Hid (List.zipWith max (l.take (k + 1)) (m.take (k + 1)) = List.zipWith max (l.take k) (m.take k) ++ [max l[k] m[k]]) := by
        show _ = _
        rw [List.take_succ_eq_append_getElem (by omega), List.take_succ_eq_append_getElem (by omega), List.zipWith_append (by simp; omega)]
        rfl
      have hlz : (List.zipWith max (l.take k) (m.take k)).length ≤ 100 := by simp; omega
      have HC := hidE (fun (d : World) (hd : BoxI d w0.heap.size (List.zipWith max (l.take k) (m.take k))) => join1_any w0.heap.size _ l[k] m[k] d hd hlz)
      rw [← HZ.out] at HC
      clear HZ hlz hc hc'
      generalize l[k] = x at e0 HC
      generalize m[k] = y at e1 HC
      have hi1 : (k : Int) < 5 := by omega
      go_upto_region 3 with fail
      have hbd : BoxI wr.drew w0.heap.size (List.zipWith max (l.take k) (m.take k)) := ⟨hBx.at0, hBx.froz, hBx.lt⟩
      have hb1 := hb.drew
      go_region_with (go_at_call 19; refine (HC.out _ hbd).mono ?_; rintro e w2 ⟨rfl, hB2, hb2⟩)
      all_goals
        go_wp2_with fail
        go_roundw
        case rel => exact ⟨k + 1, by omega, by go_num, hB2, hb1.trans hb2⟩
        case measure => simp [intOf]; omega
    · have hk5 : k = 5 := by omega
      subst hk5
      rw [List.take_of_length_le (by omega), List.take_of_length_le (by omega)] at hBx
      go_wp2_with fail
      go_end0
      exact ⟨rfl, hBx, hb⟩

end Go.Proofs.Ytlpfnpkmgkbngae
