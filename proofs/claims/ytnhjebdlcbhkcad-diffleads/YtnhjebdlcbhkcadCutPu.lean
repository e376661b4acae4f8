/- The atoms of a run: they rise, they are one run, and cut in two they are those of both. No Go text is walked here. -/
import Derived.Test.YtnhjebdlcbhkcadRunPu
import Derived.Test.YtnhjebdlcbhkcadPieces
namespace Go.Proofs.Ytnhjebdlcbhkcad

theorem bump_snoc {l : List (Int × Int)} (h : 0 < l.length) (n : Int) : bump l n = l.dropLast ++ [((lastS l).1 + n, (lastS l).2)] := by
  have e : l = l.dropLast ++ [lastS l] := by
    have h1 : l ≠ [] := by intro e; rw [e] at h; simp at h
    conv => lhs; rw [← List.dropLast_concat_getLast h1]
    congr 2
    rw [lastS_eq h, List.getLast_eq_getElem]
  have key : ∀ s, setL l s = l.dropLast ++ [s] := by
    intro s
    unfold setL
    conv => lhs; rw [e]
    rw [show (l.dropLast ++ [lastS l]).length - 1 = l.dropLast.length by simp, List.set_append_right _ _ (Nat.le_refl _)]
    simp
  exact key _

theorem ordM_bump {l : List (Int × Int)} (h : 0 < l.length) (c : Int) {i j : Int} (hij : i < j) : ordM (bump l i) (c + i) (bump l j) (c + j) < 0 := by
  have : ordP (bump l i) (bump l j) = -1 := by
    rw [bump_snoc h, bump_snoc h, ordP_same]
    exact ordP_one _ _ (ordS_of (Or.inl (by simp only; omega)))
  have := ordM_of (c := c + i) (d := c + j) this
  omega

theorem atomsR_len (l : List (Int × Int)) (c : Int) (t : ByteArray) : (atomsR l c t).length = t.size := by simp [atomsR]
theorem atomsR_get {l : List (Int × Int)} {c : Int} {t : ByteArray} {i : Nat} (h : i < t.size) : (atomsR l c t)[i]'(by rw [atomsR_len]; exact h) = ⟨bump l i, c + i, t[i].toNat⟩ := by
  have e : (atomsR l c t)[i]'(by rw [atomsR_len]; exact h) = runAt l c t i := by simp [atomsR]
  rw [e]
  unfold runAt
  rw [List.getD_eq_getElem?_getD, List.getElem?_eq_getElem (by simpa using h)]; rfl

theorem allS_get {t : ByteArray} (h : allS t.data.toList = true) {i : Nat} (hi : i < t.size) : isSignB (t[i].toNat : Int) = true := by
  unfold allS at h
  rw [List.all_eq_true] at h
  exact h t[i] (by
    have : t[i] = t.data.toList[i]'(by simpa using hi) := rfl
    rw [this]; exact List.getElem_mem _)

theorem atomsR_ok {l : List (Int × Int)} {c : Int} {t : ByteArray} (ok : OkRun l c t) : OkL (atomsR l c t) := by
  refine ⟨by rw [atomsR_len]; have := ok.len; omega, fun x hx => ?_, ?_⟩
  · obtain ⟨i, hi, rfl⟩ := List.getElem_of_mem hx
    rw [atomsR_len] at hi
    rw [atomsR_get hi]
    exact ⟨ok.each i hi, allS_get ok.signs hi⟩
  · rw [List.pairwise_iff_getElem]
    intro i j hi hj hij
    rw [atomsR_len] at hi hj
    rw [atomsR_get hi, atomsR_get hj]
    exact ordM_bump (chk_ok ok.mark).1 c (by omega)

theorem atomsR_flw {l : List (Int × Int)} {c : Int} {t : ByteArray} (hl : 0 < l.length) {k : Nat} (h : k + 1 < t.size) : flwAt (atomsR l c t) k = true := by
  unfold flwAt
  rw [List.getElem?_eq_getElem (by rw [atomsR_len]; omega), List.getElem?_eq_getElem (by rw [atomsR_len]; omega), atomsR_get (by omega), atomsR_get h]
  simp only [flw, beq_iff_eq]
  rw [bump_bump hl]
  have e : ((k + 1 : Nat) : Int) = (k : Int) + 1 := by omega
  rw [e, Int.add_assoc]
  exact cmpM.refl (_, _)

theorem atomsR_txt (l : List (Int × Int)) (c : Int) (t : ByteArray) : txtS (atomsR l c t) = t := by
  apply ByteArray.ext
  apply Array.ext'
  unfold txtS
  rw [strOfNums_data]
  refine List.ext_getElem (by simp [atomsR]) (fun i h1 h2 => ?_)
  have hi : i < t.size := by simpa [atomsR] using h1
  simp only [List.getElem_map]
  rw [atomsR_get hi]
  show UInt8.ofNat ((t[i].toNat : Int)).toNat = _
  rw [Int.toNat_natCast, UInt8.ofNat_toNat]
  rfl

/-- the atoms of a run are one run -/
theorem atomsR_one {l : List (Int × Int)} {c : Int} {t : ByteArray} (ok : OkRun l c t) : runsL (atomsR l c t) = [⟨l, c, t⟩] := by
  have hl := (chk_ok ok.mark).1
  have h0 := ok.len0
  have h60 := ok.len
  have key : ∀ k, k < t.size → pst (atomsR l c t) k = ([], 0) := by
    intro k
    induction k with
    | zero => intro _; rfl
    | succ k ih =>
      intro hk
      have h1 := ih (by omega)
      rw [pst, h1, if_pos]
      rw [goesB_iff, atomsR_len]
      exact ⟨hk, by omega, atomsR_flw hl hk⟩
  have hend : pst (atomsR l c t) t.size = ([(0, t.size)], t.size) := by
    obtain ⟨k, hk⟩ : ∃ k, t.size = k + 1 := ⟨t.size - 1, by omega⟩
    have h1 := key k (by omega)
    rw [hk, pst, h1, if_neg]
    · rfl
    · rw [goesB_iff, atomsR_len]; omega
  unfold runsL
  rw [atomsR_len, hend]
  simp only [List.map_cons, List.map_nil]
  rw [runOf_eq (by rw [atomsR_len]; exact h0), atomsR_get h0]
  have e : part (atomsR l c t) 0 (t.size - 0) = atomsR l c t := by
    unfold part
    rw [List.drop_zero, List.take_of_length_le (by rw [atomsR_len]; omega)]
  simp only [e, atomsR_txt]
  congr 2
  · exact bump_zero hl
  · simp

theorem extract_size (t : ByteArray) (a b : Nat) (h : b ≤ t.size) : (t.extract a b).size = b - a := by
  rw [ByteArray.size_extract]; omega

/-- a run cut in two has the atoms of both -/
theorem atomsR_cut {l : List (Int × Int)} {c : Int} {t : ByteArray} (hl : 0 < l.length) {k : Nat} (hk : k ≤ t.size) : atomsR l c (t.extract 0 k) ++ atomsR (bump l k) (c + k) (t.extract k t.size) = atomsR l c t := by
  have s1 := extract_size t 0 k hk
  have s2 := extract_size t k t.size (Nat.le_refl _)
  refine List.ext_getElem (by simp only [List.length_append, atomsR_len, s1, s2]; omega) (fun i h1 h2 => ?_)
  rw [atomsR_len] at h2
  rw [atomsR_get h2]
  by_cases e : i < k
  · rw [List.getElem_append_left (by rw [atomsR_len, s1]; omega), atomsR_get (by rw [s1]; omega)]
    congr 2
    simp [ByteArray.getElem_extract]
  · rw [List.getElem_append_right (by rw [atomsR_len, s1]; omega)]
    simp only [atomsR_len, s1, Nat.sub_zero]
    rw [atomsR_get (by rw [s2]; omega), bump_bump hl]
    congr 1
    · congr 1; omega
    · omega
    · congr 2
      simp only [ByteArray.getElem_extract]
      congr 1; omega
end Go.Proofs.Ytnhjebdlcbhkcad
