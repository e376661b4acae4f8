/- Pure: the text of a list of atoms, cut and joined. -/
import Derived.Test.YtnhjebdlcbhkcacGreatAtomCk
import Derived.Deep.OwnRows
import Derived.Laws.BytesArg
import Derived.Laws.Concat
import Derived.Test.YtnhjebdlcbhkcacGreatCutPu
namespace Go.Proofs.YtnhjebdlcbhkcacGreat
open Go.RowKit

theorem strOfNums_snoc (xs : List Int) (n : Int) : strOfNums (xs ++ [n]) = strOfNums xs ++ strOfNums [n] := by
  apply ByteArray.ext
  simp [strOfNums, ByteArray.data_append]

set_option maxRecDepth 100000 in
set_option maxHeartbeats 2000000 in
theorem textOf_ok (a : Option Addr) (cap : Nat) (l : List At) (w : World) (h : AtomsAt w a l) (h300 : l.length ≤ 300) :
    Calls Tryz.prog 10 #[.slice a l.length cap] w fun e w' => e = .returned (.string (strOfNums (l.map At.sign))) ∧ Below w.heap.size w w' := by
  have hcv : ∀ (w : World) (x : Int), (convert 68 9 (.slice (some ⟨w.heap.size, 0, none⟩) 1 1)).run Tryz.prog (w.alloc (.cells #[.int .u8 x] 5)) = .ok (.string (strOfNums [x])) (w.alloc (.cells #[.int .u8 x] 5)) := by
    intro w x
    refine run_convert_bytes_arg (P := Tryz.prog) _ 68 5 Tryz.underlying68 Tryz.underlying5 w.heap.size 0 1 1 [x] rfl (fun i hi => ?_) 9 Tryz.underlying9
    have : i = 0 := by omega
    subst this
    simp
  go_enter Tryz.func10, Tryz.ntmps10
  go_wp2
  go_loopw [3, 4] (fun s i wr => ∃ k : Nat, k ≤ l.length ∧ i = .int .i64 k ∧ s = .string (strOfNums ((l.take k).map At.sign)) ∧ Below w.heap.size w wr) (fun _ i _ => l.length - (intOf i).toNat)
  case atStart => exact ⟨0, Nat.zero_le _, rfl, rfl, Below.refl _ _⟩
  case round =>
    obtain ⟨k, hk, rfl, rfl, hb⟩ := hrel
    by_cases hlt : k < l.length
    · rcases h.below hb (Nat.le_refl _) with hs | ⟨ab, ao, rfl, hab, hc⟩
      · simp [hs] at hlt
      obtain ⟨p, cp, c0, c1, c2, hst, hle, _⟩ := hc k hlt
      have hi1 : (k : Int) < l.length := by omega
      have HS : Hid (strOfNums ((l.take (k + 1)).map At.sign) = strOfNums ((l.take k).map At.sign) ++ strOfNums [l[k].sign]) := by
        show _ = _
        rw [List.take_succ_eq_append_getElem hlt, List.map_append, ← strOfNums_snoc]; rfl
      have hsz : (strOfNums ((l.take k).map At.sign)).size = k := by rw [strOfNums_size]; simp; omega
      have hsz1 : (strOfNums [l[k].sign]).size = 1 := by rw [strOfNums_size]; rfl
      generalize strOfNums ((l.take k).map At.sign) = sk at *
      have hcvk := hcv wr l[k].sign
      clear hc h hcv
      generalize l[k].sign = xk at *
      generalize strOfNums [xk] = sx at *
      go_wp2_with fail

      go_roundw
      case rel => exact ⟨k + 1, by omega, by go_num, by rw [HS.out], hb.alloc hb.size _⟩
      case measure => simp [intOf]; omega
    · have hkl : k = l.length := by omega
      subst hkl
      rw [List.take_length]
      go_wp2
      go_ret
      exact ⟨rfl, hb⟩
end Go.Proofs.YtnhjebdlcbhkcacGreat

namespace Go.Proofs.YtnhjebdlcbhkcacGreat

theorem ba_ext {a b : ByteArray} (h : a.data.toList = b.data.toList) : a = b := by
  cases a; cases b
  congr
  exact Array.toList_inj.1 h

theorem nums_list (xs : List Int) : (strOfNums xs).data.toList = xs.map fun n => UInt8.ofNat n.toNat := rfl

theorem ba_append_list (a b : ByteArray) : (a ++ b).data.toList = a.data.toList ++ b.data.toList := by simp
theorem ba_extract_list (t : ByteArray) (a b : Nat) : (t.extract a b).data.toList = (t.data.toList.take b).drop a := by
  rw [ByteArray.data_extract]
  simp [List.extract_eq_take_drop, List.drop_take]

theorem nums_append (xs ys : List Int) : strOfNums (xs ++ ys) = strOfNums xs ++ strOfNums ys := by
  apply ba_ext; rw [ba_append_list]; simp [nums_list]

theorem nums_left (xs : List Int) (n : Nat) : (strOfNums xs).extract 0 n = strOfNums (xs.take n) := by
  apply ba_ext; rw [ba_extract_list, nums_list, nums_list]; simp [List.map_take]

theorem nums_right (xs : List Int) (n : Nat) : (strOfNums xs).extract n (strOfNums xs).size = strOfNums (xs.drop n) := by
  apply ba_ext
  rw [ba_extract_list, nums_list, nums_list]
  rw [show (strOfNums xs).size = (xs.map fun n => UInt8.ofNat n.toNat).length by simp [strOfNums_size]]
  rw [List.take_length, List.map_drop]

theorem nums_of {xs : List Int} {t : ByteArray} (hl : xs.length = t.size) (h : ∀ i (h : i < xs.length), xs[i] = ((t.data.toList.getD i 0).toNat : Int)) : strOfNums xs = t := by
  apply ba_ext
  rw [nums_list]
  refine List.ext_getElem (by simp [hl]) fun i h1 h2 => ?_
  have hi : i < xs.length := by simpa using h1
  rw [List.getElem_map, h i hi, List.getD_eq_getElem?_getD, List.getElem?_eq_getElem h2]
  simp

/-- a text put into another one -/
theorem txt_put {l ax : List At} {t : ByteArray} (n : Nat) (hl : ax.length = t.size) (h : ∀ i (h : i < ax.length), ax[i].sign = ((t.data.toList.getD i 0).toNat : Int)) :
    strOfNums ((l.take n ++ (ax ++ l.drop n)).map At.sign) = (strOfNums (l.map At.sign)).extract 0 n ++ t ++ (strOfNums (l.map At.sign)).extract n (strOfNums (l.map At.sign)).size := by
  rw [nums_left, nums_right, List.map_append, List.map_append, nums_append, nums_append, List.map_take, List.map_drop]
  rw [nums_of (xs := ax.map At.sign) (t := t) (by simpa using hl) (fun i hi => by rw [List.getElem_map]; exact h i (by simpa using hi))]
  apply ba_ext
  simp only [ba_append_list, List.append_assoc]

theorem txt_cut (l : List At) (n m : Nat) :
    strOfNums ((l.take n ++ l.drop (n + m)).map At.sign) = (strOfNums (l.map At.sign)).extract 0 n ++ (strOfNums (l.map At.sign)).extract (n + m) (strOfNums (l.map At.sign)).size := by
  rw [nums_left, nums_right, List.map_append, nums_append, List.map_take, List.map_drop]
end Go.Proofs.YtnhjebdlcbhkcacGreat
