/- Pure: the text of a list of atoms, cut and joined. -/
import Derived.Test.YtnhjebdlcbhkcadCutPu
namespace Go.Proofs.Ytnhjebdlcbhkcad

theorem ba_ext {a b : ByteArray} (h : a.data.toList = b.data.toList) : a = b := by
  cases a; cases b
  congr
  exact Array.toList_inj.1 h

theorem nums_list (xs : List Int) : (strOfNums xs).data.toList = xs.map fun n => UInt8.ofNat n.toNat := rfl

theorem ba_append_list (a b : ByteArray) : (a ++ b).data.toList = a.data.toList ++ b.data.toList := by simp
theorem ba_extract_list (t : ByteArray) (a b : Nat) : (t.extract a b).data.toList = (t.data.toList.take b).drop a := by
  rw [ByteArray.data_extract]
  simp [List.extract_eq_take_drop, List.drop_take]

theorem nums_append (xs ys : List Int) : strOfNums (xs ++ ys) = strOfNums xs ++ strOfNums ys := by
  apply ba_ext; rw [ba_append_list]; simp [nums_list]

theorem nums_left (xs : List Int) (n : Nat) : (strOfNums xs).extract 0 n = strOfNums (xs.take n) := by
  apply ba_ext; rw [ba_extract_list, nums_list, nums_list]; simp [List.map_take]

theorem nums_right (xs : List Int) (n : Nat) : (strOfNums xs).extract n (strOfNums xs).size = strOfNums (xs.drop n) := by
  apply ba_ext
  rw [ba_extract_list, nums_list, nums_list]
  rw [show (strOfNums xs).size = (xs.map fun n => UInt8.ofNat n.toNat).length by simp [strOfNums_size]]
  rw [List.take_length, List.map_drop]

theorem nums_of {xs : List Int} {t : ByteArray} (hl : xs.length = t.size) (h : ∀ i (h : i < xs.length), xs[i] = ((t.data.toList.getD i 0).toNat : Int)) : strOfNums xs = t := by
  apply ba_ext
  rw [nums_list]
  refine List.ext_getElem (by simp [hl]) fun i h1 h2 => ?_
  have hi : i < xs.length := by simpa using h1
  rw [List.getElem_map, h i hi, List.getD_eq_getElem?_getD, List.getElem?_eq_getElem h2]
  simp

/-- a text put into another one -/
theorem txt_put {l ax : List At} {t : ByteArray} (n : Nat) (hl : ax.length = t.size) (h : ∀ i (h : i < ax.length), ax[i].sign = ((t.data.toList.getD i 0).toNat : Int)) :
    strOfNums ((l.take n ++ (ax ++ l.drop n)).map At.sign) = (strOfNums (l.map At.sign)).extract 0 n ++ t ++ (strOfNums (l.map At.sign)).extract n (strOfNums (l.map At.sign)).size := by
  rw [nums_left, nums_right, List.map_append, List.map_append, nums_append, nums_append, List.map_take, List.map_drop]
  rw [nums_of (xs := ax.map At.sign) (t := t) (by simpa using hl) (fun i hi => by rw [List.getElem_map]; exact h i (by simpa using hi))]
  apply ba_ext
  simp only [ba_append_list, List.append_assoc]

theorem txt_cut (l : List At) (n m : Nat) :
    strOfNums ((l.take n ++ l.drop (n + m)).map At.sign) = (strOfNums (l.map At.sign)).extract 0 n ++ (strOfNums (l.map At.sign)).extract (n + m) (strOfNums (l.map At.sign)).size := by
  rw [nums_left, nums_right, List.map_append, nums_append, List.map_take, List.map_drop]
end Go.Proofs.Ytnhjebdlcbhkcad
