/- Pure: how far the beginnings of two texts are apart. -/
import Derived.Test.YtnhjebdlcbhkcadDTab
namespace Go.Proofs.Ytnhjebdlcbhkcad

/-- how far the first i signs of one text and the first k of the other are apart -/
def fr (a b : ByteArray) (i k : Nat) : Nat := far (a.data.toList.take i).reverse (b.data.toList.take k).reverse

theorem take_at (a : ByteArray) (i : Nat) (h : i < a.size) : (a.data.toList.take (i + 1)).reverse = a[i] :: (a.data.toList.take i).reverse := by
  have h' : i < a.data.toList.length := by simpa using h
  rw [List.take_succ_eq_append_getElem h', List.reverse_append]; rfl
theorem fr_left (a b : ByteArray) (k : Nat) (h : k ≤ b.size) : fr a b 0 k = k := by
  unfold fr; rw [List.take_zero, List.reverse_nil, far_nil, List.length_reverse, List.length_take]
  have : b.data.toList.length = b.size := by simp
  omega
theorem fr_right (a b : ByteArray) (i : Nat) (h : i ≤ a.size) : fr a b i 0 = i := by
  unfold fr; rw [List.take_zero, List.reverse_nil, far_nil', List.length_reverse, List.length_take]
  have : a.data.toList.length = a.size := by simp
  omega
theorem fr_same (a b : ByteArray) (i k : Nat) (hi : i < a.size) (hk : k < b.size) (h : a[i] = b[k]) : fr a b (i + 1) (k + 1) = fr a b i k := by
  unfold fr; rw [take_at a i hi, take_at b k hk, h, far_same]
theorem fr_other (a b : ByteArray) (i k : Nat) (hi : i < a.size) (hk : k < b.size) (h : a[i] ≠ b[k]) : fr a b (i + 1) (k + 1) = min (fr a b i (k + 1)) (fr a b (i + 1) k) + 1 := by
  have e1 := take_at a i hi
  have e2 := take_at b k hk
  unfold fr
  rw [e1, e2, far_other h]
theorem fr_full (a b : ByteArray) : fr a b a.size b.size = far a.data.toList b.data.toList := by
  unfold fr
  rw [List.take_of_length_le (by simp), List.take_of_length_le (by simp), far_reverse]
theorem fr_le (a b : ByteArray) (i k : Nat) : fr a b i k ≤ i + k := by
  unfold fr far
  have h1 : (a.data.toList.take i).reverse.length ≤ i := by rw [List.length_reverse, List.length_take]; omega
  have h2 : (b.data.toList.take k).reverse.length ≤ k := by rw [List.length_reverse, List.length_take]; omega
  omega
end Go.Proofs.Ytnhjebdlcbhkcad
