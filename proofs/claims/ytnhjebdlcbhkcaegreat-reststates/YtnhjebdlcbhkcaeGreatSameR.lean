/- Pure: what Diff tells leads from one text to the other. -/
import Derived.Test.YtnhjebdlcbhkcaeGreatDiffX
import Derived.Test.YtnhjebdlcbhkcaeGreatEditP
import Derived.Test.YtnhjebdlcbhkcaeGreatRunsC
import Derived.Test.YtnhjebdlcbhkcaeGreatPutLe
namespace Go.Proofs.YtnhjebdlcbhkcaeGreat

def playE : ByteArray → List Ed → Int
  | _, [] => 0
  | s, x :: l => if plE s x = 0 then playE (plT s x) l else plE s x
def playT : ByteArray → List Ed → ByteArray
  | s, [] => s
  | s, x :: l => if plE s x = 0 then playT (plT s x) l else ⟨#[]⟩

theorem play_app : ∀ {l m : List Ed} {s : ByteArray}, playE s l = 0 → playE s (l ++ m) = playE (playT s l) m ∧ playT s (l ++ m) = playT (playT s l) m
  | [], _, _, _ => ⟨rfl, rfl⟩
  | x :: l, m, s, h => by
    by_cases e : plE s x = 0
    · have h' : playE (plT s x) l = 0 := by unfold playE at h; rwa [if_pos e] at h
      have ih := play_app (m := m) h'
      refine ⟨?_, ?_⟩
      · show (if plE s x = 0 then playE (plT s x) (l ++ m) else plE s x) = playE (if plE s x = 0 then playT (plT s x) l else ⟨#[]⟩) m
        rw [if_pos e, if_pos e]; exact ih.1
      · show (if plE s x = 0 then playT (plT s x) (l ++ m) else ⟨#[]⟩) = playT (if plE s x = 0 then playT (plT s x) l else ⟨#[]⟩) m
        rw [if_pos e, if_pos e]; exact ih.2
    · exfalso; unfold playE at h; rw [if_neg e] at h; exact e h

theorem size_list (s : ByteArray) : s.data.toList.length = s.size := by simp

theorem cut_step {s : ByteArray} {q n : Nat} (hs : s.size ≤ 300) (ha : allS s.data.toList = true) (hq : q + n ≤ s.size) : plE s (tkEd (q, n)) = 0 ∧ (plT s (tkEd (q, n))).data.toList = s.data.toList.take q ++ s.data.toList.drop (q + n) := by
  have hp : pieceB (q : Int) (n : Int) (s.size : Int) = true := by unfold pieceB; simp; omega
  have hE : takeE s (q : Int) (n : Int) ⟨#[]⟩ = 0 := takeE_ok rfl hp
  have h300 : ¬ 300 < s.size := by omega
  refine ⟨?_, ?_⟩
  · unfold plE tkEd
    rw [if_neg h300, if_neg (by rw [ha]; decide), if_neg (show ¬ ((2 : Int) = 1) by decide), if_pos rfl]
    exact hE
  · unfold plT tkEd
    rw [if_neg h300, if_neg (by rw [ha]; decide), if_neg (show ¬ ((2 : Int) = 1) by decide), if_pos rfl]
    unfold takeT
    rw [if_pos hE, ba_append_list, ba_extract_list, ba_extract_list, Int.toNat_natCast, Int.toNat_natCast, List.drop_zero]
    rw [← size_list s, List.take_length]

theorem put_step {s : ByteArray} {q : Nat} {t : List UInt8} (hs : s.size + t.length ≤ 300) (ha : allS s.data.toList = true) (ht : allS t = true) (hq : q ≤ s.size) : plE s (ptEd (q, t)) = 0 ∧ (plT s (ptEd (q, t))).data.toList = s.data.toList.take q ++ (t ++ s.data.toList.drop q) := by
  have hb : inB (q : Int) 0 (s.size : Int) = true := by unfold inB; simp; omega
  have hsz : (⟨t.toArray⟩ : ByteArray).size = t.length := by simp [ByteArray.size]
  have hE : putE s (q : Int) 0 ⟨t.toArray⟩ = 0 := putE_ok rfl hb ht (by rw [hsz]; omega)
  have h300 : ¬ 300 < s.size := by omega
  refine ⟨?_, ?_⟩
  · unfold plE ptEd
    rw [if_neg h300, if_neg (by rw [ha]; decide), if_pos rfl]
    exact hE
  · unfold plT ptEd
    rw [if_neg h300, if_neg (by rw [ha]; decide), if_pos rfl]
    unfold putT
    rw [if_pos hE, ba_append_list, ba_append_list, ba_extract_list, ba_extract_list, Int.toNat_natCast, List.drop_zero, List.append_assoc]
    rw [← size_list s, List.take_length]

theorem allS_app {l m : List UInt8} : allS (l ++ m) = (allS l && allS m) := by simp [allS]
theorem allS_sub {l m : List UInt8} (h : allS m = true) (hs : ∀ x ∈ l, x ∈ m) : allS l = true := by
  unfold allS at *
  rw [List.all_eq_true] at *
  exact fun x hx => h x (hs x hx)

theorem play_cuts : ∀ {R : List (Nat × Nat)} {s : ByteArray}, RUp s.size R → s.size ≤ 300 → allS s.data.toList = true → playE s (R.map tkEd) = 0 ∧ (playT s (R.map tkEd)).data.toList = cutsR s.data.toList R
  | [], s, _, _, _ => ⟨rfl, rfl⟩
  | (q, n) :: R, s, h, hs, ha => by
    obtain ⟨h1, h2, h3⟩ := h
    obtain ⟨e, t⟩ := cut_step (q := q) (n := n) hs ha h2
    have hsz : (plT s (tkEd (q, n))).size = s.size - n := by
      rw [← size_list, t]; simp; omega
    obtain ⟨i1, i2⟩ := play_cuts (R := R) (s := plT s (tkEd (q, n))) (h3.weak (by omega)) (by omega) (by
      rw [t]; exact allS_sub ha fun x hx => by
        rcases List.mem_append.1 hx with hx | hx
        · exact List.mem_of_mem_take hx
        · exact List.mem_of_mem_drop hx)
    refine ⟨?_, ?_⟩
    · show (if plE s (tkEd (q, n)) = 0 then playE (plT s (tkEd (q, n))) (R.map tkEd) else _) = 0
      rw [if_pos e]; exact i1
    · show (if plE s (tkEd (q, n)) = 0 then playT (plT s (tkEd (q, n))) (R.map tkEd) else _).data.toList = _
      rw [if_pos e, i2, t]; rfl

theorem allS_insR {s : List UInt8} (hs : allS s = true) : ∀ {R : List (Nat × List UInt8)}, (∀ g ∈ R, allS g.2 = true) → allS (insR s R) = true
  | [], _ => hs
  | (q, t) :: R, h => by
    have ih := allS_insR hs (R := R) fun g hg => h g (List.mem_cons_of_mem _ hg)
    show allS ((insR s R).take q ++ (t ++ (insR s R).drop q)) = true
    rw [allS_app, allS_app, h (q, t) (List.mem_cons_self ..), allS_sub ih fun x hx => List.mem_of_mem_take hx, allS_sub ih fun x hx => List.mem_of_mem_drop hx]
    rfl

theorem play_puts : ∀ {R : List (Nat × List UInt8)} {s : ByteArray}, GOk s.data.toList R → (∀ g ∈ R, allS g.2 = true) → (insR s.data.toList R).length ≤ 300 → allS s.data.toList = true → playE s (R.map ptEd).reverse = 0 ∧ (playT s (R.map ptEd).reverse).data.toList = insR s.data.toList R
  | [], s, _, _, _, _ => ⟨rfl, rfl⟩
  | (q, t) :: R, s, h, hg, hl, ha => by
    obtain ⟨h1, h2, h3, h4⟩ := h
    have hg' : ∀ g ∈ R, allS g.2 = true := fun g hg0 => hg g (List.mem_cons_of_mem _ hg0)
    have hll : (insR s.data.toList R).length + t.length ≤ 300 := by
      have e : insR s.data.toList ((q, t) :: R) = (insR s.data.toList R).take q ++ (t ++ (insR s.data.toList R).drop q) := rfl
      rw [e] at hl
      simp at hl
      omega
    obtain ⟨i1, i2⟩ := play_puts h4 hg' (by omega) ha
    have hp := play_app (m := [ptEd (q, t)]) i1
    have hsz : (playT s (R.map ptEd).reverse).size = (insR s.data.toList R).length := by rw [← size_list, i2]
    obtain ⟨e, t'⟩ := put_step (s := playT s (R.map ptEd).reverse) (q := q) (t := t) (by omega) (by rw [i2]; exact allS_insR ha hg') (hg (q, t) (List.mem_cons_self ..)) (by omega)
    rw [List.map_cons, List.reverse_cons, hp.1, hp.2]
    refine ⟨?_, ?_⟩
    · show (if plE _ (ptEd (q, t)) = 0 then playE _ [] else _) = 0
      rw [if_pos e]; rfl
    · show (if plE _ (ptEd (q, t)) = 0 then playT _ [] else _).data.toList = _
      rw [if_pos e]
      show (plT _ (ptEd (q, t))).data.toList = _
      rw [t', i2]; rfl

theorem mem_without : ∀ {a : List UInt8} {i : Nat} {l : List Nat} {x : UInt8}, x ∈ without a i l → x ∈ a
  | [], _, _, _, h => h
  | y :: a, i, l, x, h => by
    unfold without at h
    split at h
    · exact List.mem_cons_of_mem _ (mem_without h)
    · rcases List.mem_cons.1 h with rfl | h
      · exact List.mem_cons_self ..
      · exact List.mem_cons_of_mem _ (mem_without h)

theorem puts_signs {b : ByteArray} (hb : allS b.data.toList = true) : ∀ {P : List Nat} {R : List (Nat × List UInt8)}, (∀ p ∈ P, p < b.size) → (∀ g ∈ R, allS g.2 = true) → ∀ g ∈ P.foldl (ptB b) R, allS g.2 = true
  | [], _, _, h => h
  | p :: P, R, hp, h => by
    rw [List.foldl_cons]
    refine puts_signs hb (fun q hq => hp q (List.mem_cons_of_mem _ hq)) ?_
    have hc : allS [b.data.toList.getD p 0] = true := by
      have h' : p < b.data.toList.length := by rw [size_list]; exact hp p (List.mem_cons_self ..)
      rw [List.getD_eq_getElem?_getD, List.getElem?_eq_getElem h']
      exact allS_sub hb fun x hx => by
        rw [List.mem_singleton] at hx
        subst hx
        exact List.getElem_mem h'
    unfold ptB
    rcases R with _ | ⟨⟨q, t⟩, R⟩
    · intro g hg
      rw [show g = (p, [b.data.toList.getD p 0]) by simpa [ptR] using hg]
      exact hc
    · rw [ptR_cons]
      split
      · intro g hg
        rcases List.mem_cons.1 hg with rfl | hg
        · show allS (t ++ _) = true
          rw [allS_app, h (q, t) (List.mem_cons_self ..), hc]; rfl
        · exact h g (List.mem_cons_of_mem _ hg)
      · intro g hg
        rcases List.mem_cons.1 hg with rfl | hg
        · exact hc
        · exact h g hg

theorem diff_leads {a b : ByteArray} (h : diffE a b = 0) : playE a (diffL a b) = 0 ∧ playT a (diffL a b) = b := by
  obtain ⟨ha, hb, sa, sb⟩ := diffE_zero h
  obtain ⟨u1, u2⟩ := walkT_up a.data.toList b.data.toList 0 0
  have hk := walkT_keep a.data.toList b.data.toList 0 0
  have hT : diffT a b = (walkT a.data.toList b.data.toList 0 0).1.foldl tkR [] := rfl
  have hP : diffP a b = (walkT a.data.toList b.data.toList 0 0).2.foldl (ptB b) [] := rfl
  rw [Nat.zero_add] at u1 u2
  generalize (walkT a.data.toList b.data.toList 0 0).1 = T at *
  generalize (walkT a.data.toList b.data.toList 0 0).2 = P at *
  have hR : RUp a.size (diffT a b) := by
    rw [hT, ← size_list]
    exact tkAll_up u1 trivial
  obtain ⟨c1, c2⟩ := play_cuts hR ha sa
  have c3 : cutsR a.data.toList (diffT a b) = without b.data.toList 0 P := by rw [hT, cuts_all rfl u1, hk]
  have hp := puts_all (n := P.length) (b := b.data.toList) (P := P) (P' := []) rfl (by rw [List.append_nil]; exact u2)
  rw [List.append_nil, without_none] at hp
  have hp' : GOk (without b.data.toList 0 P) (diffP a b) ∧ insR (without b.data.toList 0 P) (diffP a b) = b.data.toList := by rw [hP]; exact hp
  rw [← c3, ← c2] at hp'
  have hs : ∀ g ∈ diffP a b, allS g.2 = true := by
    rw [hP]
    exact puts_signs sb (fun p hpm => by have := (mem_up u2 hpm).2; rwa [size_list] at this) (by simp)
  obtain ⟨d1, d2⟩ := play_puts hp'.1 hs (by rw [hp'.2, size_list]; exact hb) (by rw [c2, c3]; exact allS_sub sb fun x hx => mem_without hx)
  have hpa := play_app (m := ((diffP a b).map ptEd).reverse) c1
  unfold diffL
  rw [hpa.1, hpa.2]
  exact ⟨d1, ba_ext (by rw [d2, hp'.2])⟩
end Go.Proofs.YtnhjebdlcbhkcaeGreat

namespace Go.Proofs.YtnhjebdlcbhkcaeGreat
open Go.RowKit

set_option maxRecDepth 100000 in
set_option maxHeartbeats 4000000 in
theorem plain_any (s t : ByteArray) (kind n many : Int) (w : World) (hs : s.size ≤ 4611686018427387904) (ht : t.size ≤ 4611686018427387904) (hmn : many ≤ 9223372036854775807) :
    Calls Tryz.prog 56 #[.string s, .agg #[.int .i64 kind, .int .i64 n, .int .i64 many, .string t]] w fun e w' => e = .returned (.tuple #[.string (plT s ⟨kind, n, many, t⟩), .int .i64 (plE s ⟨kind, n, many, t⟩)]) ∧ Below w.heap.size w w' := by
  have hB := (Below.refl w.heap.size w).alloc (Nat.le_refl _) (Obj.cells #[.int .i64 kind, .int .i64 n, .int .i64 many, .string t] 66)
  have q0 : (w.alloc (Obj.cells #[.int .i64 kind, .int .i64 n, .int .i64 many, .string t] 66)).cell? ⟨w.heap.size, 0, none⟩ = some (.int .i64 kind) := by simp
  have q1 : (w.alloc (Obj.cells #[.int .i64 kind, .int .i64 n, .int .i64 many, .string t] 66)).cell? ⟨w.heap.size, 1, none⟩ = some (.int .i64 n) := by simp
  have q2 : (w.alloc (Obj.cells #[.int .i64 kind, .int .i64 n, .int .i64 many, .string t] 66)).cell? ⟨w.heap.size, 2, none⟩ = some (.int .i64 many) := by simp
  have q3 : (w.alloc (Obj.cells #[.int .i64 kind, .int .i64 n, .int .i64 many, .string t] 66)).cell? ⟨w.heap.size, 3, none⟩ = some (.string t) := by simp
  have z : w.heap.size < (w.alloc (Obj.cells #[.int .i64 kind, .int .i64 n, .int .i64 many, .string t] 66)).heap.size := by simp
  go_enter Tryz.func56, Tryz.ntmps56
  go_upto_region 1 with fail
  generalize w.alloc (Obj.cells #[.int .i64 kind, .int .i64 n, .int .i64 many, .string t] 66) = W at hB q0 q1 q2 q3 z ⊢
  have hsL : s.size ≤ maxLen := by unfold maxLen; omega
  by_cases h300 : (s.size : Int) > 300
  · have HE : Hid (plE s ⟨kind, n, many, t⟩ = 2) := by show _ = _; unfold plE; rw [if_pos (by omega)]
    have HT : Hid (plT s ⟨kind, n, many, t⟩ = ⟨#[]⟩) := by show _ = _; unfold plT; rw [if_pos (by omega)]
    go_wp2_with fail
    go_ret2
    exact ⟨by rw [HE.out, HT.out]; rfl, hB⟩
  cases hsg : allS s.data.toList
  · have HE : Hid (plE s ⟨kind, n, many, t⟩ = 3) := by show _ = _; unfold plE; rw [if_neg (by omega), if_pos hsg]
    have HT : Hid (plT s ⟨kind, n, many, t⟩ = ⟨#[]⟩) := by show _ = _; unfold plT; rw [if_neg (by omega), if_pos hsg]
    have H0 := hidE hsg
    clear hsg
    go_wp2_with (go_at_call 88; refine (signAll_any s _ hsL).mono ?_; rintro e w' ⟨rfl, hw⟩; replace hw := hw.symm; subst hw; rw [H0.out])
    go_ret2
    exact ⟨by rw [HE.out, HT.out]; rfl, hB⟩
  have HE1 : Hid (plE s ⟨kind, n, many, t⟩ = if kind = 1 then putE s n many t else if kind = 2 then takeE s n many t else 7) := by show _ = _; unfold plE; rw [if_neg (by omega), if_neg (by rw [hsg]; decide)]
  have HT1 : Hid (plT s ⟨kind, n, many, t⟩ = if kind = 1 then putT s n many t else if kind = 2 then takeT s n many t else ⟨#[]⟩) := by show _ = _; unfold plT; rw [if_neg (by omega), if_neg (by rw [hsg]; decide)]
  have H0 := hidE hsg
  clear hsg
  by_cases hk1 : kind = 1
  · have HE : Hid (plE s ⟨kind, n, many, t⟩ = putE s n many t) := by show _ = _; rw [HE1.out, if_pos hk1]
    have HT : Hid (plT s ⟨kind, n, many, t⟩ = putT s n many t) := by show _ = _; rw [HT1.out, if_pos hk1]
    have HC := hidE (plainPut_any s t kind n many W (by omega) ht)
    subst hk1
    clear HE1 HT1
    go_wp2_with (first | (go_at_call 88; refine (signAll_any s _ hsL).mono ?_; rintro e w' ⟨rfl, hw⟩; replace hw := hw.symm; subst hw; rw [H0.out]) | (go_at_call 137; refine HC.out.mono ?_; rintro e w2 ⟨rfl, hb⟩))
    go_ret2
    exact ⟨by rw [HE.out, HT.out]; rfl, hB.thru hb (Nat.le_of_lt z)⟩
  have hb1 : (kind == 1) = false := by rw [beq_eq_false_iff_ne]; exact hk1
  by_cases hk2 : kind = 2
  · have HE : Hid (plE s ⟨kind, n, many, t⟩ = takeE s n many t) := by show _ = _; rw [HE1.out, if_neg hk1, if_pos hk2]
    have HT : Hid (plT s ⟨kind, n, many, t⟩ = takeT s n many t) := by show _ = _; rw [HT1.out, if_neg hk1, if_pos hk2]
    have HC := hidE (plainTake_any s t kind n many W (by omega) hmn)
    subst hk2
    clear HE1 HT1 hk1
    go_wp2_with (first | (go_at_call 88; refine (signAll_any s _ hsL).mono ?_; rintro e w' ⟨rfl, hw⟩; replace hw := hw.symm; subst hw; rw [H0.out]) | (go_at_call 138; refine HC.out.mono ?_; rintro e w2 ⟨rfl, hb⟩))
    go_ret2
    exact ⟨by rw [HE.out, HT.out]; rfl, hB.thru hb (Nat.le_of_lt z)⟩
  have hb2 : (kind == 2) = false := by rw [beq_eq_false_iff_ne]; exact hk2
  have HE : Hid (plE s ⟨kind, n, many, t⟩ = 7) := by show _ = _; rw [HE1.out, if_neg hk1, if_neg hk2]
  have HT : Hid (plT s ⟨kind, n, many, t⟩ = ⟨#[]⟩) := by show _ = _; rw [HT1.out, if_neg hk1, if_neg hk2]
  clear HE1 HT1 hk1 hk2
  go_wp2_with (go_at_call 88; refine (signAll_any s _ hsL).mono ?_; rintro e w' ⟨rfl, hw⟩; replace hw := hw.symm; subst hw; rw [H0.out])
  go_ret2
  exact ⟨by rw [HE.out, HT.out]; rfl, hB⟩
end Go.Proofs.YtnhjebdlcbhkcaeGreat

namespace Go.Proofs.YtnhjebdlcbhkcaeGreat
open Go.RowKit

end Go.Proofs.YtnhjebdlcbhkcaeGreat

namespace Go.Proofs.YtnhjebdlcbhkcaeGreat
open Go.RowKit

def RowEd (w : World) (a : Option Addr) (l : List Ed) : Prop :=
  l = [] ∨ ∃ b off, a = some ⟨b, off, none⟩ ∧ b < w.heap.size ∧ ∀ i (_ : i < l.length), w.cell? ⟨b, off + i * 4, none⟩ = some (.int .i64 l[i].kind) ∧ w.cell? ⟨b, off + i * 4 + 1, none⟩ = some (.int .i64 l[i].at') ∧ w.cell? ⟨b, off + i * 4 + 2, none⟩ = some (.int .i64 l[i].many) ∧ w.cell? ⟨b, off + i * 4 + 3, none⟩ = some (.string l[i].text)
theorem RowEd.below {w w' : World} {a : Option Addr} {l : List Ed} {B : Nat} (h : RowEd w a l) (hb : Below B w w') (hB : w.heap.size ≤ B) : RowEd w' a l := by
  rcases h with h | ⟨b, off, e, hl, hc⟩
  · exact Or.inl h
  · have hk : b < B := Nat.lt_of_lt_of_le hl hB
    refine Or.inr ⟨b, off, e, Nat.lt_of_lt_of_le hl hb.size, fun i hi => ?_⟩
    obtain ⟨h0, h1, h2, h3⟩ := hc i hi
    exact ⟨(hb.cell (p := ⟨b, _, none⟩) hk).trans h0, (hb.cell (p := ⟨b, _, none⟩) hk).trans h1, (hb.cell (p := ⟨b, _, none⟩) hk).trans h2, (hb.cell (p := ⟨b, _, none⟩) hk).trans h3⟩

theorem plT_size {s : ByteArray} {e : Ed} (h : plE s e = 0) : (plT s e).size ≤ 300 := by
  unfold plE at h
  unfold plT
  split at h
  · cases h
  rename_i h1
  rw [if_neg h1]
  split at h
  · cases h
  rename_i h2
  rw [if_neg h2]
  split at h
  · rename_i h3
    rw [if_pos h3]
    have hE := h
    unfold putE at h
    unfold putT
    rw [if_pos hE]
    split at h
    · cases h
    split at h
    · cases h
    split at h
    · cases h
    split at h
    · cases h
    rename_i h4
    simp only [ByteArray.size_append, ByteArray.size_extract]
    omega
  · rename_i h3
    rw [if_neg h3]
    split at h
    · rename_i h4
      rw [if_pos h4]
      unfold takeT
      rw [if_pos h]
      simp only [ByteArray.size_append, ByteArray.size_extract]
      omega
    · cases h

theorem play_cons {s : ByteArray} {x : Ed} {l : List Ed} : playE s (x :: l) = (if plE s x = 0 then playE (plT s x) l else plE s x) ∧ playT s (x :: l) = (if plE s x = 0 then playT (plT s x) l else ⟨#[]⟩) := ⟨rfl, rfl⟩

set_option maxRecDepth 100000 in
set_option maxHeartbeats 1000000 in
theorem play_any (s : ByteArray) (a : Option Addr) (cap : Nat) (l : List Ed) (w : World) (h : RowEd w a l) (hl : l.length ≤ maxLen) (hs : s.size ≤ 4611686018427387904) (ht : ∀ x ∈ l, x.text.size ≤ 4611686018427387904 ∧ x.many ≤ 9223372036854775807) :
    Calls Tryz.prog 63 #[.string s, .slice a l.length cap] w fun e w' => e = .returned (.tuple #[.string (playT s l), .int .i64 (playE s l)]) ∧ Below w.heap.size w w' := by
  unfold maxLen at hl
  go_enter Tryz.func63, Tryz.ntmps63
  go_wp2
  go_loopw [11, 0] (fun i v wr => ∃ k : Nat, k ≤ l.length ∧ i = .int .i64 k ∧ ∃ t, v = .string t ∧ t.size ≤ 4611686018427387904 ∧ playE s l = playE t (l.drop k) ∧ playT s l = playT t (l.drop k) ∧ Below w.heap.size w wr) (fun i _ _ => l.length - (intOf i).toNat)
  case atStart => exact ⟨0, Nat.zero_le _, rfl, s, rfl, hs, rfl, rfl, Below.refl _ _⟩
  case round =>
    obtain ⟨k, hk, rfl, t, rfl, hts, hE, hT, hb⟩ := hrel
    by_cases hlt : k < l.length
    · rcases h.below hb (Nat.le_refl _) with hz | ⟨ab, ao, rfl, hab, hc⟩
      · simp [hz] at hlt
      obtain ⟨c0, c1, c2, c3⟩ := hc k hlt
      have hi1 : (k : Int) < l.length := by omega
      obtain ⟨hx1, hx2⟩ := ht l[k] (List.getElem_mem hlt)
      rw [List.drop_eq_getElem_cons hlt, play_cons.1] at hE
      rw [List.drop_eq_getElem_cons hlt, play_cons.2] at hT
      have HC := hidE (fun w0 => plain_any t l[k].text l[k].kind l[k].at' l[k].many w0 hts hx1 hx2)
      have HS := hidE (@plT_size t l[k])
      have HE := hidE hE
      have HT := hidE hT
      clear hc h hE hT hx1 hx2 ht
      generalize l[k] = x at *
      obtain ⟨kind, n, many, tx⟩ := x
      have HB := hidE hb
      clear hb
      cases hz : decide (plE t ⟨kind, n, many, tx⟩ = 0)
      · have hz' := of_decide_eq_false hz
        have HE2 : Hid (playE s l = plE t ⟨kind, n, many, tx⟩) := hidE (HE.out.trans (if_neg hz'))
        have HT2 : Hid (playT s l = ⟨#[]⟩) := hidE (HT.out.trans (if_neg hz'))
        clear HE HT HS hz
        generalize plE t ⟨kind, n, many, tx⟩ = pe at *
        generalize plT t ⟨kind, n, many, tx⟩ = pt at *
        have HB3 : Hid (Below w.heap.size w (wr.alloc (Obj.cells #[.int .i64 kind, .int .i64 n, .int .i64 many, .string tx] 66))) := hidE (HB.out.alloc HB.out.size _)
        go_wp2_with (go_at_call 56; refine (HC.out _).mono ?_; rintro e w2 ⟨rfl, hb2⟩)
        go_ret2
        exact ⟨by rw [HE2.out, HT2.out]; rfl, HB3.out.trans (hb2.mono HB3.out.size)⟩
      · have hz' := of_decide_eq_true hz
        have HE2 : Hid (playE s l = playE (plT t ⟨kind, n, many, tx⟩) (l.drop (k + 1))) := hidE (HE.out.trans (if_pos hz'))
        have HT2 : Hid (playT s l = playT (plT t ⟨kind, n, many, tx⟩) (l.drop (k + 1))) := hidE (HT.out.trans (if_pos hz'))
        have HSz := hidE (Nat.le_trans (HS.out hz') (by decide : 300 ≤ 4611686018427387904))
        rw [hz'] at HC
        clear HE HT HS hz hz'
        generalize plT t ⟨kind, n, many, tx⟩ = pt at *
        have HB3 : Hid (Below w.heap.size w (wr.alloc (Obj.cells #[.int .i64 kind, .int .i64 n, .int .i64 many, .string tx] 66))) := hidE (HB.out.alloc HB.out.size _)
        go_wp2_with (go_at_call 56; refine (HC.out _).mono ?_; rintro e w2 ⟨rfl, hb2⟩)
        go_roundw
        case rel => exact ⟨k + 1, by omega, by go_num, pt, rfl, HSz.out, HE2.out, HT2.out, HB3.out.trans (hb2.mono HB3.out.size)⟩
        case measure => simp [intOf]; omega
    · have hkl : k = l.length := by omega
      subst hkl
      rw [List.drop_length] at hE hT
      have HE := hidE hE
      have HT := hidE hT
      clear hE hT
      go_wp2
      go_ret2
      exact ⟨by rw [HE.out, HT.out]; rfl, hb⟩

end Go.Proofs.YtnhjebdlcbhkcaeGreat

namespace Go.Proofs.YtnhjebdlcbhkcaeGreat
open Go.RowKit

theorem flatE_cell {l : List Ed} {i c : Nat} (hi : i < l.length) (hc : c < 4) : (flatE l)[i * 4 + c]? = (edCells l[i])[c]? := by
  rw [flatE_at l (i * 4 + c) (by omega), show (i * 4 + c) / 4 = i by omega, show (i * 4 + c) % 4 = c by omega]
  have e : l.toArray[i]! = l[i] := by rw [getElem!_pos _ _ (by simpa using hi)]; simp
  rw [e]
  rcases (show c = 0 ∨ c = 1 ∨ c = 2 ∨ c = 3 by omega) with rfl | rfl | rfl | rfl <;> rfl

theorem EdsAt.row {w : World} {p : Option Addr} {c : Nat} {l : List Ed} (h : EdsAt w p c l) : RowEd w p l := by
  rcases h with ⟨_, h, _⟩ | ⟨g, e, hg, hc⟩
  · exact Or.inl h
  · refine Or.inr ⟨g, 0, e, hg, fun i hi => ?_⟩
    have h0 := hc (i * 4 + 0) _ (flatE_cell hi (by decide) (c := 0))
    have h1 := hc (i * 4 + 1) _ (flatE_cell hi (by decide) (c := 1))
    have h2 := hc (i * 4 + 2) _ (flatE_cell hi (by decide) (c := 2))
    have h3 := hc (i * 4 + 3) _ (flatE_cell hi (by decide) (c := 3))
    rw [Nat.zero_add]
    exact ⟨h0, h1, h2, h3⟩

def cntE (x : Ed) : Int := (if 0 < x.many ∧ x.many ≤ 300 then x.many else 0) + x.text.size
def manyL (l : List Ed) : Int := (l.map cntE).sum
theorem manyL_snoc (l : List Ed) (x : Ed) : manyL (l ++ [x]) = manyL l + cntE x := by simp [manyL]
theorem manyL_le : ∀ {l : List Ed}, (∀ x ∈ l, 0 ≤ cntE x ∧ cntE x ≤ 300) → 0 ≤ manyL l ∧ manyL l ≤ 300 * l.length
  | [], _ => by simp [manyL]
  | x :: l, h => by
    have ih := manyL_le (l := l) fun y hy => h y (List.mem_cons_of_mem _ hy)
    have hx := h x (List.mem_cons_self ..)
    have e : manyL (x :: l) = cntE x + manyL l := by simp [manyL]
    rw [e, List.length_cons]
    omega

set_option maxRecDepth 100000 in
set_option maxHeartbeats 1000000 in
theorem many_any (a : Option Addr) (cap : Nat) (l : List Ed) (w : World) (h : RowEd w a l) (hl : l.length ≤ 2000) (hs : ∀ x ∈ l, 0 ≤ cntE x ∧ cntE x ≤ 300) :
    Calls Tryz.prog 64 #[.slice a l.length cap] w fun e w' => e = .returned (.int .i64 (manyL l)) ∧ Below w.heap.size w w' := by
  go_enter Tryz.func64, Tryz.ntmps64
  go_wp2
  go_loopw [3, 4] (fun v i wr => ∃ k : Nat, k ≤ l.length ∧ i = .int .i64 k ∧ v = .int .i64 (manyL (l.take k)) ∧ Below w.heap.size w wr) (fun _ i _ => l.length - (intOf i).toNat)
  case atStart => exact ⟨0, Nat.zero_le _, rfl, rfl, Below.refl _ _⟩
  case round =>
    obtain ⟨k, hk, rfl, rfl, hb⟩ := hrel
    by_cases hlt : k < l.length
    · rcases h.below hb (Nat.le_refl _) with hz | ⟨ab, ao, rfl, hab, hc⟩
      · simp [hz] at hlt
      obtain ⟨c0, c1, c2, c3⟩ := hc k hlt
      have hi1 : (k : Int) < l.length := by omega
      have hbk : 0 ≤ manyL (l.take k) ∧ manyL (l.take k) ≤ 600000 := by
        have := manyL_le (l := l.take k) fun x hx => hs x (List.mem_of_mem_take hx)
        have : (l.take k).length ≤ 2000 := by rw [List.length_take]; omega
        omega
      have hx := hs l[k] (List.getElem_mem hlt)
      have HS : Hid (manyL (l.take (k + 1)) = manyL (l.take k) + cntE l[k]) := by
        show _ = _
        rw [List.take_succ_eq_append_getElem hlt, manyL_snoc]
      have HB := hidE hb
      clear hc h hs hb c0 c1
      generalize l[k] = x at *
      obtain ⟨kind, n, many, tx⟩ := x
      generalize manyL (l.take k) = sk at *
      unfold cntE at HS hx
      by_cases hm : 0 < many ∧ many ≤ 300
      · rw [if_pos hm] at HS hx
        replace HS : Hid (manyL (l.take (k + 1)) = sk + many + (tx.size : Int)) := hidE (HS.out.trans (Int.add_assoc ..).symm)
        replace hx : 0 ≤ many + (tx.size : Int) ∧ many + (tx.size : Int) ≤ 300 := hx
        obtain ⟨m1, m2⟩ := hm
        have hwr : IntKind.i64.wrap (sk + many) = sk + many := by rw [IntKind.wrap_i64] <;> omega
        have hwr2 : IntKind.i64.wrap (sk + many + (tx.size : Int)) = sk + many + (tx.size : Int) := by rw [IntKind.wrap_i64] <;> omega
        have m1' : decide (many > 0) = true := decide_eq_true m1
        have m2' : decide (many ≤ 300) = true := decide_eq_true m2
        go_wp2_with fail
        go_roundw
        case rel => exact ⟨k + 1, by omega, by go_num, by rw [HS.out], HB.out⟩
        case measure => simp [intOf]; omega
      · rw [if_neg hm] at HS hx
        replace HS : Hid (manyL (l.take (k + 1)) = sk + (tx.size : Int)) := hidE (HS.out.trans (by rw [Int.zero_add]))
        replace hx : 0 ≤ (tx.size : Int) ∧ (tx.size : Int) ≤ 300 := by rw [Int.zero_add] at hx; exact hx
        have hwr : IntKind.i64.wrap (sk + (tx.size : Int)) = sk + (tx.size : Int) := by rw [IntKind.wrap_i64] <;> omega
        by_cases m1 : many > 0
        · have m2 : ¬ many ≤ 300 := fun e => hm ⟨m1, e⟩
          clear hm
          have m1' : decide (many > 0) = true := decide_eq_true m1
          have m2' : decide (many ≤ 300) = false := decide_eq_false m2
          go_wp2_with fail
          go_roundw
          case rel => exact ⟨k + 1, by omega, by go_num, by rw [HS.out], HB.out⟩
          case measure => simp [intOf]; omega
        · clear hm
          have m1' : decide (many > 0) = false := decide_eq_false m1
          go_wp2_with fail
          go_roundw
          case rel => exact ⟨k + 1, by omega, by go_num, by rw [HS.out], HB.out⟩
          case measure => simp [intOf]; omega
    · have hkl : k = l.length := by omega
      subst hkl
      rw [List.take_length]
      go_wp2
      go_ret
      exact ⟨rfl, hb⟩
end Go.Proofs.YtnhjebdlcbhkcaeGreat

namespace Go.Proofs.YtnhjebdlcbhkcaeGreat

theorem RUp.each : ∀ {R : List (Nat × Nat)} {hi : Nat}, RUp hi R → ∀ g ∈ R, 1 ≤ g.2 ∧ g.2 ≤ hi
  | [], _, _, g, hg => by simp at hg
  | (q, n) :: R, hi, h, g, hg => by
    obtain ⟨h1, h2, h3⟩ := h
    rcases List.mem_cons.1 hg with rfl | hg
    · exact ⟨h1, by show n ≤ hi; omega⟩
    · have := RUp.each h3 g hg
      exact ⟨this.1, by omega⟩
theorem RUp.len : ∀ {R : List (Nat × Nat)} {hi : Nat}, RUp hi R → R.length ≤ hi
  | [], _, _ => Nat.zero_le _
  | (q, n) :: R, hi, h => by
    obtain ⟨h1, h2, h3⟩ := h
    have := h3.len
    rw [List.length_cons]; omega
theorem GOk.each {s : List UInt8} : ∀ {R : List (Nat × List UInt8)}, GOk s R → ∀ g ∈ R, 0 < g.2.length ∧ g.2.length ≤ 60
  | [], _, g, hg => by simp at hg
  | (q, t) :: R, h, g, hg => by
    rcases List.mem_cons.1 hg with rfl | hg
    · exact ⟨h.2.1, h.2.2.1⟩
    · exact GOk.each h.2.2.2 g hg

theorem manyL_append (l m : List Ed) : manyL (l ++ m) = manyL l + manyL m := by simp [manyL]
theorem manyL_reverse : ∀ (l : List Ed), manyL l.reverse = manyL l
  | [] => rfl
  | x :: l => by rw [List.reverse_cons, manyL_append, manyL_reverse l]; simp [manyL]; omega

theorem cnt_tk {g : Nat × Nat} (h : 1 ≤ g.2 ∧ g.2 ≤ 300) : cntE (tkEd g) = (g.2 : Int) := by
  unfold cntE tkEd
  rw [if_pos ⟨by show (0 : Int) < (g.2 : Int); omega, by show (g.2 : Int) ≤ 300; omega⟩]
  show (g.2 : Int) + ((0 : Nat) : Int) = _
  omega
theorem pt_size (t : List UInt8) : (⟨t.toArray⟩ : ByteArray).size = t.length := by simp [ByteArray.size]
theorem cnt_pt (g : Nat × List UInt8) : cntE (ptEd g) = (g.2.length : Int) := by
  unfold cntE ptEd
  rw [if_neg (by show ¬ ((0 : Int) < 0 ∧ (0 : Int) ≤ 300); omega)]
  show (0 : Int) + ((⟨g.2.toArray⟩ : ByteArray).size : Int) = _
  rw [pt_size]; omega

theorem many_tk : ∀ {R : List (Nat × Nat)}, (∀ g ∈ R, 1 ≤ g.2 ∧ g.2 ≤ 300) → manyL (R.map tkEd) = ((R.map Prod.snd).sum : Nat)
  | [], _ => rfl
  | g :: R, h => by
    have ih := many_tk (R := R) fun x hx => h x (List.mem_cons_of_mem _ hx)
    have e : manyL ((g :: R).map tkEd) = cntE (tkEd g) + manyL (R.map tkEd) := by simp [manyL]
    rw [e, ih, cnt_tk (h g (List.mem_cons_self ..)), List.map_cons, List.sum_cons]
    omega
theorem many_pt : ∀ {R : List (Nat × List UInt8)}, manyL (R.map ptEd) = ((R.map fun g => g.2.length).sum : Nat)
  | [] => rfl
  | g :: R => by
    have ih := many_pt (R := R)
    have e : manyL ((g :: R).map ptEd) = cntE (ptEd g) + manyL (R.map ptEd) := by simp [manyL]
    rw [e, ih, cnt_pt, List.map_cons, List.sum_cons]
    omega
theorem ptAll_sum (b : ByteArray) : ∀ (P : List Nat) (R : List (Nat × List UInt8)), ((P.foldl (ptB b) R).map fun g => g.2.length).sum = (R.map fun g => g.2.length).sum + P.length
  | [], R => by simp
  | p :: P, R => by
    rw [List.foldl_cons, ptAll_sum b P]
    unfold ptB
    rw [ptR_sum, List.length_cons]
    omega

structure DiffIs (a b : ByteArray) : Prop where
  many : manyL (diffL a b) = (far a.data.toList b.data.toList : Nat)
  each : ∀ x ∈ diffL a b, (0 < x.many ∨ 0 < x.text.size) ∧ x.text.size ≤ 60 ∧ 0 ≤ x.many ∧ x.many ≤ 300 ∧ 0 ≤ cntE x ∧ cntE x ≤ 300
  len : (diffL a b).length ≤ 600

theorem len_le_sum {R : List (Nat × List UInt8)} (h : ∀ g ∈ R, 0 < g.2.length) : R.length ≤ (R.map fun g => g.2.length).sum := by
  induction R with
  | nil => exact Nat.zero_le _
  | cons g R ih =>
    have := ih fun x hx => h x (List.mem_cons_of_mem _ hx)
    have := h g (List.mem_cons_self ..)
    rw [List.length_cons, List.map_cons, List.sum_cons]; omega

theorem diff_is {a b : ByteArray} (h : diffE a b = 0) : DiffIs a b := by
  obtain ⟨ha, hb, _, _⟩ := diffE_zero h
  obtain ⟨u1, u2⟩ := walkT_up a.data.toList b.data.toList 0 0
  have hfar := walkT_far a.data.toList b.data.toList 0 0
  have hT : diffT a b = (walkT a.data.toList b.data.toList 0 0).1.foldl tkR [] := rfl
  have hP : diffP a b = (walkT a.data.toList b.data.toList 0 0).2.foldl (ptB b) [] := rfl
  rw [Nat.zero_add] at u1 u2
  generalize (walkT a.data.toList b.data.toList 0 0).1 = T at *
  generalize (walkT a.data.toList b.data.toList 0 0).2 = P at *
  have hR : RUp a.size (diffT a b) := by
    rw [hT, ← size_list]
    exact tkAll_up u1 trivial
  have hp := puts_all (n := P.length) (b := b.data.toList) (P := P) (P' := []) rfl (by rw [List.append_nil]; exact u2)
  have hG : ∀ g ∈ diffP a b, 0 < g.2.length ∧ g.2.length ≤ 60 := by rw [hP]; exact GOk.each hp.1
  have hPl : P.length ≤ b.size := by
    have up : ∀ {l : List Nat} {lo hi : Nat}, UpTo lo hi l → l.length + lo ≤ hi := by
      intro l
      induction l with
      | nil => intro lo hi h; have : lo ≤ hi := h; rw [List.length_nil]; omega
      | cons q l ih => intro lo hi h; have := ih h.2.2; have := h.1; rw [List.length_cons]; omega
    have := up u2
    rw [size_list] at this
    omega
  have hsumP := ptAll_sum b P []
  rw [← hP] at hsumP
  have hsumT := tkAll_sum T []
  rw [← hT] at hsumT
  simp only [List.map_nil, List.sum_nil, Nat.zero_add] at hsumP hsumT
  have hlT := hR.len
  have hlP := len_le_sum fun g hg => (hG g hg).1
  have hRe : ∀ g ∈ diffT a b, 1 ≤ g.2 ∧ g.2 ≤ 300 := fun g hg => ⟨(hR.each g hg).1, Nat.le_trans (hR.each g hg).2 ha⟩
  refine ⟨?_, ?_, ?_⟩
  · unfold diffL
    rw [manyL_append, manyL_reverse, many_tk hRe, many_pt, hsumT, hsumP]
    omega
  · intro x hx
    unfold diffL at hx
    rcases List.mem_append.1 hx with hx | hx
    · obtain ⟨g, hg, rfl⟩ := List.mem_map.1 hx
      have hg' := hRe g hg
      rw [cnt_tk hg']
      exact ⟨Or.inl (by show (0 : Int) < (g.2 : Int); omega), Nat.zero_le _, by show (0 : Int) ≤ (g.2 : Int); omega, by show (g.2 : Int) ≤ 300; omega, by omega, by omega⟩
    · rw [List.mem_reverse] at hx
      obtain ⟨g, hg, rfl⟩ := List.mem_map.1 hx
      have hg' := hG g hg
      rw [cnt_pt]
      have hs : (ptEd g).text.size = g.2.length := pt_size g.2
      exact ⟨Or.inr (by omega), by omega, by show (0 : Int) ≤ 0; omega, by show (0 : Int) ≤ 300; omega, by omega, by omega⟩
  · unfold diffL
    rw [List.length_append, List.length_reverse, List.length_map, List.length_map]
    omega
end Go.Proofs.YtnhjebdlcbhkcaeGreat

namespace Go.Proofs.YtnhjebdlcbhkcaeGreat
open Go.RowKit

set_option maxRecDepth 100000 in
set_option maxHeartbeats 2000000 in
theorem sameRun_true (a a' : Option Addr) (cap cap' : Nat) (x : Rn) (w : World) (hl : x.path.length ≤ maxLen) (h : StepsAt w a x.path) (h' : StepsAt w a' x.path) :
    Calls Tryz.prog 136 #[.agg #[.slice a x.path.length cap, .int .i64 x.clock, .string x.text], .agg #[.slice a' x.path.length cap', .int .i64 x.clock, .string x.text]] w fun e w' => e = .returned (.bool true) ∧ Below w.heap.size w w' := by
  have hz : ordM x.path x.clock x.path x.clock = 0 := cmpM.refl (x.path, x.clock)
  have hb0 := ((Below.refl w.heap.size w).alloc (Nat.le_refl _) (Obj.cells #[.slice a x.path.length cap, .int .i64 x.clock, .string x.text] 59)).alloc (by simp) (Obj.cells #[.slice a' x.path.length cap', .int .i64 x.clock, .string x.text] 59)
  have HZ := hidE hz
  clear hz
  go_enter Tryz.func136, Tryz.ntmps136
  go_wp2_with (go_at_call 58; refine (sameMark_n _ _ _ _ _ _ x.path x.path _ _ _ rfl rfl hl hl (by exact h.below hb0 (Nat.le_refl _)) (by exact h'.below hb0 (Nat.le_refl _))).mono ?_; rintro e w3 ⟨rfl, hb3⟩; rw [HZ.out])
  go_ret
  exact ⟨rfl, hb0.thru hb3 hb0.size⟩

set_option maxRecDepth 100000 in
set_option maxHeartbeats 2000000 in
theorem sameRuns_true (a a' : Option Addr) (cap cap' : Nat) (xs : List Rn) (w : World) (hl : xs.length ≤ maxLen) (h : RunsAt w a xs) (h' : RunsAt w a' xs) :
    Calls Tryz.prog 55 #[.slice a xs.length cap, .slice a' xs.length cap'] w fun e w' => e = .returned (.bool true) ∧ Below w.heap.size w w' := by
  unfold maxLen at hl
  go_enter Tryz.func55, Tryz.ntmps55
  go_wp2
  go_loopw [5] (fun i wr => ∃ k : Nat, k ≤ xs.length ∧ i = .int .i64 k ∧ Below w.heap.size w wr) (fun i _ => xs.length - (intOf i).toNat)
  case atStart => exact ⟨0, Nat.zero_le _, rfl, Below.refl _ _⟩
  case round =>
    obtain ⟨k, hk, rfl, hb⟩ := hrel
    by_cases hlt : k < xs.length
    · have hi1 : (k : Int) < xs.length := by omega
      rcases h.below hb (Nat.le_refl _) with hs | ⟨ab, ao, rfl, hab, hc⟩
      · simp [hs] at hlt
      rcases h'.below hb (Nat.le_refl _) with hs | ⟨bb, bo, rfl, hbb, hd⟩
      · simp [hs] at hlt
      obtain ⟨p, cp, c0, c1, c2, hst, hle, _⟩ := hc k hlt
      obtain ⟨p', cp', d0, d1, d2, hst', _⟩ := hd k hlt
      clear hc hd h h'
      generalize xs[k] = x at *
      have k0 := cell_regrown c0
      have k1 := cell_regrown c1
      have k2 := cell_regrown c2
      have k3 := cell_regrown d0
      have k4 := cell_regrown d1
      have k5 := cell_regrown d2
      have S1 := hidE (fun d os => hst.below (below_regrown wr d os) (Nat.le_refl _))
      have S2 := hidE (fun d os => hst'.below (below_regrown wr d os) (Nat.le_refl _))
      clear hst hst' c0 c1 c2 d0 d1 d2
      go_upto_region 6 with fail
      refine wp_region_quiet_below (by kernel_rfl) (by kernel_rfl) ?_
      repeat (first | go_big_quiet_step ((go_at_call 136; exact Calls.regrown_of (sameRun_true _ _ _ _ x _ hle (S1.out _ _) (S2.out _ _)))) | quiet_step ((go_at_call 136; exact Calls.regrown_of (sameRun_true _ _ _ _ x _ hle (S1.out _ _) (S2.out _ _)))))
      refine wpQuiet_nil ?_
      intro W2 hw'
      obtain ⟨⟨dq, osq⟩, hw''⟩ := hw'
      have hb2 : Below wr.heap.size wr W2 := by rw [hw'']; exact below_regrown wr dq osq
      clear hw''
      go_wp2
      go_roundw
      case rel => exact ⟨k + 1, by omega, by go_num, hb.thru hb2 hb.size⟩
      case measure => simp [intOf]; omega
    · go_wp2
      go_ret
      exact ⟨rfl, hb⟩
end Go.Proofs.YtnhjebdlcbhkcaeGreat
