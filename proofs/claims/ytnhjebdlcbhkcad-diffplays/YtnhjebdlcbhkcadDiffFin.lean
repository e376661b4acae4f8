/- Pure: what Diff tells leads from one text to the other. -/
import Derived.Test.YtnhjebdlcbhkcadDiffX
namespace Go.Proofs.Ytnhjebdlcbhkcad

/-- what Play answers: its error, its text -/
def playE : ByteArray → List Ed → Int
  | _, [] => 0
  | s, x :: l => if plE s x = 0 then playE (plT s x) l else plE s x
def playT : ByteArray → List Ed → ByteArray
  | s, [] => s
  | s, x :: l => if plE s x = 0 then playT (plT s x) l else ⟨#[]⟩

theorem play_app : ∀ {l m : List Ed} {s : ByteArray}, playE s l = 0 → playE s (l ++ m) = playE (playT s l) m ∧ playT s (l ++ m) = playT (playT s l) m
  | [], _, _, _ => ⟨rfl, rfl⟩
  | x :: l, m, s, h => by
    by_cases e : plE s x = 0
    · have h' : playE (plT s x) l = 0 := by unfold playE at h; rwa [if_pos e] at h
      have ih := play_app (m := m) h'
      refine ⟨?_, ?_⟩
      · show (if plE s x = 0 then playE (plT s x) (l ++ m) else plE s x) = playE (if plE s x = 0 then playT (plT s x) l else ⟨#[]⟩) m
        rw [if_pos e, if_pos e]; exact ih.1
      · show (if plE s x = 0 then playT (plT s x) (l ++ m) else ⟨#[]⟩) = playT (if plE s x = 0 then playT (plT s x) l else ⟨#[]⟩) m
        rw [if_pos e, if_pos e]; exact ih.2
    · exfalso; unfold playE at h; rw [if_neg e] at h; exact e h

theorem size_list (s : ByteArray) : s.data.toList.length = s.size := by simp

theorem cut_step {s : ByteArray} {q n : Nat} (hs : s.size ≤ 300) (ha : allS s.data.toList = true) (hq : q + n ≤ s.size) : plE s (tkEd (q, n)) = 0 ∧ (plT s (tkEd (q, n))).data.toList = s.data.toList.take q ++ s.data.toList.drop (q + n) := by
  have hp : pieceB (q : Int) (n : Int) (s.size : Int) = true := by unfold pieceB; simp; omega
  have hE : takeE s (q : Int) (n : Int) ⟨#[]⟩ = 0 := takeE_ok rfl hp
  have h300 : ¬ 300 < s.size := by omega
  refine ⟨?_, ?_⟩
  · unfold plE tkEd
    rw [if_neg h300, if_neg (by rw [ha]; decide), if_neg (show ¬ ((2 : Int) = 1) by decide), if_pos rfl]
    exact hE
  · unfold plT tkEd
    rw [if_neg h300, if_neg (by rw [ha]; decide), if_neg (show ¬ ((2 : Int) = 1) by decide), if_pos rfl]
    unfold takeT
    rw [if_pos hE, ba_append_list, ba_extract_list, ba_extract_list, Int.toNat_natCast, Int.toNat_natCast, List.drop_zero]
    rw [← size_list s, List.take_length]

theorem put_step {s : ByteArray} {q : Nat} {t : List UInt8} (hs : s.size + t.length ≤ 300) (ha : allS s.data.toList = true) (ht : allS t = true) (hq : q ≤ s.size) : plE s (ptEd (q, t)) = 0 ∧ (plT s (ptEd (q, t))).data.toList = s.data.toList.take q ++ (t ++ s.data.toList.drop q) := by
  have hb : inB (q : Int) 0 (s.size : Int) = true := by unfold inB; simp; omega
  have hsz : (⟨t.toArray⟩ : ByteArray).size = t.length := by simp [ByteArray.size]
  have hE : putE s (q : Int) 0 ⟨t.toArray⟩ = 0 := putE_ok rfl hb ht (by rw [hsz]; omega)
  have h300 : ¬ 300 < s.size := by omega
  refine ⟨?_, ?_⟩
  · unfold plE ptEd
    rw [if_neg h300, if_neg (by rw [ha]; decide), if_pos rfl]
    exact hE
  · unfold plT ptEd
    rw [if_neg h300, if_neg (by rw [ha]; decide), if_pos rfl]
    unfold putT
    rw [if_pos hE, ba_append_list, ba_append_list, ba_extract_list, ba_extract_list, Int.toNat_natCast, List.drop_zero, List.append_assoc]
    rw [← size_list s, List.take_length]

theorem allS_app {l m : List UInt8} : allS (l ++ m) = (allS l && allS m) := by simp [allS]
theorem allS_sub {l m : List UInt8} (h : allS m = true) (hs : ∀ x ∈ l, x ∈ m) : allS l = true := by
  unfold allS at *
  rw [List.all_eq_true] at *
  exact fun x hx => h x (hs x hx)

theorem play_cuts : ∀ {R : List (Nat × Nat)} {s : ByteArray}, RUp s.size R → s.size ≤ 300 → allS s.data.toList = true → playE s (R.map tkEd) = 0 ∧ (playT s (R.map tkEd)).data.toList = cutsR s.data.toList R
  | [], s, _, _, _ => ⟨rfl, rfl⟩
  | (q, n) :: R, s, h, hs, ha => by
    obtain ⟨h1, h2, h3⟩ := h
    obtain ⟨e, t⟩ := cut_step (q := q) (n := n) hs ha h2
    have hsz : (plT s (tkEd (q, n))).size = s.size - n := by
      rw [← size_list, t]; simp; omega
    obtain ⟨i1, i2⟩ := play_cuts (R := R) (s := plT s (tkEd (q, n))) (h3.weak (by omega)) (by omega) (by
      rw [t]; exact allS_sub ha fun x hx => by
        rcases List.mem_append.1 hx with hx | hx
        · exact List.mem_of_mem_take hx
        · exact List.mem_of_mem_drop hx)
    refine ⟨?_, ?_⟩
    · show (if plE s (tkEd (q, n)) = 0 then playE (plT s (tkEd (q, n))) (R.map tkEd) else _) = 0
      rw [if_pos e]; exact i1
    · show (if plE s (tkEd (q, n)) = 0 then playT (plT s (tkEd (q, n))) (R.map tkEd) else _).data.toList = _
      rw [if_pos e, i2, t]; rfl

theorem allS_insR {s : List UInt8} (hs : allS s = true) : ∀ {R : List (Nat × List UInt8)}, (∀ g ∈ R, allS g.2 = true) → allS (insR s R) = true
  | [], _ => hs
  | (q, t) :: R, h => by
    have ih := allS_insR hs (R := R) fun g hg => h g (List.mem_cons_of_mem _ hg)
    show allS ((insR s R).take q ++ (t ++ (insR s R).drop q)) = true
    rw [allS_app, allS_app, h (q, t) (List.mem_cons_self ..), allS_sub ih fun x hx => List.mem_of_mem_take hx, allS_sub ih fun x hx => List.mem_of_mem_drop hx]
    rfl

theorem play_puts : ∀ {R : List (Nat × List UInt8)} {s : ByteArray}, GOk s.data.toList R → (∀ g ∈ R, allS g.2 = true) → (insR s.data.toList R).length ≤ 300 → allS s.data.toList = true → playE s (R.map ptEd).reverse = 0 ∧ (playT s (R.map ptEd).reverse).data.toList = insR s.data.toList R
  | [], s, _, _, _, _ => ⟨rfl, rfl⟩
  | (q, t) :: R, s, h, hg, hl, ha => by
    obtain ⟨h1, h2, h3, h4⟩ := h
    have hg' : ∀ g ∈ R, allS g.2 = true := fun g hg0 => hg g (List.mem_cons_of_mem _ hg0)
    have hll : (insR s.data.toList R).length + t.length ≤ 300 := by
      have e : insR s.data.toList ((q, t) :: R) = (insR s.data.toList R).take q ++ (t ++ (insR s.data.toList R).drop q) := rfl
      rw [e] at hl
      simp at hl
      omega
    obtain ⟨i1, i2⟩ := play_puts h4 hg' (by omega) ha
    have hp := play_app (m := [ptEd (q, t)]) i1
    have hsz : (playT s (R.map ptEd).reverse).size = (insR s.data.toList R).length := by rw [← size_list, i2]
    obtain ⟨e, t'⟩ := put_step (s := playT s (R.map ptEd).reverse) (q := q) (t := t) (by omega) (by rw [i2]; exact allS_insR ha hg') (hg (q, t) (List.mem_cons_self ..)) (by omega)
    rw [List.map_cons, List.reverse_cons, hp.1, hp.2]
    refine ⟨?_, ?_⟩
    · show (if plE _ (ptEd (q, t)) = 0 then playE _ [] else _) = 0
      rw [if_pos e]; rfl
    · show (if plE _ (ptEd (q, t)) = 0 then playT _ [] else _).data.toList = _
      rw [if_pos e]
      show (plT _ (ptEd (q, t))).data.toList = _
      rw [t', i2]; rfl

theorem mem_without : ∀ {a : List UInt8} {i : Nat} {l : List Nat} {x : UInt8}, x ∈ without a i l → x ∈ a
  | [], _, _, _, h => h
  | y :: a, i, l, x, h => by
    unfold without at h
    split at h
    · exact List.mem_cons_of_mem _ (mem_without h)
    · rcases List.mem_cons.1 h with rfl | h
      · exact List.mem_cons_self ..
      · exact List.mem_cons_of_mem _ (mem_without h)

theorem puts_signs {b : ByteArray} (hb : allS b.data.toList = true) : ∀ {P : List Nat} {R : List (Nat × List UInt8)}, (∀ p ∈ P, p < b.size) → (∀ g ∈ R, allS g.2 = true) → ∀ g ∈ P.foldl (ptB b) R, allS g.2 = true
  | [], _, _, h => h
  | p :: P, R, hp, h => by
    rw [List.foldl_cons]
    refine puts_signs hb (fun q hq => hp q (List.mem_cons_of_mem _ hq)) ?_
    have hc : allS [b.data.toList.getD p 0] = true := by
      have h' : p < b.data.toList.length := by rw [size_list]; exact hp p (List.mem_cons_self ..)
      rw [List.getD_eq_getElem?_getD, List.getElem?_eq_getElem h']
      exact allS_sub hb fun x hx => by
        rw [List.mem_singleton] at hx
        subst hx
        exact List.getElem_mem h'
    unfold ptB
    rcases R with _ | ⟨⟨q, t⟩, R⟩
    · intro g hg
      rw [show g = (p, [b.data.toList.getD p 0]) by simpa [ptR] using hg]
      exact hc
    · rw [ptR_cons]
      split
      · intro g hg
        rcases List.mem_cons.1 hg with rfl | hg
        · show allS (t ++ _) = true
          rw [allS_app, h (q, t) (List.mem_cons_self ..), hc]; rfl
        · exact h g (List.mem_cons_of_mem _ hg)
      · intro g hg
        rcases List.mem_cons.1 hg with rfl | hg
        · exact hc
        · exact h g hg

/-- what Diff tells leads from a to b -/
theorem diff_leads {a b : ByteArray} (h : diffE a b = 0) : playE a (diffL a b) = 0 ∧ playT a (diffL a b) = b := by
  obtain ⟨ha, hb, sa, sb⟩ := diffE_zero h
  obtain ⟨u1, u2⟩ := walkT_up a.data.toList b.data.toList 0 0
  have hk := walkT_keep a.data.toList b.data.toList 0 0
  have hT : diffT a b = (walkT a.data.toList b.data.toList 0 0).1.foldl tkR [] := rfl
  have hP : diffP a b = (walkT a.data.toList b.data.toList 0 0).2.foldl (ptB b) [] := rfl
  rw [Nat.zero_add] at u1 u2
  generalize (walkT a.data.toList b.data.toList 0 0).1 = T at *
  generalize (walkT a.data.toList b.data.toList 0 0).2 = P at *
  have hR : RUp a.size (diffT a b) := by
    rw [hT, ← size_list]
    exact tkAll_up u1 trivial
  obtain ⟨c1, c2⟩ := play_cuts hR ha sa
  have c3 : cutsR a.data.toList (diffT a b) = without b.data.toList 0 P := by rw [hT, cuts_all rfl u1, hk]
  have hp := puts_all (n := P.length) (b := b.data.toList) (P := P) (P' := []) rfl (by rw [List.append_nil]; exact u2)
  rw [List.append_nil, without_none] at hp
  have hp' : GOk (without b.data.toList 0 P) (diffP a b) ∧ insR (without b.data.toList 0 P) (diffP a b) = b.data.toList := by rw [hP]; exact hp
  rw [← c3, ← c2] at hp'
  have hs : ∀ g ∈ diffP a b, allS g.2 = true := by
    rw [hP]
    exact puts_signs sb (fun p hpm => by have := (mem_up u2 hpm).2; rwa [size_list] at this) (by simp)
  obtain ⟨d1, d2⟩ := play_puts hp'.1 hs (by rw [hp'.2, size_list]; exact hb) (by rw [c2, c3]; exact allS_sub sb fun x hx => mem_without hx)
  have hpa := play_app (m := ((diffP a b).map ptEd).reverse) c1
  unfold diffL
  rw [hpa.1, hpa.2]
  exact ⟨d1, ba_ext (by rw [d2, hp'.2])⟩
end Go.Proofs.Ytnhjebdlcbhkcad
