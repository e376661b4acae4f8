/- Contract of atom.Put. -/
import Derived.Test.YtnhjebdlcbhkcacGreatGapA
import Derived.Test.YtnhjebdlcbhkcacGreatHasC
import Derived.Test.YtnhjebdlcbhkcacGreatPutStep
import Derived.Test.YtnhjebdlcbhkcacGreatInsA
namespace Go.Proofs.YtnhjebdlcbhkcacGreat
open Go.RowKit

set_option maxHeartbeats 400000 in
theorem put3_any (n : Int) (w : World) : Calls Tryz.prog 110 #[.int .i64 n] w fun e w' => e = .returned (.bool true) ∧ w' = w := by
  go_enter Tryz.func110, Tryz.ntmps110
  go_wp2
  go_ret
  exact ⟨rfl, rfl⟩

set_option maxRecDepth 100000 in
set_option maxHeartbeats 4000000 in
theorem pickAll_ok (a : Option Addr) (cap : Nat) (l : List At) (w : World) (h : AtomsAt w a l) (hl : l.length ≤ 1000) (hok : ∀ i (h : i < l.length), 0 < l[i].path.length ∧ l[i].path.length ≤ 10) :
    Calls Tryz.prog 109 #[.slice a l.length cap, .func (.func 110) #[] #[]] w fun e w' => ∃ p c, e = .returned (.slice p (pickTo (fun _ => true) l l.length).length c) ∧ AtomsAt w' p (pickTo (fun _ => true) l l.length) ∧ PickRow w' w.heap.size (.slice p (pickTo (fun _ => true) l l.length).length c) (pickTo (fun _ => true) l l.length) ∧ Below w.heap.size w w' := by
  obtain ⟨i0, hi, hz0, hz1, hz2⟩ := Tryz.info66
  have HOK := hidE hok
  clear hok
  go_enter Tryz.func109, Tryz.ntmps109
  go_wp2
  go_loopw [10, 5] (fun i v wr => ∃ k : Nat, k ≤ l.length ∧ i = .int .i64 k ∧ PickRow wr w.heap.size v (pickTo (fun _ => true) l k) ∧ Below w.heap.size w wr) (fun i _ _ => l.length - (intOf i).toNat)
  case atStart => exact ⟨0, Nat.zero_le _, rfl, ⟨[], rfl, World.ownsRow_nil _ _ _ _, fun i h => by simp [pickTo] at h⟩, Below.refl _ _⟩
  case round =>
    obtain ⟨k, hk, rfl, hrow, hb⟩ := hrel
    by_cases hlt : k < l.length
    · obtain ⟨ab, ao, rfl, hab, hc⟩ := (h.below hb (Nat.le_refl _)).raw (by omega)
      obtain ⟨⟨p, n, cp, ck, sk⟩, hr, c0, c1, c2⟩ := hc k hlt
      have hi1 : (k : Int) < l.length := by omega
      have HT : Hid (pickTo (fun _ => true) l (k + 1) = pickTo (fun _ => true) l k ++ [l[k]]) := by
        show (pickTo (fun _ => true) l k ++ if true = true then l[k]?.toList else []) = _
        rw [if_pos rfl, List.getElem?_eq_getElem hlt]; rfl
      have HL := hidE (pickTo_len (fun _ => true) l k)
      have hokk := HOK.out k hlt
      have hn : n = l[k].path.length := hr.n
      have hck : ck = l[k].clock := hr.clock
      have hsk : sk = l[k].sign := hr.sign
      subst hn hck hsk
      have s0 := hr.s0
      have s1 := hr.s1
      have hst := hr.steps
      generalize pickTo (fun _ => true) l k = xs at *
      generalize l[k] = x at *
      clear hc h hr HOK
      obtain ⟨pb, po, rfl⟩ : ∃ pb po, p = some ⟨pb, po, none⟩ := by
        rcases hst with e | ⟨pb, po, rfl, _⟩
        · have e' : x.path = [] := e
          have : x.path.length = 0 := by rw [e']; rfl
          omega
        · exact ⟨pb, po, rfl⟩
      obtain ⟨rs, hrl, hown, hrr⟩ := hrow
      have hb0 := hb.alloc hb.size (.cells #[.slice (some ⟨pb, po, none⟩) x.path.length cp, .int .i64 x.clock, .int .u8 x.sign] 66)
      have hbn : Below wr.heap.size wr (wr.alloc (.cells #[.slice (some ⟨pb, po, none⟩) x.path.length cp, .int .i64 x.clock, .int .u8 x.sign] 66)) := (Below.refl _ _).alloc (Nat.le_refl _) _
      have x0 : (wr.alloc (.cells #[.slice (some ⟨pb, po, none⟩) x.path.length cp, .int .i64 x.clock, .int .u8 x.sign] 66)).cell? ⟨wr.heap.size, 0, none⟩ = some (.slice (some ⟨pb, po, none⟩) x.path.length cp) := by simp
      have x1 : (wr.alloc (.cells #[.slice (some ⟨pb, po, none⟩) x.path.length cp, .int .i64 x.clock, .int .u8 x.sign] 66)).cell? ⟨wr.heap.size, 1, none⟩ = some (.int .i64 x.clock) := by simp
      have x2 : (wr.alloc (.cells #[.slice (some ⟨pb, po, none⟩) x.path.length cp, .int .i64 x.clock, .int .u8 x.sign] 66)).cell? ⟨wr.heap.size, 2, none⟩ = some (.int .u8 x.sign) := by simp
      have hsz : wr.heap.size < (wr.alloc (.cells #[.slice (some ⟨pb, po, none⟩) x.path.length cp, .int .i64 x.clock, .int .u8 x.sign] 66)).heap.size := by simp
      have hON : some wr.heap.size ≠ Value.ownBlock u5 := own_ne hown (by omega)
      have hownN := owns_below hown hbn
      have HRN := hidE (fun i h h' => (hrr i h h').below hbn)
      have hstN := hst.below hbn (Nat.le_refl _)
      have hwn : w.heap.size ≤ wr.heap.size := hb.size
      go_upto_region 5 with fail
      generalize wr.alloc (.cells #[.slice (some ⟨pb, po, none⟩) x.path.length cp, .int .i64 x.clock, .int .u8 x.sign] 66) = w2 at hb0 hbn x0 x1 x2 hsz hownN HRN hstN ⊢
      clear c0 c1 c2 hown hrr hst hb hbn
      go_upto_region 6 with (go_at_call 110; refine (put3_any _ _).mono ?_; rintro e w' ⟨rfl, hw⟩; rw [hw]; clear hw w')
      have hBd : Below w2.heap.size w2 w2.drew := (Below.refl _ _).drew
      have hml : x.path.length ≤ maxLen := by unfold maxLen; omega
      go_region_held_law (fun w' => w'.cell? ⟨wr.heap.size, 0, none⟩ = some (.slice (some ⟨pb, po, none⟩) x.path.length cp) ∧ w'.cell? ⟨wr.heap.size, 1, none⟩ = some (.int .i64 x.clock) ∧ w'.cell? ⟨wr.heap.size, 2, none⟩ = some (.int .u8 x.sign))
          (first | exact ⟨x0, x1, x2⟩ | exact ⟨t0, t1, t2⟩ | exact ⟨s0', s1', s2'⟩ | exact ⟨y0, y1, y2⟩)
          (first
            | (refine step_append_own rfl (.tmp 18) (.tmp 25) 22 rfl w.heap.size 66 i0 (.agg #[.slice none 0 0, .int .i64 0, .int .u8 0]) 3 40 Tryz.underlying22 hi hz0 hz1 hz2 rfl (by decide) u5 xs.length (flatR rs) (by simp [Act.eval]) (hown3.alloc _) ⟨w3.heap.size, 0, none⟩ 1 1 ((⟨some ⟨g, 0, none⟩, x.path.length, cap2, x.clock, x.sign⟩ : Raw).cells) (by simp [Act.eval]) rfl (by intro j u hj; rw [Addr.add_lit, Nat.zero_add]; exact raw_new w3 ⟨some ⟨g, 0, none⟩, x.path.length, cap2, x.clock, x.sign⟩ j u hj) (fun u hu => flatR_one [⟨some ⟨g, 0, none⟩, x.path.length, cap2, x.clock, x.sign⟩] u (by simpa [flatR] using hu)) (by have := HL.out; unfold maxLen; omega) (by have := HL.out; omega) (by simp; omega) ?_; intro v' w4 hown4 hgrow; have y0 := ((grown_cell hgrow hz4 hON 0).trans (hb4.cell (p := ⟨wr.heap.size, 0, none⟩) hz3)).trans t0; have y1 := ((grown_cell hgrow hz4 hON 1).trans (hb4.cell (p := ⟨wr.heap.size, 1, none⟩) hz3)).trans t1; have y2 := ((grown_cell hgrow hz4 hON 2).trans (hb4.cell (p := ⟨wr.heap.size, 2, none⟩) hz3)).trans t2)
            | (go_at_call 78; refine (freshMark_ok pb po _ _ x.path _ _ rfl hml (by omega) (hstN.below hBd (Nat.le_refl _))).mono ?_; rintro e w3 ⟨g, cap2, rfl, hownS, hb3⟩; have hb3' : Below w2.heap.size w2 w3 := hBd.thru hb3 (Nat.le_refl _); have t0 := (hb3'.cell (p := ⟨wr.heap.size, 0, none⟩) hsz).trans x0; have t1 := (hb3'.cell (p := ⟨wr.heap.size, 1, none⟩) hsz).trans x1; have t2 := (hb3'.cell (p := ⟨wr.heap.size, 2, none⟩) hsz).trans x2; have hz3 : wr.heap.size < w3.heap.size := Nat.lt_of_lt_of_le hsz hb3'.size; have hown3 := owns_below hownN hb3'; have hb4 : Below w3.heap.size w3 (w3.alloc (.cells #[.slice (some ⟨g, 0, none⟩) x.path.length cap2, .int .i64 x.clock, .int .u8 x.sign] 66)) := (Below.refl _ _).alloc (Nat.le_refl _) _; have hz4 : wr.heap.size < (w3.alloc (.cells #[.slice (some ⟨g, 0, none⟩) x.path.length cap2, .int .i64 x.clock, .int .u8 x.sign] 66)).heap.size := Nat.lt_of_lt_of_le hz3 hb4.size; have s0' := (hb4.cell (p := ⟨wr.heap.size, 0, none⟩) hz3).trans t0; have s1' := (hb4.cell (p := ⟨wr.heap.size, 1, none⟩) hz3).trans t1; have s2' := (hb4.cell (p := ⟨wr.heap.size, 2, none⟩) hz3).trans t2))
      have hb3w := hb0.thru hb3' hb0.size
      have hb5 := (hb3w.alloc hb3w.size _).grown hgrow (hb3w.alloc hb3w.size _).size (fun k hk => (hown3.lt k hk).1)
      have hrow2 : PickRow w4 w.heap.size v' (xs ++ [x]) := PickRow.snoc hrl (hown3.alloc _) (fun i h h' => ((HRN.out i h h').below hb3').below hb4) ⟨g, cap2, rfl, (owns_base hownS (by show w.heap.size ≤ w2.heap.size; omega)).alloc _, hml, s0, s1⟩ hgrow hown4
      go_wp2_with fail
      go_roundw
      case rel => exact ⟨k + 1, by omega, by go_num, by rw [HT.out]; exact hrow2, hb5⟩
      case measure => simp [intOf]; omega
    · have hkl : k = l.length := by omega
      subst hkl
      obtain ⟨p, c, rfl, hat, _⟩ := hrow.owns.atoms (Below.refl _ _)
      go_wp2
      go_ret
      exact ⟨p, c, rfl, hat, hrow, hb⟩
end Go.Proofs.YtnhjebdlcbhkcacGreat

namespace Go.Proofs.YtnhjebdlcbhkcacGreat
open Go.RowKit

set_option maxHeartbeats 400000 in
theorem or25_any (b cap : Nat) (x y : Int) (w : World) (h0 : w.cell? ⟨b, 0, none⟩ = some (.int .i64 x)) (h1 : w.cell? ⟨b, 1, none⟩ = some (.int .i64 y)) :
    Calls Tryz.prog 108 #[.slice (some ⟨b, 0, none⟩) 2 cap] w fun e w' => e = .returned (.int .i64 (orI x y)) ∧ w' = w := by
  go_enter Tryz.func108, Tryz.ntmps108
  go_wp2
  go_loop [8] (fun i => ∃ k : Nat, k ≤ 2 ∧ i = .int .i64 k ∧ (1 ≤ k → x = 0) ∧ (2 ≤ k → y = 0)) (fun i => 2 - (intOf i).toNat)
  case atStart => exact ⟨0, by omega, rfl, by omega, by omega⟩
  case round =>
    obtain ⟨k, hk, rfl, hx, hy⟩ := hrel
    rcases (show k = 0 ∨ k = 1 ∨ k = 2 by omega) with rfl | rfl | rfl
    · clear hx hy
      by_cases hx : x = 0
      · go_wp2
        go_round
        case rel => exact ⟨1, by omega, by go_num, fun _ => hx, by omega⟩
        case measure => simp [intOf]
      · go_wp2
        go_ret
        exact ⟨ret_int (by simp [orI, hx]), rfl⟩
    · have hx0 := hx (by omega)
      subst hx0
      clear hx hy
      by_cases hy : y = 0
      · go_wp2
        go_round
        case rel => exact ⟨2, by omega, by go_num, fun _ => by simp, fun _ => hy⟩
        case measure => simp [intOf]
      · go_wp2
        go_ret
        exact ⟨ret_int (by simp [orI]), rfl⟩
    · have hx0 := hx (by omega)
      have hy0 := hy (by omega)
      subst hx0
      subst hy0
      clear hx hy
      go_wp2
      go_ret
      exact ⟨ret_int (by simp [orI]), rfl⟩

set_option maxRecDepth 100000 in
set_option maxHeartbeats 2000000 in
theorem put_bad (a a' : Option Addr) (cap cap' : Nat) (l m : List At) (w : World) (hl : l.length ≤ maxLen) (hm : m.length ≤ maxLen) (h : AtomsAt w a l) (h' : AtomsAt w a' m) (h0 : orI (chkL l) (chkL m) ≠ 0) :
    Calls Tryz.prog 77 #[.slice a l.length cap, .slice a' m.length cap'] w fun e w' => e = .returned (.tuple #[.slice none 0 0, .int .i64 (orI (chkL l) (chkL m))]) ∧ Below w.heap.size w w' := by
  have hx : (orI (chkL l) (chkL m) != 0) = true := bne_iff_ne.2 h0
  clear h0
  go_enter Tryz.func77, Tryz.ntmps77
  go_wp2_with fail
  refine (atomCheck_any _ _ l _ hl h).mono ?_
  rintro e w1 ⟨rfl, hb1⟩
  go_wp2_with fail
  refine (atomCheck_any _ _ m _ hm (h'.below hb1 (Nat.le_refl _))).mono ?_
  rintro e w2 ⟨rfl, hb2⟩
  have hb3 := hb1.thru hb2 hb1.size
  go_wp2_with (go_at_call 108; refine (or25_any _ _ (chkL l) (chkL m) _ (by go_simp) (by go_simp)).mono ?_; rintro e w' ⟨rfl, rfl⟩)
  refine bodyPost_ret (v := .tuple #[.slice none 0 0, .int .i64 (orI (chkL l) (chkL m))]) (by simp [results, Tryz.results77, go_sem]) rfl ?_
  exact ⟨rfl, hb3.alloc hb3.size _⟩


theorem flatR_take (rs : List Raw) : ∀ i, (flatR rs).take (i * 3) = flatR (rs.take i) := by
  induction rs with
  | nil => intro i; simp [flatR]
  | cons r rs ih =>
    intro i
    cases i with
    | zero => simp [flatR]
    | succ i =>
      have h1 : flatR (r :: rs) = r.cells ++ flatR rs := rfl
      have h2 : flatR ((r :: rs).take (i + 1)) = r.cells ++ flatR (rs.take i) := rfl
      rw [h1, h2, List.take_append, List.take_of_length_le (by show 3 ≤ _; omega), show (i + 1) * 3 - r.cells.length = i * 3 by show (i + 1) * 3 - 3 = _; omega, ih]
theorem flatR_drop (rs : List Raw) : ∀ i, (flatR rs).drop (i * 3) = flatR (rs.drop i) := by
  induction rs with
  | nil => intro i; simp [flatR]
  | cons r rs ih =>
    intro i
    cases i with
    | zero => simp [flatR]
    | succ i =>
      have h1 : flatR (r :: rs) = r.cells ++ flatR rs := rfl
      have h2 : flatR ((r :: rs).drop (i + 1)) = flatR (rs.drop i) := rfl
      rw [h1, h2, List.drop_append, List.drop_of_length_le (by show 3 ≤ _; omega), show (i + 1) * 3 - r.cells.length = i * 3 by show (i + 1) * 3 - 3 = _; omega, ih, List.nil_append]

theorem PickRow.ins {w w' : World} {base : Nat} {v v' : Value} {xs : List At} {r : Raw} {x : At} {rs : List Raw} {i : Nat} (hi : i ≤ xs.length) (hl : rs.length = xs.length) (hown : w.ownsRow base 66 3 v xs.length (flatR rs)) (hr : ∀ i (h : i < xs.length) (h' : i < rs.length), PickRaw w base rs[i] xs[i]) (hx : PickRaw w base r x) (hg : w.grownBy w' v.ownBlock)
    (h : w'.ownsRow base 66 3 v' (xs.length + 1) ((flatR rs).take (i * 3) ++ r.cells ++ (flatR rs).drop (i * 3))) : PickRow w' base v' (xs.take i ++ x :: xs.drop i) := by
  refine ⟨rs.take i ++ r :: rs.drop i, by simp [hl], ?_, fun k hk hk' => ?_⟩
  · have e1 : (xs.take i ++ x :: xs.drop i).length = xs.length + 1 := by simp; omega
    rw [e1, flatR_append]
    rw [flatR_take, flatR_drop, List.append_assoc] at h
    exact h
  · have hkl : k < xs.length + 1 := by simp at hk; omega
    rcases Nat.lt_trichotomy k i with hlt | heq | hgt
    · have e1 : (rs.take i ++ r :: rs.drop i)[k] = rs[k]'(by omega) := by rw [List.getElem_append_left (by simp; omega)]; simp
      have e2 : (xs.take i ++ x :: xs.drop i)[k] = xs[k]'(by omega) := by rw [List.getElem_append_left (by simp; omega)]; simp
      rw [e1, e2]
      exact (hr k (by omega) (by omega)).kept hg (fun g cap _ ho => types_ne ho hown)
    · subst heq
      have e1 : (rs.take k ++ r :: rs.drop k)[k] = r := by
        rw [List.getElem_append_right (by simp; omega)]
        simp [show k - min k rs.length = 0 by omega]
      have e2 : (xs.take k ++ x :: xs.drop k)[k] = x := by
        rw [List.getElem_append_right (by simp; omega)]
        simp [show k - min k xs.length = 0 by omega]
      rw [e1, e2]
      exact hx.kept hg (fun g cap _ ho => types_ne ho hown)
    · obtain ⟨j, rfl⟩ : ∃ j, k = j + 1 := ⟨k - 1, by omega⟩
      have e1 : (rs.take i ++ r :: rs.drop i)[j + 1] = rs[j]'(by omega) := by
        rw [List.getElem_append_right (by simp; omega)]
        simp only [List.length_take, show j + 1 - min i rs.length = (j - i) + 1 by omega, List.getElem_cons_succ, List.getElem_drop]
        congr 1; omega
      have e2 : (xs.take i ++ x :: xs.drop i)[j + 1] = xs[j]'(by omega) := by
        rw [List.getElem_append_right (by simp; omega)]
        simp only [List.length_take, show j + 1 - min i xs.length = (j - i) + 1 by omega, List.getElem_cons_succ, List.getElem_drop]
        congr 1; omega
      rw [e1, e2]
      exact (hr j (by omega) (by omega)).kept hg (fun g cap _ ho => types_ne ho hown)

theorem flatR_set (rs : List Raw) : ∀ (i : Nat) (s : Int) (h : i < rs.length), (flatR rs).set (i * 3 + 2) (.int .u8 s) = flatR (rs.set i { rs[i] with sign := s }) := by
  induction rs with
  | nil => intro i s h; simp at h
  | cons r rs ih =>
    intro i s h
    cases i with
    | zero => rfl
    | succ i =>
      have h1 : flatR (r :: rs) = r.cells ++ flatR rs := rfl
      have h2 : flatR ((r :: rs).set (i + 1) { (r :: rs)[i + 1] with sign := s }) = r.cells ++ flatR (rs.set i { (rs[i]'(by simpa using h)) with sign := s }) := rfl
      rw [h1, h2, List.set_append_right _ _ (by show 3 ≤ _; omega), show (i + 1) * 3 + 2 - r.cells.length = i * 3 + 2 by show (i + 1) * 3 + 2 - 3 = _; omega, ih i s (by simpa using h)]

theorem PickRow.less {w : World} {base g cap : Nat} {xs : List At} {rs : List Raw} {i : Nat} {s : Int} (hi : i < xs.length) (hl : rs.length = xs.length) (hown : w.ownsRow base 66 3 (.slice (some ⟨g, 0, none⟩) xs.length cap) xs.length (flatR rs)) (hr : ∀ i (h : i < xs.length) (h' : i < rs.length), PickRaw w base rs[i] xs[i]) (s0 : 0 ≤ s) (s1 : s ≤ 255) :
    PickRow (w.setCell ⟨g, i * 3 + 2, none⟩ (.int .u8 s)) base (.slice (some ⟨g, 0, none⟩) xs.length cap) (xs.set i { xs[i] with sign := s }) ∧ w.grownBy (w.setCell ⟨g, i * 3 + 2, none⟩ (.int .u8 s)) (some g) := by
  obtain ⟨h1, h2⟩ := hown.stored (i * 3 + 2) (.int .u8 s)
  refine ⟨⟨rs.set i { (rs[i]'(by omega)) with sign := s }, by simp [hl], ?_, fun k hk hk' => ?_⟩, h2⟩
  · rw [flatR_set rs i s (by omega)] at h1
    simpa using h1
  · have hk2 : k < xs.length := by simpa using hk
    by_cases e : k = i
    · subst e
      obtain ⟨g2, cap2, hq, ho, h3, h4, h5⟩ := (hr k hi (by omega)).kept h2 (fun g cap _ ho => types_ne ho hown)
      rw [List.getElem_set_self, List.getElem_set_self]
      refine ⟨g2, cap2, ?_, ho, h3, s0, s1⟩
      rw [hq]
    · rw [List.getElem_set_ne (fun h => e h.symm), List.getElem_set_ne (fun h => e h.symm)]
      exact (hr k hk2 (by omega)).kept h2 (fun g cap _ ho => types_ne ho hown)
end Go.Proofs.YtnhjebdlcbhkcacGreat
