/- Contract of the law SeenLeast. -/
import Derived.Test.YtlpfnpkmgkbngaeSeenPu
import Derived.Test.YtlpfnpkmgkbngaeSeenB
namespace Go.Proofs.Ytlpfnpkmgkbngae
open Go.RowKit

/-- four lists that lie somewhere -/
structure Four (w : World) (a b c p : Option Addr) (l m n j : List Int) : Prop where
  l : IntsAt w a l
  m : IntsAt w b m
  n : IntsAt w c n
  j : IntsAt w p j
theorem Four.below {w w' : World} {a b c p : Option Addr} {l m n j : List Int} (h : Four w a b c p l m n j) (hb : Below w.heap.size w w') : Four w' a b c p l m n j := ⟨h.l.below hb, h.m.below hb, h.n.below hb, h.j.below hb⟩

set_option maxRecDepth 100000 in
set_option maxHeartbeats 4000000 in
theorem seenLeast_ok (a b c : Option Addr) (ca cb cc : Nat) (l m n : List Int) (w : World) (hl : l.length ≤ maxLen) (hm : m.length ≤ maxLen) (hn : n.length ≤ maxLen) (h1 : IntsAt w a l) (h2 : IntsAt w b m) (h3 : IntsAt w c n) :
    Calls Try.prog 4 #[.slice a l.length ca, .slice b m.length cb, .slice c n.length cc] w fun e w' => e = .returned (.bool true) ∧ Below w.heap.size w w' := by
  have HC := hidE (seenJoin_any a b ca cb l m w hl hm h1 h2)
  go_enter Try.func4, Try.ntmps4
  go_wp2_with fail
  refine HC.out.mono ?_
  rintro e w1 ⟨p, cj, rfl, h4, hb⟩
  have HF := hidE (Four.mk (h1.below hb) (h2.below hb) (h3.below hb) h4)
  have hB := hb
  clear HC hb h1 h2 h3 h4
  have hJL := @joinOf_len l m
  have HJL := hidE hJL
  clear hJL
  have HJ0 := hidE (@joinOf_err l m)
  have HJ1 := hidE (@joinOf_ok l m)
  have HE0 := hidE (@err2_zero l m)
  generalize joinOf l m = j at *
  have hz := hB.size
  go_wp2_with fail
  refine (seenBegun_true w1).mono ?_
  rintro e w2 ⟨rfl, hb⟩
  replace HF := hidE (HF.out.below hb)
  replace hB := hB.thru hb hz
  replace hz := Nat.le_trans hz hb.size
  clear hb
  by_cases he : err2 l m = 0
  case neg =>
    have hj := HJ0.out he
    subst hj
    have heb : (err2 l m != 0) = true := by rw [bne_iff_ne]; exact he
    clear he
    go_wp2_with fail
    go_ret
    exact ⟨rfl, hB⟩
  obtain ⟨k1, k2⟩ := HE0.out he
  have hj := HJ1.out k1 k2
  have kj : chkSeen j = 0 := by rw [hj]; exact chk_join k1 k2
  have HC := hidE (seenCovers_any p a cj ca j l w2 HJL.out hl HF.out.j HF.out.l)
  rw [covOf_ok kj k1, err2_mk kj, k1, hj, (cov_join_left k1 k2).1, ← hj] at HC
  have HC2 := hidE (fun (W : World) (x : IntsAt W p j) (y : IntsAt W b m) => seenCovers_any p b cj cb j m W HJL.out hm x y)
  rw [covOf_ok kj k2, err2_mk kj, k2, hj, (cov_join_left k1 k2).2, ← hj] at HC2
  have HC3 := hidE (fun (W : World) (x : IntsAt W c n) (y : IntsAt W a l) => seenCovers_any c a cc ca n l W hn hl x y)
  rw [err2_left k1] at HC3
  have HC4 := hidE (fun (W : World) (x : IntsAt W c n) (y : IntsAt W b m) => seenCovers_any c b cc cb n m W hn hm x y)
  rw [err2_left k2] at HC4
  have HC5 := hidE (fun (W : World) (x : IntsAt W c n) (y : IntsAt W p j) => seenCovers_any c p cc cj n j W hn HJL.out x y)
  rw [err2_left kj] at HC5
  have HCV : Hid (chkSeen n = 0 → covOf n l = covL n l ∧ covOf n m = covL n m ∧ covOf n j = (covL n l && covL n m)) := fun kn => ⟨covOf_ok kn k1, covOf_ok kn k2, by rw [covOf_ok kn kj, hj]; exact cov_join k1 k2 kn⟩
  rw [he]
  clear he k1 k2 hj kj HJ0 HJ1 HE0
  go_wp2_with fail
  refine HC.out.mono ?_
  rintro e w3 ⟨rfl, hb⟩
  replace HF := hidE (HF.out.below hb)
  replace hB := hB.thru hb hz
  replace hz := Nat.le_trans hz hb.size
  clear hb HC
  go_wp2_with fail
  refine (HC2.out _ HF.out.j HF.out.m).mono ?_
  rintro e w4 ⟨rfl, hb⟩
  replace HF := hidE (HF.out.below hb)
  replace hB := hB.thru hb hz
  replace hz := Nat.le_trans hz hb.size
  clear hb HC2
  go_wp2_with fail
  refine (HC3.out _ HF.out.n HF.out.l).mono ?_
  rintro e w5 ⟨rfl, hb⟩
  replace HF := hidE (HF.out.below hb)
  replace hB := hB.thru hb hz
  replace hz := Nat.le_trans hz hb.size
  clear hb HC3
  go_wp2_with fail
  refine (HC4.out _ HF.out.n HF.out.m).mono ?_
  rintro e w6 ⟨rfl, hb⟩
  replace HF := hidE (HF.out.below hb)
  replace hB := hB.thru hb hz
  replace hz := Nat.le_trans hz hb.size
  clear hb HC4
  go_wp2_with fail
  refine (HC5.out _ HF.out.n HF.out.j).mono ?_
  rintro e w7 ⟨rfl, hb⟩
  replace hB := hB.thru hb hz
  clear hb HC5 HF
  by_cases hk : chkSeen n = 0
  · obtain ⟨e1, e2, e3⟩ := HCV.out hk
    rw [hk, e1, e2, e3]
    clear hk e1 e2 e3 HCV
    generalize covL n l = x
    generalize covL n m = y
    cases x <;> cases y
    all_goals
      go_wp2_with fail
      go_ret
      exact ⟨rfl, hB⟩
  · have hkb : (chkSeen n != 0) = true := by rw [bne_iff_ne]; exact hk
    clear hk HCV
    go_wp2_with fail
    go_ret
    exact ⟨ret_bool (by simp), hB⟩
end Go.Proofs.Ytlpfnpkmgkbngae
