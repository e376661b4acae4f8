/- Contract of the law SeenJoins. -/
import Derived.Test.YtlpfnpkmgkbngaeSeenPu
import Derived.Test.YtlpfnpkmgkbngaeSeenB
namespace Go.Proofs.Ytlpfnpkmgkbngae
open Go.RowKit

/-- lists that lie somewhere: three that were handed in, and others -/
structure SixI (w : World) (a b c : Option Addr) (l m n : List Int) (r : List (Option Addr × List Int)) : Prop where
  l : IntsAt w a l
  m : IntsAt w b m
  n : IntsAt w c n
  r : ∀ x ∈ r, IntsAt w x.1 x.2
theorem SixI.below {w w' : World} {a b c : Option Addr} {l m n : List Int} {r : List (Option Addr × List Int)} (h : SixI w a b c l m n r) (hb : Below w.heap.size w w') : SixI w' a b c l m n r := ⟨h.l.below hb, h.m.below hb, h.n.below hb, fun x hx => (h.r x hx).below hb⟩
theorem SixI.put {w w' : World} {a b c : Option Addr} {l m n : List Int} {r : List (Option Addr × List Int)} (h : SixI w a b c l m n r) (hb : Below w.heap.size w w') (p : Option Addr) (j : List Int) (hj : IntsAt w' p j) : SixI w' a b c l m n ((p, j) :: r) := ⟨h.l.below hb, h.m.below hb, h.n.below hb, fun x hx => by
  rcases List.mem_cons.1 hx with rfl | hx
  · exact hj
  · exact (h.r x hx).below hb⟩

set_option maxRecDepth 100000 in
set_option maxHeartbeats 4000000 in
theorem seenJoins_ok (a b c : Option Addr) (ca cb cc : Nat) (l m n : List Int) (w : World) (hl : l.length ≤ maxLen) (hm : m.length ≤ maxLen) (hn : n.length ≤ maxLen) (h1 : IntsAt w a l) (h2 : IntsAt w b m) (h3 : IntsAt w c n) :
    Calls Try.prog 5 #[.slice a l.length ca, .slice b m.length cb, .slice c n.length cc] w fun e w' => e = .returned (.bool true) ∧ Below w.heap.size w w' := by
  have HF := hidE (SixI.mk (r := []) h1 h2 h3 (fun x hx => by simp at hx))
  clear h1 h2 h3
  go_enter Try.func5, Try.ntmps5
  go_wp2_with fail
  refine (seenBegun_true w).mono ?_
  rintro e w1 ⟨rfl, hb⟩
  have hB := hb
  have hz := hB.size
  replace HF := hidE (HF.out.below hb)
  clear hb
  have HC := hidE (seenJoin_any a b ca cb l m w1 hl hm HF.out.l HF.out.m)
  go_wp2_with fail
  refine HC.out.mono ?_
  rintro e w2 ⟨p, cj, rfl, h4, hb⟩
  replace HF := hidE (HF.out.put hb p _ h4)
  replace hB := hB.thru hb hz
  replace hz := Nat.le_trans hz hb.size
  clear HC hb h4
  have hJL := @joinOf_len l m
  have HJL := hidE hJL
  clear hJL
  have HJ0 := hidE (@joinOf_err l m)
  have HJ1 := hidE (@joinOf_ok l m)
  have HE0 := hidE (@err2_zero l m)
  generalize joinOf l m = j at *
  by_cases he : err2 l m = 0
  case neg =>
    have hj := HJ0.out he
    subst hj
    have heb : (err2 l m != 0) = true := by rw [bne_iff_ne]; exact he
    clear he
    go_wp2_with fail
    go_ret
    exact ⟨rfl, hB⟩
  obtain ⟨k1, k2⟩ := HE0.out he
  have hj := HJ1.out k1 k2
  have kj : chkSeen j = 0 := by rw [hj]; exact chk_join k1 k2
  have HC := hidE (seenJoin_any b a cb ca m l w2 hm hl HF.out.m HF.out.l)
  rw [err2_mk k2, k1, joinOf_ok k2 k1, ← join_comm k1 k2, ← hj] at HC
  have HC2 := hidE (fun (W : World) (x : IntsAt W a l) => seenJoin_any a a ca ca l l W hl hl x x)
  rw [err2_mk k1, k1, joinOf_ok k1 k1, join_self k1] at HC2
  have HC3 := hidE (fun (W : World) (x : IntsAt W p j) (y : IntsAt W c n) => seenJoin_any p c cj cc j n W HJL.out hn x y)
  rw [err2_mk kj] at HC3
  have HC4 := hidE (fun (W : World) (x : IntsAt W b m) (y : IntsAt W c n) => seenJoin_any b c cb cc m n W hm hn x y)
  rw [err2_mk k2] at HC4
  have HC5 := hidE (fun (W : World) (q : Option Addr) (cq : Nat) (kn : chkSeen n = 0) (x : IntsAt W a l) (y : IntsAt W q (joinOf m n)) => (show Calls Try.prog 6 #[.slice a l.length ca, .slice q (joinOf m n).length cq] W fun e w' => ∃ p c, e = .returned (.tuple #[.slice p (joinOf j n).length c, .int .i64 0]) ∧ IntsAt w' p (joinOf j n) ∧ Below W.heap.size W w' from by
    have hc := seenJoin_any a q ca cq l (joinOf m n) W hl joinOf_len x y
    have ky : chkSeen (joinOf m n) = 0 := by rw [joinOf_ok k2 kn]; exact chk_join k2 kn
    have ej : joinOf l (joinOf m n) = joinOf j n := by rw [joinOf_ok k1 ky, joinOf_ok k2 kn, joinOf_ok kj kn, hj, join_assoc k1 k2 kn]
    rw [err2_mk k1, ky, ej] at hc
    exact hc))
  have HS := hidE (fun (W : World) (q r : Option Addr) (cq cr : Nat) (x : List Int) (hx : x.length ≤ maxLen) (h : IntsAt W q x) (h' : IntsAt W r x) => (show Calls Try.prog 14 #[.slice q x.length cq, .slice r x.length cr] W fun e w' => e = .returned (.bool true) ∧ Below W.heap.size W w' from by
    have hs := sameInts_any q r cq cr x x W hx hx h h'
    rw [decide_eq_true rfl] at hs
    exact hs))
  have HX0 := hidE (@joinOf_err j n)
  have HXE : Hid (err2 j n = chkSeen n) := err2_mk kj
  have HXL := hidE (@joinOf_len j n)
  rw [he]
  clear he k1 k2 hj kj HJ0 HJ1 HE0
  go_wp2_with fail
  refine HC.out.mono ?_
  rintro e w3 ⟨p2, c2, rfl, h4, hb⟩
  replace HF := hidE (HF.out.put hb p2 _ h4)
  replace hB := hB.thru hb hz
  replace hz := Nat.le_trans hz hb.size
  clear hb HC h4
  go_wp2_with fail
  refine (HC2.out _ HF.out.l).mono ?_
  rintro e w4 ⟨p3, c3, rfl, h4, hb⟩
  replace HF := hidE (HF.out.put hb p3 _ h4)
  replace hB := hB.thru hb hz
  replace hz := Nat.le_trans hz hb.size
  clear hb HC2 h4
  go_wp2_with fail
  refine (HS.out _ p p2 cj c2 j HJL.out (HF.out.r (p, j) (by simp)) (HF.out.r (p2, j) (by simp))).mono ?_
  rintro e w5 ⟨rfl, hb⟩
  replace HF := hidE (HF.out.below hb)
  replace hB := hB.thru hb hz
  replace hz := Nat.le_trans hz hb.size
  clear hb
  go_wp2_with fail
  refine (HS.out _ p3 a c3 ca l hl (HF.out.r (p3, l) (by simp)) HF.out.l).mono ?_
  rintro e w6 ⟨rfl, hb⟩
  replace HF := hidE (HF.out.below hb)
  replace hB := hB.thru hb hz
  replace hz := Nat.le_trans hz hb.size
  clear hb
  go_wp2_with fail
  refine (HC3.out _ (HF.out.r (p, j) (by simp)) HF.out.n).mono ?_
  rintro e w7 ⟨p4, c4, rfl, h4, hb⟩
  replace HF := hidE (HF.out.put hb p4 _ h4)
  replace hB := hB.thru hb hz
  replace hz := Nat.le_trans hz hb.size
  clear hb h4 HC3
  by_cases hk : chkSeen n = 0
  case neg =>
    have hx := HX0.out (by rw [HXE.out]; exact hk)
    rw [hx]
    have hkb : (chkSeen n != 0) = true := by rw [bne_iff_ne]; exact hk
    clear hk hx
    go_wp2_with fail
    go_ret
    exact ⟨rfl, hB⟩
  have HK := hidE hk
  rw [hk]
  rw [hk] at HC4
  clear hk
  generalize joinOf j n = x at *
  generalize joinOf m n = y at *
  go_wp2_with fail
  refine (HC4.out _ HF.out.m HF.out.n).mono ?_
  rintro e w8 ⟨p5, c5, rfl, h4, hb⟩
  replace HF := hidE (HF.out.put hb p5 _ h4)
  replace hB := hB.thru hb hz
  replace hz := Nat.le_trans hz hb.size
  clear hb h4 HC4
  go_wp2_with fail
  refine (HC5.out _ p5 c5 HK.out HF.out.l (HF.out.r (p5, y) (by simp))).mono ?_
  rintro e w9 ⟨p6, c6, rfl, h4, hb⟩
  replace HF := hidE (HF.out.put hb p6 _ h4)
  replace hB := hB.thru hb hz
  replace hz := Nat.le_trans hz hb.size
  clear hb h4 HC5
  go_wp2_with fail
  refine (HS.out _ p4 p6 c4 c6 x HXL.out (HF.out.r (p4, x) (by simp)) (HF.out.r (p6, x) (by simp))).mono ?_
  rintro e w10 ⟨rfl, hb⟩
  replace hB := hB.thru hb hz
  clear hb
  go_wp2_with fail
  go_ret
  exact ⟨rfl, hB⟩
end Go.Proofs.Ytlpfnpkmgkbngae
