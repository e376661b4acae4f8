/- Contract of the law StateDoes. -/
import Derived.Test.YtnhjebdlcbhkcaeGreatDoC
import Derived.Test.YtnhjebdlcbhkcaeGreatSBeg
import Derived.Test.YtnhjebdlcbhkcaeGreatStateCk
import Derived.Test.YtnhjebdlcbhkcaeGreatDPut
import Derived.Test.YtnhjebdlcbhkcaeGreatPutLe
import Derived.Test.YtnhjebdlcbhkcaeGreatRestC
namespace Go.Proofs.YtnhjebdlcbhkcaeGreat
open Go.RowKit

def StP (l : List At) (g : List Mk) (ds : List Dd) (p : Option Addr) (n c : Nat) (q : Option Addr) (m d : Nat) (w : World) : Prop :=
  (errAll l g ds ≠ 0 ∧ p = none ∧ n = 0 ∧ c = 0 ∧ q = none ∧ m = 0 ∧ d = 0) ∨
  (errAll l g ds = 0 ∧ ∃ l' g', doAll l g ds = some (l', g') ∧ n = List.length l' ∧ m = List.length g' ∧ AtomsAt w p l' ∧ MarksAt w q g' ∧ l'.length ≤ maxLen ∧ g'.length ≤ maxLen)

theorem StP.below {l : List At} {g : List Mk} {ds : List Dd} {p q : Option Addr} {n c m d : Nat} {w w' : World} (h : StP l g ds p n c q m d w) (hb : Below w.heap.size w w') : StP l g ds p n c q m d w' := by
  rcases h with h | ⟨h0, l', g', h1, h2, h3, h4, h5, h6, h7⟩
  · exact Or.inl h
  · exact Or.inr ⟨h0, l', g', h1, h2, h3, h4.below hb (Nat.le_refl _), h5.below hb (Nat.le_refl _), h6, h7⟩

theorem AllPost.stP {l : List At} {g : List Mk} {ds : List Dd} {base : Nat} {e : Ending} {w : World} (h : AllPost l g ds base e w) : ∃ p n c q m d, e = .returned (.tuple #[.agg #[.slice p n c, .slice q m d], .int .i64 (errAll l g ds)]) ∧ StP l g ds p n c q m d w := by
  rcases h with ⟨hne, rfl⟩ | ⟨h0, l', g', p, c, q, d, hok, hda, hok', rfl, hP, hM⟩
  · exact ⟨none, 0, 0, none, 0, 0, rfl, Or.inl ⟨hne, rfl, rfl, rfl, rfl, rfl, rfl⟩⟩
  · obtain ⟨p1, c1, e1, hat, _⟩ := hP.owns.atoms (Below.refl _ _)
    cases e1
    obtain ⟨p2, c2, e2, hmk, _⟩ := hM.marks
    cases e2
    have hl3 := hok'.atoms.len
    have hg6 := hok'.len
    exact ⟨p, l'.length, c, q, g'.length, d, by rw [h0], Or.inr ⟨h0, l', g', hda, rfl, rfl, hat, hmk, by unfold maxLen; omega, by unfold maxLen; omega⟩⟩

theorem AllR.stP {l : List At} {g : List Mk} {ds : List Dd} {e : Ending} {w : World} (h : AllR l g ds e w) : ∃ p n c q m d, e = .returned (.tuple #[.agg #[.slice p n c, .slice q m d], .int .i64 (errAll l g ds)]) ∧ StP l g ds p n c q m d w := by
  rcases h with ⟨hne, rfl⟩ | ⟨h0, l', g', p, c, q, d, hda, hok', rfl, hat, hmk⟩
  · exact ⟨none, 0, 0, none, 0, 0, rfl, Or.inl ⟨hne, rfl, rfl, rfl, rfl, rfl, rfl⟩⟩
  · have hl3 := hok'.atoms.len
    have hg6 := hok'.len
    exact ⟨p, l'.length, c, q, g'.length, d, by rw [h0], Or.inr ⟨h0, l', g', hda, rfl, rfl, hat, hmk, by unfold maxLen; omega, by unfold maxLen; omega⟩⟩

theorem stateIs_two {l : List At} {g : List Mk} {ds : List Dd} {p q p' q' : Option Addr} {n c m d n' c' m' d' : Nat} {w : World} (h : StP l g ds p n c q m d w) (h' : StP l g ds p' n' c' q' m' d' w) :
    Calls Tryz.prog 17 #[.agg #[.slice p n c, .slice q m d], .int .i64 (errAll l g ds), .int .i64 (errAll l g ds), .agg #[.slice p' n' c', .slice q' m' d']] w fun e w' => e = .returned (.bool true) ∧ Below w.heap.size w w' := by
  rcases h with ⟨hne, rfl, rfl, rfl, rfl, rfl, rfl⟩ | ⟨h0, l1, g1, h1, rfl, rfl, h4, h5, h6, h7⟩
  · exact stateIs_err _ _ _ _ _ _ _ w hne
  · rcases h' with ⟨hne, _⟩ | ⟨_, l2, g2, k1, rfl, rfl, k4, k5, _, _⟩
    · exact absurd h0 hne
    · obtain ⟨rfl, rfl⟩ : l1 = l2 ∧ g1 = g2 := by rw [h1] at k1; cases k1; exact ⟨rfl, rfl⟩
      rw [h0]
      exact stateIs_ok p p' q q' c c' d d' l1 g1 w h6 h7 h4 k4 h5 k5

structure LawAt (w : World) (Z : Nat) (a b r : Option Addr) (cap cap' : Nat) (l : List At) (g : List Mk) (ds : List Dd) (d : Dd) (p q : Option Addr) (cp cq : Nat) : Prop where
  s0 : w.cell? ⟨Z, 0, none⟩ = some (.slice a l.length cap)
  s1 : w.cell? ⟨Z, 1, none⟩ = some (.slice b g.length cap')
  c0 : w.cell? ⟨Z + 1, 0, none⟩ = some (.int .i64 d.kind)
  c1 : w.cell? ⟨Z + 1, 1, none⟩ = some (.slice p d.rp.length cp)
  c2 : w.cell? ⟨Z + 1, 2, none⟩ = some (.int .i64 d.rc)
  c3 : w.cell? ⟨Z + 1, 3, none⟩ = some (.string d.rt)
  c4 : w.cell? ⟨Z + 1, 4, none⟩ = some (.slice q d.mp.length cq)
  c5 : w.cell? ⟨Z + 1, 5, none⟩ = some (.int .i64 d.mc)
  c6 : w.cell? ⟨Z + 1, 6, none⟩ = some (.int .i64 d.many)
  lt : Z + 1 < w.heap.size
  atoms : AtomsAt w a l
  gone : MarksAt w b g
  deeds : DeedsAt w r ds
  deed : DdAt w d p q

theorem LawAt.below {w w' : World} {Z : Nat} {a b r : Option Addr} {cap cap' : Nat} {l : List At} {g : List Mk} {ds : List Dd} {d : Dd} {p q : Option Addr} {cp cq : Nat} (h : LawAt w Z a b r cap cap' l g ds d p q cp cq) (hb : Below w.heap.size w w') : LawAt w' Z a b r cap cap' l g ds d p q cp cq := by
  have lt := h.lt
  have lt0 : Z < w.heap.size := by omega
  exact ⟨(hb.cell (p := ⟨Z, 0, none⟩) lt0).trans h.s0, (hb.cell (p := ⟨Z, 1, none⟩) lt0).trans h.s1, (hb.cell (p := ⟨Z + 1, 0, none⟩) lt).trans h.c0, (hb.cell (p := ⟨Z + 1, 1, none⟩) lt).trans h.c1, (hb.cell (p := ⟨Z + 1, 2, none⟩) lt).trans h.c2, (hb.cell (p := ⟨Z + 1, 3, none⟩) lt).trans h.c3, (hb.cell (p := ⟨Z + 1, 4, none⟩) lt).trans h.c4, (hb.cell (p := ⟨Z + 1, 5, none⟩) lt).trans h.c5, (hb.cell (p := ⟨Z + 1, 6, none⟩) lt).trans h.c6, Nat.lt_of_lt_of_le lt hb.size, h.atoms.below hb (Nat.le_refl _), h.gone.below hb (Nat.le_refl _), h.deeds.below hb, h.deed.below hb⟩

structure AnsAt (w : World) (T : Nat) (l : List At) (g : List Mk) (ds : List Dd) (p : Option Addr) (n c : Nat) (q : Option Addr) (m d : Nat) : Prop where
  c0 : w.cell? ⟨T, 0, none⟩ = some (.slice p n c)
  c1 : w.cell? ⟨T, 1, none⟩ = some (.slice q m d)
  lt : T < w.heap.size
  st : StP l g ds p n c q m d w

theorem AnsAt.below {w w' : World} {T : Nat} {l : List At} {g : List Mk} {ds : List Dd} {p q : Option Addr} {n c m d : Nat} (h : AnsAt w T l g ds p n c q m d) (hb : Below w.heap.size w w') : AnsAt w' T l g ds p n c q m d :=
  ⟨(hb.cell (p := ⟨T, 0, none⟩) h.lt).trans h.c0, (hb.cell (p := ⟨T, 1, none⟩) h.lt).trans h.c1, Nat.lt_of_lt_of_le h.lt hb.size, h.st.below hb⟩

theorem AnsAt.new {w : World} {l : List At} {g : List Mk} {ds : List Dd} {p q : Option Addr} {n c m d : Nat} (h : StP l g ds p n c q m d w) : AnsAt (w.alloc (Obj.cells #[.slice p n c, .slice q m d] 25)) w.heap.size l g ds p n c q m d :=
  ⟨by simp, by simp, by simp, h.below ((Below.refl w.heap.size w).alloc (Nat.le_refl _) _)⟩

end Go.Proofs.YtnhjebdlcbhkcaeGreat

namespace Go.Proofs.YtnhjebdlcbhkcaeGreat
open Go.RowKit

theorem atomsAt_drop1 {w : World} {g : Nat} (h : AtomsAt w (some ⟨g, 0, none⟩) hiL) : AtomsAt w (some ⟨g, 3, none⟩) (hiL.drop 1) := by
  rcases h with h | ⟨b, off, e, hlt, hc⟩
  · simp [hiL] at h
  · cases e
    refine Or.inr ⟨g, 3, rfl, hlt, fun i hi => ?_⟩
    have h0 : i = 0 := by simp [hiL] at hi; omega
    subst h0
    exact hc 1 (by simp [hiL])
theorem atomsAt_take1 {w : World} {g : Nat} (h : AtomsAt w (some ⟨g, 0, none⟩) hiL) : AtomsAt w (some ⟨g, 0, none⟩) (hiL.take 1) := by
  rcases h with h | ⟨b, off, e, hlt, hc⟩
  · simp [hiL] at h
  · cases e
    refine Or.inr ⟨g, 0, rfl, hlt, fun i hi => ?_⟩
    have h0 : i = 0 := by simp [hiL] at hi; omega
    subst h0
    exact hc 0 (by simp [hiL])

set_option maxRecDepth 100000 in
set_option maxHeartbeats 1000000 in
theorem atomBegun_true (w : World) : Calls Tryz.prog 7 #[] w fun e w' => e = .returned (.bool true) ∧ Below w.heap.size w w' := by
  go_enter Tryz.func7, Tryz.ntmps7
  go_wp2_with fail
  refine (hi_any w).mono ?_
  rintro e w1 ⟨g1, rfl, ha1, hb1⟩
  go_wp2_with fail
  refine (text_ok _ _ hiL _ ha1 hiL_chk).mono ?_
  rintro e w2 ⟨rfl, hb2⟩
  rw [hi_txt]
  have hB2 := hb1.thru hb2 hb1.size
  clear hb1 hb2 ha1
  go_upto_region 2 with fail
  have hBd : Below w2.heap.size w2 w2.drew := (Below.refl _ _).drew
  go_cut [3, 4] (fun t f wc => ∃ p c, t = .slice p 2 c ∧ f = .int .i64 0 ∧ AtomsAt wc p hiL ∧ Below w2.heap.size w2 wc)
  case first =>
    go_region_held3 (fun _ => True) (trivial)
      (first
        | (go_at_call 20; refine (put_is _ _ _ _ (hiL.drop 1) (hiL.take 1) _ (atomsAt_drop1 (by first | exact hx2 | exact hx1')) (atomsAt_take1 (by first | exact hx1' | exact hx2)) hi1_chk hi0_chk (by decide)).mono ?_; rintro e w5 ⟨p5, c5, rfl, hat5, hb5⟩)
        | (go_at_call 21; refine (hi_any _).mono ?_; rintro e w4 ⟨gb, rfl, hx2, hb4⟩; have hx1' := hx1.below hb4 (Nat.le_refl _))
        | (go_at_call 21; refine (hi_any _).mono ?_; rintro e w3 ⟨ga, rfl, hx1, hb3⟩))
    have hB3 : Below w2.heap.size w2 w3 := hBd.thru hb3 (Nat.le_refl _)
    have hB4 := hB3.thru hb4 hB3.size
    have hB5 := hB4.thru hb5 hB4.size
    rw [hi_put] at hat5
    go_wp2_with fail
    go_meet
    exact ⟨p5, c5, by rfl, rfl, hat5, hB5⟩
  case rest =>
    obtain ⟨p3, c3, rfl, rfl, hat3, hb3⟩ := hcut
    have hB3 := hB2.thru hb3 hB2.size
    clear hBd hb3 hB2
    go_wp2_with fail
    refine (hi_any _).mono ?_
    rintro e w4 ⟨g4, rfl, ha4, hb4⟩
    replace hat3 := hat3.below hb4 (Nat.le_refl _)
    replace hB3 := hB3.thru hb4 hB3.size
    clear hb4
    go_wp2_with fail
    refine (at_any 3 0 1 _).mono ?_
    rintro e w5 ⟨rfl, hs5, hb5⟩
    replace hat3 := hat3.below hb5 (Nat.le_refl _)
    replace hB3 := hB3.thru hb5 hB3.size
    replace ha4 := ha4.below hb5 (Nat.le_refl _)
    clear hb5
    go_wp2_with fail
    have hbn : Below w5.heap.size w5 (w5.alloc (Obj.cells #[.slice (some ⟨w4.heap.size + 1, 0, none⟩) 1 1, .int .i64 1] 42)) := (Below.refl _ _).alloc (Nat.le_refl _) _
    have hmk : MarksAt (w5.alloc (Obj.cells #[.slice (some ⟨w4.heap.size + 1, 0, none⟩) 1 1, .int .i64 1] 42)) (some ⟨w5.heap.size, 0, none⟩) [([(3, 0)], 1)] := by
      refine Or.inr ⟨w5.heap.size, 0, rfl, by simp, fun i hi => ?_⟩
      have h0 : i = 0 := by simp at hi; omega
      subst h0
      exact ⟨_, 1, by simp, by simp, hs5.below hbn (Nat.le_refl _), by simp [maxLen]⟩
    replace hat3 := hat3.below hbn (Nat.le_refl _)
    replace ha4 := ha4.below hbn (Nat.le_refl _)
    replace hB3 := hB3.thru hbn hB3.size
    clear hs5
    generalize w5.alloc (Obj.cells #[.slice (some ⟨w4.heap.size + 1, 0, none⟩) 1 1, .int .i64 1] 42) = w6 at hmk hat3 ha4 hB3 ⊢
    refine (take_is _ _ _ _ hiL [([(3, 0)], 1)] _ ha4 hiL_chk (by simp [maxLen]) hmk).mono ?_
    rintro e w7 ⟨p7, c7, rfl, hat7, hb7⟩
    rw [hi_take] at hat7 ⊢
    replace hat3 := hat3.below hb7 (Nat.le_refl _)
    replace hB3 := hB3.thru hb7 hB3.size
    clear hb7 ha4 hmk hbn
    go_wp2_with fail
    refine (hi_any _).mono ?_
    rintro e w8 ⟨g8, rfl, ha8, hb8⟩
    replace hat3 := hat3.below hb8 (Nat.le_refl _)
    replace hat7 := hat7.below hb8 (Nat.le_refl _)
    replace hB3 := hB3.thru hb8 hB3.size
    clear hb8
    go_wp2_with fail
    refine (atomCheck_any _ _ hiL _ (by simp [maxLen, hiL]) ha8).mono ?_
    rintro e w9 ⟨rfl, hb9⟩
    rw [hiL_chk]
    replace hat3 := hat3.below hb9 (Nat.le_refl _)
    replace hat7 := hat7.below hb9 (Nat.le_refl _)
    replace hB3 := hB3.thru hb9 hB3.size
    clear hb9 ha8
    go_wp2_with fail
    refine (hi_any _).mono ?_
    rintro e w10 ⟨g10, rfl, ha10, hb10⟩
    replace hat3 := hat3.below hb10 (Nat.le_refl _)
    replace hat7 := hat7.below hb10 (Nat.le_refl _)
    replace hB3 := hB3.thru hb10 hB3.size
    clear hb10
    go_wp2_with fail
    refine (sameAtoms_any _ _ _ _ hiL hiL _ (by simp [maxLen, hiL]) (by simp [maxLen, hiL]) hat3 ha10).mono ?_
    rintro e w11 ⟨rfl, hb11⟩
    rw [sameL_refl]
    replace hat7 := hat7.below hb11 (Nat.le_refl _)
    replace hB3 := hB3.thru hb11 hB3.size
    clear hb11 hat3 ha10
    go_wp2_with fail
    refine (hi_any _).mono ?_
    rintro e w12 ⟨g12, rfl, ha12, hb12⟩
    replace hat7 := hat7.below hb12 (Nat.le_refl _)
    replace hB3 := hB3.thru hb12 hB3.size
    clear hb12
    go_wp2_with fail
    refine (sameAtoms_any _ _ _ _ (hiL.drop 1) (hiL.drop 1) _ (by simp [maxLen, hiL]) (by simp [maxLen, hiL]) hat7 (atomsAt_drop1 ha12)).mono ?_
    rintro e w13 ⟨rfl, hb13⟩
    rw [sameL_refl]
    replace hB3 := hB3.thru hb13 hB3.size
    go_wp2_with fail
    go_ret
    exact ⟨rfl, hB3⟩
end Go.Proofs.YtnhjebdlcbhkcaeGreat

namespace Go.Proofs.YtnhjebdlcbhkcaeGreat
open Go.RowKit

end Go.Proofs.YtnhjebdlcbhkcaeGreat
