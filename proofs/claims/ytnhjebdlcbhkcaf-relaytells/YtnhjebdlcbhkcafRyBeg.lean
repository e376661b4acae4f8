/- The law's relayBegun. -/
import Derived.Test.YtnhjebdlcbhkcafPostC
import Derived.Test.YtnhjebdlcbhkcafPullC
import Derived.Test.YtnhjebdlcbhkcafLawNote
import Derived.Test.YtnhjebdlcbhkcafNotesOwn
import Derived.Test.YtnhjebdlcbhkcafNotesRo
import Derived.Deep.DeepCutAuto
namespace Go.Proofs.Ytnhjebdlcbhkcaf
open Go.RowKit

/-- a relay that is there, whether, and what is wrong -/
theorem posted_at {ns : List Nt} {is : Bool} {er : Int} {w w' : World} {e : Ending} (h : Posted ns is er w e w') : ∃ p cap, e = .returned (.tuple #[.agg #[.slice p ns.length cap], .bool is, .int .i64 er]) ∧ NotesAt w' p ns ∧ ns.length ≤ cap ∧ cap ≤ maxLen ∧ Below w.heap.size w w' := by
  obtain ⟨rs, p, cap, rfl, hm, hr, hb⟩ := h
  have hl : rs.length = ns.length := by rw [← hm, List.length_map]
  have hN := notes_own hr hl
  rw [hm] at hN
  refine ⟨p, cap, rfl, hN, ?_, ?_, hb⟩
  · rcases hr.own.2 with ⟨e, h0⟩ | ⟨g, c, cur, e, _, _, h1, h2, _⟩
    · simp only [Value.slice.injEq] at e; omega
    · simp only [Value.slice.injEq] at e; omega
  · rcases hr.own.2 with ⟨e, h0⟩ | ⟨g, c, cur, e, _, _, h1, h2, _⟩
    · simp only [Value.slice.injEq] at e; omega
    · simp only [Value.slice.injEq] at e; omega
theorem pulled_at {ns : List Nt} {er : Int} {w w' : World} {e : Ending} (h : NsTell ns er w e w') : ∃ p cap, e = .returned (.tuple #[.slice p ns.length cap, .int .i64 er]) ∧ NotesAt w' p ns ∧ ns.length ≤ cap ∧ cap ≤ maxLen ∧ Below w.heap.size w w' := by
  obtain ⟨rs, p, cap, rfl, hm, hr, hb⟩ := h
  have hl : rs.length = ns.length := by rw [← hm, List.length_map]
  have hN := notes_own hr hl
  rw [hm] at hN
  refine ⟨p, cap, rfl, hN, ?_, ?_, hb⟩
  · rcases hr.own.2 with ⟨e, h0⟩ | ⟨g, c, cur, e, _, _, h1, h2, _⟩
    · simp only [Value.slice.injEq] at e; omega
    · simp only [Value.slice.injEq] at e; omega
  · rcases hr.own.2 with ⟨e, h0⟩ | ⟨g, c, cur, e, _, _, h1, h2, _⟩
    · simp only [Value.slice.injEq] at e; omega
    · simp only [Value.slice.injEq] at e; omega

/-- one note in a block of its own -/
theorem notes1_at {w : World} {n : Nt} {p q : Option Addr} {cp cq : Nat} {t : TypeId} (h : NtAt w n p q) : NotesAt (w.alloc (Obj.cells #[.int .i64 n.site, .int .i64 n.number, .slice p n.needs.length cp, .slice q n.deeds.length cq] t)) (some ⟨w.heap.size, 0, none⟩) [n] := by
  have hX := Blk.new w #[.int .i64 n.site, .int .i64 n.number, .slice p n.needs.length cp, .slice q n.deeds.length cq] t
  refine Or.inr ⟨_, 0, rfl, hX.lt, fun i hi => ?_⟩
  obtain rfl : i = 0 := by simpa using hi
  exact ⟨p, cp, q, cq, hX.is 0 rfl, hX.is 1 rfl, hX.is 2 rfl, hX.is 3 rfl, h.below (alloc_below _ _)⟩

theorem post_hi0 (w : World) (p q : Option Addr) (h : NtAt w nHi p q) : Calls Try.prog 4 #[.agg #[.slice none 0 0], .agg #[.int .i64 0, .int .i64 1, .slice p 5 5, .slice q 1 1]] w fun e w' => ∃ pp cap, e = .returned (.tuple #[.agg #[.slice pp 1 cap], .bool true, .int .i64 0]) ∧ (NotesAt w' pp [nHi] ∧ 1 ≤ cap ∧ cap ≤ maxLen) ∧ Below w.heap.size w w' := by
  refine (post_any none 0 [] nHi p q 5 1 w (Or.inl rfl) (by simp) h).mono fun e w' hP => ?_
  rw [show postL [] nHi = [nHi] by (unfold postL; rw [show postE [] nHi = 0 by decide, show postI [] nHi = true by decide]; rfl), show postI [] nHi = true by decide, show postE [] nHi = 0 by decide] at hP
  obtain ⟨pp, cap, rfl, h1, h2, h3, h4⟩ := posted_at hP
  exact ⟨pp, cap, rfl, ⟨h1, h2, h3⟩, h4⟩
theorem post_hi1 (w : World) (a : Option Addr) (c : Nat) (hA : NotesAt w a [nHi]) (p q : Option Addr) (h : NtAt w nHi p q) : Calls Try.prog 4 #[.agg #[.slice a 1 c], .agg #[.int .i64 0, .int .i64 1, .slice p 5 5, .slice q 1 1]] w fun e w' => ∃ rs pp cap, e = .returned (.tuple #[.agg #[.slice pp 1 cap], .bool false, .int .i64 0]) ∧ rs.map RN.n = [nHi] ∧ RowOwn 28 4 RN.cells NtO w' w.heap.size (.slice pp 1 cap) rs ∧ Below w.heap.size w w' := by
  refine (post_any a c [nHi] nHi p q 5 1 w hA (by simp [maxLen]) h).mono fun e w' hP => ?_
  rw [show postL [nHi] nHi = [nHi] by (unfold postL; rw [show postE [nHi] nHi = 0 by decide, show postI [nHi] nHi = false by decide]; rfl), show postI [nHi] nHi = false by decide, show postE [nHi] nHi = 0 by decide] at hP
  obtain ⟨rs, pp, cap, rfl, h1, h2, h3⟩ := hP
  exact ⟨rs, pp, cap, rfl, h1, h2, h3⟩
theorem box_old {w : World} {Z base n cq : Nat} {qq : Option Addr} {rs : List RN} {ns : List Nt} {v0 : Value} {t : TypeId} (hZ : Blk w Z #[v0] t) (hm : rs.map RN.n = ns) (hn : ns.length = n) (hr : RowOwn 28 4 RN.cells NtO w base (.slice qq n cq) rs) (hlt : Z < base) : Blk (w.setCell ⟨Z, 0, none⟩ (.slice qq n cq)) Z #[.slice qq n cq] t ∧ NotesAt (w.setCell ⟨Z, 0, none⟩ (.slice qq n cq)) qq ns := by
  have hl : rs.length = n := by rw [← hn, ← hm, List.length_map]
  refine ⟨hZ.set 0 _, ?_⟩
  have h := notes_own (hr.far (NtO.stays Z) hlt (grownBy_set' w Z 0 (.slice qq n cq))) hl
  rw [hm] at h
  exact h
theorem box_new {w : World} {base n cq : Nat} {qq : Option Addr} {rs : List RN} {ns : List Nt} {t : TypeId} (hm : rs.map RN.n = ns) (hn : ns.length = n) (hr : RowOwn 28 4 RN.cells NtO w base (.slice qq n cq) rs) : Blk (w.alloc (Obj.cells #[.slice qq n cq] t)) w.heap.size #[.slice qq n cq] t ∧ NotesAt (w.alloc (Obj.cells #[.slice qq n cq] t)) qq ns := by
  have hl : rs.length = n := by rw [← hn, ← hm, List.length_map]
  refine ⟨Blk.new _ _ _, ?_⟩
  have h := (notes_own hr hl).below (alloc_below _ (Obj.cells #[.slice qq n cq] t))
  rw [hm] at h
  exact h
theorem relPull_hi (w : World) (a : Option Addr) (c : Nat) (hA : NotesAt w a [nHi]) (h1 : 1 ≤ c) (h2 : c ≤ maxLen) : Calls Try.prog 5 #[.agg #[.slice a 1 c], .int .i64 0, .int .i64 9] w fun e w' => ∃ pp cap, e = .returned (.tuple #[.slice pp 1 cap, .int .i64 0]) ∧ NotesAt w' pp [nHi] ∧ Below w.heap.size w w' := by
  refine (pull_any a c [nHi] 0 9 w hA h1 h2).mono fun e w' hP => ?_
  rw [show pullL [nHi] 0 9 = [nHi] by (unfold pullL; rw [show pullE [nHi] 0 9 = 0 by decide]; rfl), show pullE [nHi] 0 9 = 0 by decide] at hP
  obtain ⟨pp, cap, rfl, h1, h2, h3, h4⟩ := pulled_at hP
  exact ⟨pp, cap, rfl, h1, h4⟩
theorem relCheck_hi (w : World) (a : Option Addr) (c : Nat) (hA : NotesAt w a [nHi]) : Calls Try.prog 10 #[.agg #[.slice a 1 c]] w fun e w' => e = .returned (.int .i64 0) ∧ Below w.heap.size w w' := by
  have := relayCheck_any a c [nHi] w hA (by simp [maxLen])
  rw [show chkRel [nHi] = 0 by decide] at this
  exact this
theorem sameNs_hi (w : World) (a a' : Option Addr) (c c' : Nat) (h : NotesAt w a [nHi]) (h' : NotesAt w a' [nHi]) : Calls Try.prog 11 #[.slice a 1 c, .slice a' 1 c'] w fun e w' => e = .returned (.bool true) ∧ Below w.heap.size w w' :=
  sameNotes_true a a' c c' [nHi] w (by simp [maxLen]) h h'

set_option maxRecDepth 100000 in
set_option maxHeartbeats 4000000 in
theorem relayBegun_true (w : World) :
    Calls Try.prog 9 #[] w fun e w' => e = .returned (.bool true) ∧ Below w.heap.size w w' := by
  have HNT : Hid (∀ w, Calls Try.prog 19 #[] w fun e w' => ∃ p q, e = .returned (.agg #[.int .i64 0, .int .i64 1, .slice p 5 5, .slice q 1 1]) ∧ NtAt w' nHi p q ∧ Below w.heap.size w w') := lawNote_any
  have HP0 := hidE post_hi0
  have HP1 := hidE post_hi1
  have HL := hidE relPull_hi
  have HC := hidE relCheck_hi
  have HS := hidE sameNs_hi
  go_enter Try.func9, Try.ntmps9
  go_upto_region 2 with (first
    | (go_at_call 19; refine (HNT.out _).mono ?_; rintro e w1 ⟨p1, q1, rfl, h1, hb1⟩)
    | (go_at_call 4; refine (HP0.out _ p1 q1 h1).mono ?_; rintro e w2 ⟨pp, cap, rfl, h2, hb2⟩))
  have hA := alloc_below w2 (Obj.cells #[.slice pp 1 cap] 24)
  have hX := Blk.new w2 #[.slice pp 1 cap] 24
  have hb12 := hb1.thru hb2 hb1.size
  have HB := hidE (hb12.thru hA hb12.size)
  have HN := hidE (h2.1.below hA)
  have hcap := h2.2
  clear h1 h2 hb1 hb2 hb12 hA
  generalize w2.alloc (Obj.cells #[.slice pp 1 cap] 24) = W at *
  generalize w2.heap.size = X at *
  have HX := hidE hX
  have x0 := hX.is 0 rfl
  have hlt := hX.lt
  clear hX
  go_cut [4, 5, 6] (fun t4 t5 t6 wc => ∃ Z qq cq, t4 = .pointer (some ⟨Z, 0, none⟩) ∧ t5 = .bool false ∧ t6 = .int .i64 0 ∧ Blk wc Z #[.slice qq 1 cq] 24 ∧ NotesAt wc qq [nHi] ∧ Below W.heap.size W wc)
  case first =>
    have hdd : Below W.heap.size W W.drew := (Below.refl _ _).drew
    have hda : Below W.heap.size W (W.drew.alloc (Obj.cells #[.slice none 0 0] 24)) := hdd.alloc (Nat.le_refl _) _
    have HDD := hidE hdd
    have HDA := hidE hda
    have HZA : Hid (Blk (W.drew.alloc (Obj.cells #[.slice none 0 0] 24)) W.heap.size #[.slice none 0 0] 24) := Blk.new W.drew _ _
    clear hdd hda
    go_region_with (first
      | (go_at_call 19; refine (HNT.out _).mono ?_; rintro e w3 ⟨p1, q1, rfl, h1, hb3⟩; have hB3 : Below W.heap.size W w3 := (by first | exact HDD.out.thru hb3 HDD.out.size | exact HDA.out.thru hb3 HDA.out.size); replace x0 := (HX.out.thruB hB3).is 0 rfl; have hN3 := HN.out.below hB3; have hlt3 := (HX.out.thruB hB3).lt)
      | (go_at_call 4; refine (HP1.out _ pp cap (by first | exact hN3 | exact hN3.below (alloc_below _ _)) p1 q1 (by first | exact h1 | exact h1.below (alloc_below _ _))).mono ?_; rintro e w4 ⟨rs, qq, cq, rfl, hm, hr, hb4⟩; first | (have hZ4 := (HZA.out.thruB hb3).thruB hb4; have z0 := hZ4.is 0 rfl; have zf := hZ4.frozen) | (have hZ4 := (Blk.new w3 #[.slice none 0 0] 24).thruB hb4; have z0 := hZ4.is 0 rfl; have zf := hZ4.frozen) | skip))
    all_goals
      have hs3 := hb3.size
      have hsB := hB3.size
      go_wp2_with fail
      go_meet
      first
        | exact ⟨_, qq, cq, rfl, rfl, rfl, (box_old hZ4 hm rfl hr (HZA.out.thruB hb3).lt).1, (box_old hZ4 hm rfl hr (HZA.out.thruB hb3).lt).2, (hB3.thru hb4 hB3.size).setCell (Nat.le_refl _) _⟩
        | exact ⟨_, qq, cq, rfl, rfl, rfl, (box_old hZ4 hm rfl hr (by simp)).1, (box_old hZ4 hm rfl hr (by simp)).2, (Below.thru (hB3.thru (alloc_below w3 (Obj.cells #[.slice none 0 0] 24)) hB3.size) hb4 (by simp; omega)).setCell hsB _⟩
        | exact ⟨_, qq, cq, rfl, rfl, rfl, (box_new (w := w4) hm rfl hr).1, (box_new (w := w4) hm rfl hr).2, (hB3.thru hb4 hB3.size).thru (alloc_below w4 _) (hB3.thru hb4 hB3.size).size⟩
  case rest =>
    obtain ⟨Z, qq, cq, rfl, rfl, rfl, hz, hQ, hb⟩ := hcut
    replace HX := hidE (HX.out.thruB hb)
    have HB2 := hidE (HB.out.thru hb HB.out.size)
    have HN2 := hidE (HN.out.below hb)
    have HZ := hidE hz
    have HQ := hidE hQ
    have x0 := HX.out.is 0 rfl
    clear hz hQ hb HB HN HP0 HP1 hlt
    go_upto_region 4 with (go_at_call 5; refine (HL.out _ pp cap HN2.out hcap.1 hcap.2).mono ?_; rintro e w3 ⟨rr, cr, rfl, h3, hb3⟩)
    have HX3 := hidE (HX.out.thruB hb3)
    have HB3 := hidE (HB2.out.thru hb3 HB2.out.size)
    have HN3 := hidE (HN2.out.below hb3)
    have HZ3 := hidE (HZ.out.thruB hb3)
    have HQ3 := hidE (HQ.out.below hb3)
    have HR3 := hidE h3
    have x0 := HX3.out.is 0 rfl
    have z0 := HZ3.out.is 0 rfl
    clear h3 hb3 HX HB2 HN2 HZ HQ HL
    have hC : Below w3.heap.size w3 w3 := Below.refl _ _
    go_wp2_with (first
      | (go_at_call 10; refine (HC.out _ pp cap HN3.out).mono ?_; rintro e w4 ⟨rfl, hb4⟩; replace hC := hC.thru hb4 hC.size; have x0 := (HX3.out.thruB hC).is 0 rfl; have z0 := (HZ3.out.thruB hC).is 0 rfl)
      | (go_at_call 19; refine (HNT.out _).mono ?_; rintro e w6 ⟨p6, q6, rfl, h6, hb6⟩; replace hC := (hC.thru hb6 hC.size).thru (alloc_below w6 (Obj.cells #[.int .i64 0, .int .i64 1, .slice p6 5 5, .slice q6 1 1] 28)) (hC.thru hb6 hC.size).size)
      | (go_at_call 11; refine (HS.out _ _ _ _ _ (by first | exact HQ3.out.below hC | exact HR3.out.below hC) (by first | exact HN3.out.below hC | exact notes1_at h6)).mono ?_; rintro e w5 ⟨rfl, hb5⟩; replace hC := hC.thru hb5 hC.size))
    go_ret
    exact ⟨rfl, HB3.out.thru hC HB3.out.size⟩
end Go.Proofs.Ytnhjebdlcbhkcaf
