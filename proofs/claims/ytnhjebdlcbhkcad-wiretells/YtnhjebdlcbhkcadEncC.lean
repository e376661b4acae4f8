/- Contract of wire.Encode. -/
import Derived.Test.YtnhjebdlcbhkcadWrNote
import Derived.Test.YtnhjebdlcbhkcadEach
namespace Go.Proofs.Ytnhjebdlcbhkcad
open Go.RowKit

theorem roomM_of {p : List (Int × Int)} {c : Int} (h : chk p c = 0) : RoomM p c := by
  obtain ⟨a1, a2, a3, _, a5, a6⟩ := chk_ok h
  refine ⟨by omega, fun s hs => ?_, by omega, by omega⟩
  obtain ⟨i, hi, rfl⟩ := List.getElem_of_mem hs
  have := okStep_iff.1 (okSteps_get a3 (i := i) hi)
  omega
theorem anyM_none {p : List (Int × Int)} {c : Int} (h : anyM p c = false) : p = [] ∧ c = 0 := by
  unfold anyM at h
  simp only [Bool.or_eq_false_iff, decide_eq_false_iff_not, bne_eq_false_iff_eq] at h
  exact ⟨List.length_eq_zero_iff.1 (by omega), h.2⟩
theorem roomD_of {d : Dd} (h : chkD d = 0) : RoomD d := by
  unfold chkD at h
  split at h
  · rename_i hk
    unfold chkPutD at h
    split at h
    · rename_i h1; exact absurd h h1
    · rename_i h1
      split at h
      · cases h
      · rename_i h2
        have h1' : chkRun d.rp d.rc d.rt = 0 := by simpa using h1
        obtain ⟨o1, o2, o3, _, _⟩ := okRun_of h1'
        simp only [Bool.or_eq_true, not_or, Bool.not_eq_true, bne_eq_false_iff_eq] at h2
        obtain ⟨e1, e2⟩ := anyM_none h2.1
        exact Or.inl ⟨hk, roomM_of o1, by omega, e1, e2, h2.2⟩
  · split at h
    · rename_i hk
      unfold chkTakeD at h
      split at h
      · rename_i h1; exact absurd h h1
      · rename_i h1
        split at h
        · cases h
        · rename_i h2
          split at h
          · cases h
          · rename_i h3
            have h1' : chk d.mp d.mc = 0 := by simpa using h1
            simp only [Bool.or_eq_true, not_or, Bool.not_eq_true, decide_eq_true_eq, ne_eq, Decidable.not_not] at h2
            obtain ⟨e1, e2⟩ := anyM_none h2.1
            refine Or.inr ⟨hk, roomM_of h1', by omega, by omega, e1, e2, ?_⟩
            have hs := h2.2
            rcases hrt : d.rt with ⟨⟨l⟩⟩
            rw [hrt] at hs
            cases l with
            | nil => rfl
            | cons x l => simp [ByteArray.size] at hs
    · cases h
theorem chkDl_zero : ∀ {l : List Dd}, chkDl l = 0 → ∀ d ∈ l, chkD d = 0
  | x :: l, h, d, hd => by
    unfold chkDl at h
    split at h
    · rename_i h1; exact absurd h h1
    · rename_i h1
      rcases List.mem_cons.1 hd with rfl | hd
      · simpa using h1
      · exact chkDl_zero h d hd
theorem roomN_of {n : Nt} (h : chkN n = 0) : RoomN n := by
  unfold chkN at h
  split at h
  · cases h
  rename_i h1
  split at h
  · cases h
  rename_i h2
  split at h
  · cases h
  rename_i h3
  split at h
  · cases h
  split at h
  · cases h
  split at h
  · cases h
  rename_i h6
  simp only [siteBad, Bool.or_eq_true, decide_eq_true_eq, not_or] at h1
  refine ⟨by omega, by omega, by omega, by omega, by simpa using h2, fun x hx => ?_, by omega, fun d hd => roomD_of (chkDl_zero h d hd)⟩
  have h4 : okNums n.needs = true := by simpa using h3
  unfold okNums at h4
  have := List.all_eq_true.1 h4 x hx
  unfold okNum inB at this
  simp only [Bool.and_eq_true, decide_eq_true_eq] at this
  omega
theorem encN_pos (n : Nt) : 0 < (encN n).length := by unfold encN; simp
theorem encN_len {n : Nt} (h : RoomN n) : (encN n).length ≤ 300000 := by
  have e1 := eNeeds_len n.needs
  have e2' := eDeeds_len h.deeds
  have e3 := h.dl
  have e4 := h.nl
  unfold encN
  simp only [List.length_append, List.length_cons, e2, List.length_nil]
  omega

set_option maxRecDepth 100000 in
set_option maxHeartbeats 4000000 in
theorem encode_bad (n : Nt) (p q : Option Addr) (cp cq : Nat) (w : World) (h : NtAt w n p q) (h0 : chkN n ≠ 0) :
    Calls Try.prog 21 #[ntV n p q cp cq] w fun e w' => e = .returned (.tuple #[.string ⟨#[]⟩, .int .i64 (chkN n)]) ∧ Below w.heap.size w w' := by
  have hx : (chkN n != 0) = true := bne_iff_ne.2 h0
  have hal := (Below.refl w.heap.size w).alloc (Nat.le_refl _) (Obj.cells #[.int .i64 n.site, .int .i64 n.number, .slice p n.needs.length cp, .slice q n.deeds.length cq] 53)
  have hBN := Blk.new w #[.int .i64 n.site, .int .i64 n.number, .slice p n.needs.length cp, .slice q n.deeds.length cq] 53
  have HC := hidE (fun w1 (hb : Below w.heap.size w w1) => wireCheck_any n p q cp cq w1 (h.below hb))
  clear h0 h
  unfold ntV at *
  generalize chkN n = z at *
  generalize n.needs.length = n1 at *
  generalize n.deeds.length = n2 at *
  go_enter Try.func21, Try.ntmps21
  go_upto_region 1 with fail
  have HC1 := hidE (HC.out _ hal)
  generalize w.alloc (Obj.cells #[.int .i64 n.site, .int .i64 n.number, .slice p n1 cp, .slice q n2 cq] 53) = W at *
  have b0 := hBN.is 0 rfl
  have b1 := hBN.is 1 rfl
  have b2 := hBN.is 2 rfl
  have b3 := hBN.is 3 rfl
  have HB := hidE hal
  clear hBN hal HC
  go_wp2_with fail
  refine HC1.out.mono ?_
  rintro e w1 ⟨rfl, hb1⟩
  have HB1 := hidE (HB.out.trans (hb1.mono HB.out.size))
  clear hb1 HB HC1
  go_wp2_with fail
  go_ret2
  exact ⟨rfl, HB1.out⟩

set_option maxRecDepth 100000 in
set_option maxHeartbeats 4000000 in
theorem encode_good (n : Nt) (p q : Option Addr) (cp cq : Nat) (w : World) (h : NtAt w n p q) (h0 : chkN n = 0) :
    Calls Try.prog 21 #[ntV n p q cp cq] w fun e w' => e = .returned (.tuple #[.string (strOfNums (encN n)), .int .i64 0]) ∧ Below w.heap.size w w' := by
  have hroom := roomN_of h0
  have hal := (Below.refl w.heap.size w).alloc (Nat.le_refl _) (Obj.cells #[.int .i64 n.site, .int .i64 n.number, .slice p n.needs.length cp, .slice q n.deeds.length cq] 53)
  have hBN := Blk.new w #[.int .i64 n.site, .int .i64 n.number, .slice p n.needs.length cp, .slice q n.deeds.length cq] 53
  have HC := hidE (fun w1 (hb : Below w.heap.size w w1) => wireCheck_any n p q cp cq w1 (h.below hb))
  rw [h0] at HC
  have HW := hidE (fun R base v w1 (hs : WrSt w1 R base v []) (hb : Below w.heap.size w w1) (hR : w.heap.size ≤ R) => wrNote_ok R base v n p q cp cq w w1 hs hroom h hb hR)
  have hpos := encN_pos n
  have hlen := encN_len hroom
  clear h0 h hroom
  unfold ntV at *
  generalize encN n = EN at *
  generalize n.needs.length = n1 at *
  generalize n.deeds.length = n2 at *
  go_enter Try.func21, Try.ntmps21
  go_upto_region 1 with fail
  have HC1 := hidE (HC.out _ hal)
  generalize w.alloc (Obj.cells #[.int .i64 n.site, .int .i64 n.number, .slice p n1 cp, .slice q n2 cq] 53) = W at *
  have b0 := hBN.is 0 rfl
  have b1 := hBN.is 1 rfl
  have b2 := hBN.is 2 rfl
  have b3 := hBN.is 3 rfl
  have HBN := hidE hBN
  have HB := hidE hal
  clear hBN hal HC
  go_wp2_with fail
  refine HC1.out.mono ?_
  rintro e w1 ⟨rfl, hb1⟩
  have hB1 := HBN.out.below hb1 HBN.out.lt
  have hlow := HB.out.trans (hb1.mono HB.out.size)
  clear hb1 HB HC1 HBN b0 b1 b2 b3
  go_upto_region 5 with fail
  have hAl := (Below.refl w1.heap.size w1).alloc (Nat.le_refl _) (Obj.cells #[.slice none 0 0] 88)
  have hWB := Blk.new w1 #[.slice none 0 0] 88
  have hB2 := hB1.below hAl hB1.lt
  have hlow2 := hlow.trans (hAl.mono hlow.size)
  have hR := hlow.size
  generalize hW2 : w1.alloc (Obj.cells #[.slice none 0 0] 88) = W2 at *
  have hsz : w1.heap.size + 1 ≤ W2.heap.size := by rw [← hW2]; simp
  clear hW2
  generalize w1.heap.size = R at *
  have hS0 : WrSt W2 R (R + 1) (.slice none 0 0) [] := ⟨hWB, World.ownsRow_nil _ _ _ _, Nat.lt_succ_self _, hsz⟩
  have H5 := hidE (HW.out R (R + 1) _ W2 hS0 hlow2 hR)
  have b0 := hB2.is 0 rfl
  have b1 := hB2.is 1 rfl
  have b2 := hB2.is 2 rfl
  have b3 := hB2.is 3 rfl
  have HLOW := hidE hlow2
  clear hS0 hB2 hWB hAl hlow hlow2 hsz HW hB1
  go_wp2_with fail
  refine H5.out.mono ?_
  rintro e w3 ⟨rfl, ⟨v3, hS⟩, hK⟩
  have hfin := hK.low HLOW.out hR (Nat.lt_succ_self _)
  have HFIN := hidE hfin
  obtain ⟨hbox, hown, _, _⟩ := hS
  obtain ⟨g, cap, rfl⟩ := owns_form hown hpos
  have q0 := hbox.is 0 rfl
  have hcv := run_convert_bytes_arg (P := Try.prog) w3 86 5 Try.underlying86 Try.underlying5 g 0 EN.length cap EN rfl (fun i hi => by
    rw [Nat.zero_add]
    refine (hown.cellAt i (by omega)).trans ?_
    rw [List.getElem?_map, List.getElem?_eq_getElem hi]
    simp [List.getD, hi])
  have hcv2 := hcv 9 Try.underlying9
  clear hcv hbox hown hfin hK HLOW H5 b0 b1 b2 b3
  generalize EN.length = n9 at *
  go_wp2_with fail
  go_ret2
  exact ⟨rfl, HFIN.out⟩

theorem encode_any (n : Nt) (p q : Option Addr) (cp cq : Nat) (w : World) (h : NtAt w n p q) :
    Calls Try.prog 21 #[ntV n p q cp cq] w fun e w' => e = .returned (.tuple #[.string (if chkN n = 0 then strOfNums (encN n) else ⟨#[]⟩), .int .i64 (chkN n)]) ∧ Below w.heap.size w w' := by
  by_cases h0 : chkN n = 0
  · rw [if_pos h0, h0]; exact encode_good n p q cp cq w h h0
  · rw [if_neg h0]; exact encode_bad n p q cp cq w h h0
end Go.Proofs.Ytnhjebdlcbhkcad
