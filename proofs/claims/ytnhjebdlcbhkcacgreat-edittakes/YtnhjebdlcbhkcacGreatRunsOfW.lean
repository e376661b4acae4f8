/- Contract of the reference's RunsOf: the walk. -/
import Derived.Test.YtnhjebdlcbhkcacGreatRunsOf
import Derived.Test.YtnhjebdlcbhkcacGreatGapA
namespace Go.Proofs.YtnhjebdlcbhkcacGreat
open Go.RowKit

theorem keep4 {w1 w' : World} {b o z : Nat} {v0 v1 v2 v3 v4 : Value} {g p : Nat} (hb : Below w1.heap.size w1 w') (hg : g < w1.heap.size) (hz : b < w1.heap.size) (q4 : w1.cell? ⟨g, p, none⟩ = some v4) (q0 : w1.cell? ⟨b, o, none⟩ = some v0) (q1 : w1.cell? ⟨b, o + 1, none⟩ = some v1) (q2 : w1.cell? ⟨b, z, none⟩ = some v2) (q3 : w1.cell? ⟨b, z + 1, none⟩ = some v3) :
    Below w1.heap.size w1 w' ∧ w'.cell? ⟨g, p, none⟩ = some v4 ∧ w'.cell? ⟨b, o, none⟩ = some v0 ∧ w'.cell? ⟨b, o + 1, none⟩ = some v1 ∧ w'.cell? ⟨b, z, none⟩ = some v2 ∧ w'.cell? ⟨b, z + 1, none⟩ = some v3 :=
  ⟨hb, (hb.cell (p := ⟨g, p, none⟩) hg).trans q4, (hb.cell (p := ⟨b, o, none⟩) hz).trans q0, (hb.cell (p := ⟨b, o + 1, none⟩) hz).trans q1, (hb.cell (p := ⟨b, z, none⟩) hz).trans q2, (hb.cell (p := ⟨b, z + 1, none⟩) hz).trans q3⟩

theorem rawN_newX (w : World) (r : RawN) : ∀ j u, r.cells[j]? = some u → (w.alloc (.cells #[.slice r.p r.n r.cap, .int .i64 r.clock, .string r.text] 48)).cell? ⟨w.heap.size, j, none⟩ = some u := by
  intro j u hj
  rw [World.cell?_alloc_new]
  simpa [RawN.cells] using hj

theorem row_shape {w : World} {base : Nat} {e : TypeId} {size : Nat} {v : Value} {n : Nat} {xs : List Value} (h : w.ownsRow base e size v n xs) : ∃ p c, v = .slice p n c := by
  rcases h.2 with ⟨rfl, rfl⟩ | ⟨g, c, cur, rfl, _⟩
  · exact ⟨none, 0, rfl⟩
  · exact ⟨_, c, rfl⟩

set_option maxRecDepth 100000 in
set_option maxHeartbeats 40000000 in
theorem runsOf_ok (a : Option Addr) (cap : Nat) (l : List At) (w : World) (h : AtomsAt w a l) (ok : OkL l) :
    Calls Tryz.prog 21 #[.slice a l.length cap] w fun e w' => ∃ p k, e = .returned (.slice p (runsL l).length k) ∧ RunsAt w' p (runsL l) ∧ Below w.heap.size w w' := by
  obtain ⟨i0, hi0, hz0, hz1, hz2⟩ := Tryz.info48
  have h300 := ok.len
  have HOK := hidE ok
  clear ok
  have hcv : ∀ (w : World) (x : Int), (convert 68 9 (.slice (some ⟨w.heap.size, 0, none⟩) 1 1)).run Tryz.prog (w.alloc (.cells #[.int .u8 x] 5)) = .ok (.string (strOfNums [x])) (w.alloc (.cells #[.int .u8 x] 5)) := by
    intro w x
    refine run_convert_bytes_arg (P := Tryz.prog) _ 68 5 Tryz.underlying68 Tryz.underlying5 w.heap.size 0 1 1 [x] rfl (fun i hi => ?_) 9 Tryz.underlying9
    have : i = 0 := by omega
    subst this
    simp
  have HCV := hidE hcv
  clear hcv
  go_enter Tryz.func21, Tryz.ntmps21
  go_wp2_with fail
  go_loopw [3, 4] (fun v i wr => ∃ k : Nat, k ≤ l.length ∧ i = .int .i64 k ∧ OwnsN w wr w.heap.size v (runsTo l k) ∧ (runsTo l k).length ≤ k ∧ Below w.heap.size w wr) (fun _ i _ => l.length - (intOf i).toNat)
  case atStart => exact ⟨0, Nat.zero_le _, rfl, ⟨[], rfl, World.ownsRow_nil _ _ _ _, fun i h => by simp [runsTo, pst] at h⟩, by simp [runsTo, pst], Below.refl _ _⟩
  case round =>
    obtain ⟨k, hk, rfl, hrow, hrlen, hb⟩ := hrel
    by_cases hlt : k < l.length
    · have hi1 : (k : Int) < l.length := by omega
      obtain ⟨ab, ao, rfl, hab, hc⟩ := h.raw (by omega)
      have habr : ab < wr.heap.size := Nat.lt_of_lt_of_le hab hb.size
      obtain ⟨⟨p, n, cp, ck, sk⟩, hr, c0, c1, c2⟩ := hc k hlt
      have en : n = l[k].path.length := hr.n
      have eck : ck = l[k].clock := hr.clock
      have esk : sk = l[k].sign := hr.sign
      subst en eck esk
      have hst := hr.steps
      have hplen := hr.len
      have d0 := (hb.cell (p := ⟨ab, ao + k * 3, none⟩) hab).trans c0
      have d1 := (hb.cell (p := ⟨ab, ao + k * 3 + 1, none⟩) hab).trans c1
      have d2 := (hb.cell (p := ⟨ab, ao + k * 3 + 2, none⟩) hab).trans c2
      have htl1 : (strOfNums [l[k].sign]).size = 1 := by rw [strOfNums_size]; rfl
      have hx : RawNOf w ⟨p, l[k].path.length, cp, l[k].clock, strOfNums [l[k].sign]⟩ ⟨l[k].path, l[k].clock, strOfNums [l[k].sign]⟩ := ⟨rfl, rfl, rfl, hst, hplen, by rw [htl1]; unfold maxLen; omega⟩
      obtain ⟨rs, hrl, hown, hrr⟩ := hrow
      obtain ⟨pv, cv, rfl⟩ := row_shape hown
      have HRR := hidE hrr
      have hlk : (runsTo l k).length ≤ 300 := by omega
      clear hrr
      obtain ⟨nn, hnn⟩ : ∃ nn, (runsTo l k).length = nn := ⟨_, rfl⟩
      have HNN := hidE hnn
      rw [hnn] at hown hrl hlk hrlen ⊢
      clear hnn
      go_upto_region 6 with fail
      go_cut [40] (fun t40 wc => ∃ bb : Bool, t40 = .bool bb ∧ Below wr.heap.size wr wc ∧ (bb = false → runsTo l (k + 1) = runsTo l k ++ [⟨l[k].path, l[k].clock, strOfNums [l[k].sign]⟩]) ∧ (bb = true → ∃ xs y, runsTo l k = xs ++ [y] ∧ y.text.size < 60 ∧ runsTo l (k + 1) = xs ++ [⟨y.path, y.clock, y.text ++ strOfNums [l[k].sign]⟩]))
      case first =>
        rcases Nat.eq_zero_or_pos k with rfl | hk0
        · have hg0 : decide ((0 : Int) > 0) = false := by decide
          refine wp_region_quiet_below (by kernel_rfl) (by kernel_rfl) ?_
          repeat (first | go_big_quiet_step (fail) | quiet_step (fail))
          refine wpQuiet_nil ?_
          intro X hw'
          obtain ⟨⟨dq, osq⟩, hw''⟩ := hw'
          have hbX : Below wr.heap.size wr X := by rw [hw'']; exact below_regrown wr dq osq
          clear hw''
          go_wp2_with fail
          go_meet
          refine ⟨false, rfl, hbX, fun _ => ?_, fun h => by cases h⟩
          rw [runsTo_succ]
          show [] ++ [runOf l (0, 0 + 1)] = [] ++ _
          rw [runOf_one hlt]
        · obtain ⟨j, rfl⟩ : ∃ j, k = j + 1 := ⟨k - 1, by omega⟩
          obtain ⟨xs, y, hxy, hy60, hA, hN⟩ := runsTo_step hlt
          obtain rfl : nn = xs.length + 1 := by rw [← HNN.out, hxy]; simp
          have HXY := hidE hxy
          have HA := hidE hA
          have HN := hidE hN
          have HF := hidE (same_flw hlt)
          clear hxy hA hN
          have hrs : xs.length < rs.length := by omega
          have hraw := HRR.out xs.length (by rw [HNN.out]; omega) hrs
          have hy : (runsTo l (j + 1))[xs.length]'(by rw [HNN.out]; omega) = y := by simp [HXY.out]
          rw [hy] at hraw
          have htx := hraw.text
          obtain ⟨g, cg, hv⟩ := owns_form hown (by omega)
          obtain ⟨rfl, rfl⟩ : pv = some ⟨g, 0, none⟩ ∧ cv = cg := by simpa using hv
          clear hv hy hraw
          have fc := (hown.cellAt (xs.length * 3 + 2) (by omega)).trans (flatN_get rs xs.length hrs).2.2
          rw [htx] at fc
          have hgl := (hown.lt g rfl).2
          obtain ⟨⟨p', n', cp', ck', sk'⟩, hr', c0', c1', _⟩ := hc j (by omega)
          have en : n' = (l[j]'(by omega)).path.length := hr'.n
          have eck : ck' = (l[j]'(by omega)).clock := hr'.clock
          subst en eck
          have hst' := hr'.steps.below hb (Nat.le_refl _)
          have hstr := hst.below hb (Nat.le_refl _)
          have d0' := (hb.cell (p := ⟨ab, ao + j * 3, none⟩) hab).trans c0'
          have d1' := (hb.cell (p := ⟨ab, ao + j * 3 + 1, none⟩) hab).trans c1'
          have hkj := (HOK.out.each (l[j]'(by omega)) (List.getElem_mem (by omega))).1
          have HKJ := hidE hkj
          clear hkj hr' c0' c1'
          have hg0 : decide (((j : Int) + 1) > 0) = true := decide_eq_true (by omega)
          have hn1 : IntKind.i64.wrap (((xs.length : Int) + 1) - 1) = (xs.length : Int) := by rw [IntKind.wrap_i64] <;> omega
          have hn2 : IntKind.i64.wrap (xs.length : Int) = (xs.length : Int) := by rw [IntKind.wrap_i64] <;> omega
          have hj1 : IntKind.i64.wrap (((j : Int) + 1) - 1) = (j : Int) := by rw [IntKind.wrap_i64] <;> omega
          have hj2 : IntKind.i64.wrap (j : Int) = (j : Int) := by rw [IntKind.wrap_i64] <;> omega
          have hj3 : (j : Int) < l.length := by omega
          have hj4 : ((j : Int) + 1) < l.length := by omega
          have hj5 : ((j : Int) + 1).toNat = j + 1 := by omega
          have hx1 : (xs.length : Int) < (xs.length : Int) + 1 := by omega
          have hBd : Below wr.heap.size wr wr.drew := (Below.refl _ _).drew
          by_cases hs60 : y.text.size < 60
          · have hd6 : decide ((y.text.size : Int) < 60) = true := by simp; omega
            obtain ⟨pb, po, rfl⟩ : ∃ pb po, p' = some ⟨pb, po, none⟩ := by
              rcases hst' with e | ⟨pb, po, rfl, _⟩
              · have := (chk_ok HKJ.out).1
                rw [e] at this; simp at this
              · exact ⟨pb, po, rfl⟩
            have hjl : (l[j]'(by omega)).path.length ≤ maxLen := by have := (chk_ok HKJ.out).2.1; unfold maxLen; omega
            generalize (l[j]'(by omega)).path = pj at *
            generalize (l[j]'(by omega)).clock = cj at *
            generalize hPK : l[j + 1].path = pk at *
            generalize hCK : l[j + 1].clock = ck at *
            go_region_held_law (fun w' => Below wr.heap.size wr w' ∧ w'.cell? ⟨g, xs.length * 3 + 2, none⟩ = some (.string y.text) ∧ w'.cell? ⟨ab, ao + (j + 1) * 3, none⟩ = some (.slice p pk.length cp) ∧ w'.cell? ⟨ab, ao + (j + 1) * 3 + 1, none⟩ = some (.int .i64 ck) ∧ w'.cell? ⟨ab, ao + j * 3, none⟩ = some (.slice (some ⟨pb, po, none⟩) pj.length cp') ∧ w'.cell? ⟨ab, ao + j * 3 + 1, none⟩ = some (.int .i64 cj))
              ((refine keep4 ?_ hgl habr fc d0 d1 d0' d1'; first | exact hBd | exact hB1 | exact hB2))
              (first
                | (go_at_call 54; refine (afterOf_any pb po _ pj cj 1 _ (hst'.below (And.left ‹Below wr.heap.size wr _ ∧ _›) (Nat.le_refl _)) HKJ.out (by omega) (by omega)).mono ?_; rintro e w3 ⟨g3, cap3, rfl, hs3, hb3, _⟩; have hB1 := (And.left ‹Below wr.heap.size wr _ ∧ _›).thru hb3 (And.left ‹Below wr.heap.size wr _ ∧ _›).size)
                | (go_at_call 43; refine (sameMark_n _ _ _ _ _ _ pk (bump pj 1) _ _ _ rfl (by rw [bump_len]) hplen (by rw [bump_len]; exact hjl) (hstr.below hB1 (Nat.le_refl _)) hs3).mono ?_; rintro e w4 ⟨rfl, hb4⟩; have hB2 := hB1.thru hb4 hB1.size))
            all_goals
              go_wp2_with fail
              go_meet
              subst hPK hCK
              refine ⟨ordM l[j + 1].path l[j + 1].clock (bump pj 1) (cj + 1) == 0, rfl, hB2, fun hf => ?_, fun ht => ?_⟩
              · rw [HN.out (fun hh => by rw [← HF.out] at hh; rw [hf] at hh; exact absurd hh.2 (by decide)), ← HXY.out]
              · exact ⟨xs, y, HXY.out, hs60, HA.out ⟨hs60, by rw [← HF.out]; exact ht⟩⟩
          · have hd6 : decide ((y.text.size : Int) < 60) = false := by simp; omega
            have k0 := cell_regrown fc
            refine wp_region_quiet_below (by kernel_rfl) (by kernel_rfl) ?_
            repeat (first | go_big_quiet_step (fail) | quiet_step (fail))
            refine wpQuiet_nil ?_
            intro X hw'
            obtain ⟨⟨dq, osq⟩, hw''⟩ := hw'
            have hbX : Below wr.heap.size wr X := by rw [hw'']; exact below_regrown wr dq osq
            clear hw''
            go_wp2_with fail
            go_meet
            refine ⟨false, rfl, hbX, fun _ => ?_, fun h => by cases h⟩
            rw [HN.out (fun hh => hs60 hh.1), ← HXY.out]
      case rest =>
        obtain ⟨bb, rfl, hbX, hF, hT⟩ := hcut
        have HF := hidE hF
        have HT := hidE hT
        clear hF hT
        cases bb
        · have HN : Hid (runsTo l (k + 1) = runsTo l k ++ [⟨l[k].path, l[k].clock, strOfNums [l[k].sign]⟩]) := HF.out rfl
          clear HF HT
          have e0 := (hbX.cell (p := ⟨ab, ao + k * 3, none⟩) habr).trans d0
          have e1 := (hbX.cell (p := ⟨ab, ao + k * 3 + 1, none⟩) habr).trans d1
          have e2 := (hbX.cell (p := ⟨ab, ao + k * 3 + 2, none⟩) habr).trans d2
          have hzX : ab < wc.heap.size := Nat.lt_of_lt_of_le habr hbX.size
          have hownX := owns_below hown hbX
          have hbwX := hb.thru hbX hb.size
          generalize l[k].path = pk at *
          generalize l[k].clock = ck at *
          generalize l[k].sign = sk at *
          have hcv1 := HCV.out wc.drew sk
          have hcv2 : (convert 68 9 (.slice (some ⟨wc.heap.size, 0, none⟩) 1 1)).run Tryz.prog (wc.alloc (.cells #[.int .u8 sk] 5)).drew = .ok (.string (strOfNums [sk])) (wc.alloc (.cells #[.int .u8 sk] 5)).drew := hcv1
          have hbA : Below wc.heap.size wc (wc.alloc (.cells #[.int .u8 sk] 5)).drew := ((Below.refl _ _).alloc (Nat.le_refl _) _).drew
          have hbB : Below wc.heap.size wc ((wc.alloc (.cells #[.int .u8 sk] 5)).drew.alloc (.cells #[.slice p pk.length cp, .int .i64 ck, .string (strOfNums [sk])] 48)) := hbA.alloc (by simp) _
          have hownB := owns_below hownX hbB
          have HSZ : Hid ((wc.alloc (.cells #[.int .u8 sk] 5)).drew.heap.size = wc.heap.size + 1) := by show _ = _; simp
          go_upto_region 8 with fail
          generalize strOfNums [sk] = sx at *
          go_region_held_law (fun w' => w'.cell? ⟨ab, ao + k * 3, none⟩ = some (.slice p pk.length cp) ∧ w'.cell? ⟨ab, ao + k * 3 + 1, none⟩ = some (.int .i64 ck) ∧ w'.cell? ⟨ab, ao + k * 3 + 2, none⟩ = some (.int .u8 sk))
            (first | exact ⟨e0, e1, e2⟩ | exact ⟨(hbA.cell (p := ⟨ab, ao + k * 3, none⟩) hzX).trans e0, (hbA.cell (p := ⟨ab, ao + k * 3 + 1, none⟩) hzX).trans e1, (hbA.cell (p := ⟨ab, ao + k * 3 + 2, none⟩) hzX).trans e2⟩ | exact ⟨(hbB.cell (p := ⟨ab, ao + k * 3, none⟩) hzX).trans e0, (hbB.cell (p := ⟨ab, ao + k * 3 + 1, none⟩) hzX).trans e1, (hbB.cell (p := ⟨ab, ao + k * 3 + 2, none⟩) hzX).trans e2⟩ | exact ⟨y0, y1, y2⟩)
            ((refine step_append_own rfl (.tmp 57) (.tmp 71) 52 rfl w.heap.size 48 i0 (.agg #[.slice none 0 0, .int .i64 0, .string ⟨#[]⟩]) 3 48 Tryz.underlying52 hi0 hz0 hz1 hz2 rfl (by decide) (.slice pv nn cv) nn (flatN rs) (by simp [Act.eval]) hownB ⟨wc.heap.size + 1, 0, none⟩ 1 1 ((⟨p, pk.length, cp, ck, sx⟩ : RawN).cells) (by simp [Act.eval]) rfl (by intro j u hj; rw [Addr.add_lit, Nat.zero_add, ← HSZ.out]; exact rawN_newX (wc.alloc (.cells #[.int .u8 sk] 5)).drew ⟨p, pk.length, cp, ck, sx⟩ j u hj) (fun u hu => flatN_one [⟨p, pk.length, cp, ck, sx⟩] u (by simpa [flatN] using hu)) (by unfold maxLen; omega) (by omega) (by have := hbwX.size; simp; omega) ?_; intro v' w4 hown4 hgrow; have hNE : some ab ≠ Value.ownBlock (.slice pv nn cv) := own_ne hown (Or.inl hab); have y0 := (grown_cell hgrow (Nat.lt_of_lt_of_le hzX hbB.size) hNE _).trans ((hbB.cell (p := ⟨ab, ao + k * 3, none⟩) hzX).trans e0); have y1 := (grown_cell hgrow (Nat.lt_of_lt_of_le hzX hbB.size) hNE _).trans ((hbB.cell (p := ⟨ab, ao + k * 3 + 1, none⟩) hzX).trans e1); have y2 := (grown_cell hgrow (Nat.lt_of_lt_of_le hzX hbB.size) hNE _).trans ((hbB.cell (p := ⟨ab, ao + k * 3 + 2, none⟩) hzX).trans e2)))
          have hb5 := (hbwX.thru hbB hbwX.size).grown hgrow (hbwX.thru hbB hbwX.size).size (fun j hj => (hown.lt j hj).1)
          have hrow5 : OwnsN w w4 w.heap.size v' (runsTo l k ++ [⟨pk, ck, sx⟩]) := ownsN_snoc (by rw [HNN.out]; exact hrl) HRR.out hx (by rw [HNN.out]; exact hown4)
          go_wp2_with fail
          go_roundw
          case rel => exact ⟨k + 1, by omega, by go_num, by rw [HN.out]; exact hrow5, by rw [HN.out, List.length_append, HNN.out]; simp; omega, hb5⟩
          case measure => simp [intOf]; omega
        · obtain ⟨xs, y, hxy, h60, hnx⟩ := HT.out rfl
          have HNX := hidE hnx
          obtain rfl : nn = xs.length + 1 := by rw [← HNN.out, hxy]; simp
          have hrr2 : ∀ i (h : i < (xs ++ [y]).length) (h' : i < rs.length), RawNOf w rs[i] (xs ++ [y])[i] := by
            rw [← hxy]; exact HRR.out
          have HRR2 := hidE hrr2
          have hraw := hrr2 xs.length (by simp) (by omega)
          have hy : (xs ++ [y])[xs.length]'(by simp) = y := by simp
          rw [hy] at hraw
          have htx := hraw.text
          obtain ⟨g, cg, hv⟩ := owns_form hown (by omega)
          obtain ⟨rfl, rfl⟩ : pv = some ⟨g, 0, none⟩ ∧ cv = cg := by simpa using hv
          clear hv hy hraw hnx hxy HF HT HRR hrr2
          have hownX := owns_below hown hbX
          have hbwX := hb.thru hbX hb.size
          have fc := (hownX.cellAt (xs.length * 3 + 2) (by omega)).trans (flatN_get rs xs.length (by omega)).2.2
          rw [htx] at fc
          have ff := hownX.frozenAt (xs.length * 3 + 2)
          have hgl := (hownX.lt g rfl).2
          have e2 := (hbX.cell (p := ⟨ab, ao + k * 3 + 2, none⟩) habr).trans d2
          have hzX : ab < wc.heap.size := Nat.lt_of_lt_of_le habr hbX.size
          have hga : g ≠ ab := by have := (hown.lt g rfl).1; omega
          generalize l[k].sign = sk at *
          have hcv1 := HCV.out wc.drew sk
          have hcv2 : (convert 68 9 (.slice (some ⟨wc.heap.size, 0, none⟩) 1 1)).run Tryz.prog (wc.alloc (.cells #[.int .u8 sk] 5)).drew = .ok (.string (strOfNums [sk])) (wc.alloc (.cells #[.int .u8 sk] 5)).drew := hcv1
          have hn1 : IntKind.i64.wrap (((xs.length : Int) + 1) - 1) = (xs.length : Int) := by rw [IntKind.wrap_i64] <;> omega
          have hn2 : IntKind.i64.wrap (xs.length : Int) = (xs.length : Int) := by rw [IntKind.wrap_i64] <;> omega
          have hx1 : (xs.length : Int) < (xs.length : Int) + 1 := by omega
          have fc' : wc.drew.cell? ⟨g, xs.length * 3 + 2, none⟩ = some (.string y.text) := fc
          have ff' : wc.drew.frozen? ⟨g, xs.length * 3 + 2, none⟩ = false := ff
          have e2' : wc.drew.cell? ⟨ab, ao + k * 3 + 2, none⟩ = some (.int .u8 sk) := e2
          generalize strOfNums [sk] = sx at *
          go_upto_region 7 with fail
          go_region
          go_wp2_with fail
          have hsz : (y.text ++ sx).size ≤ maxLen := by rw [ByteArray.size_append, htl1]; unfold maxLen; omega
          obtain ⟨⟨rs5, a1, a2, a3⟩, _⟩ := ownsN_last (w0 := w) (s := y.text ++ sx) hrl hownX HRR2.out hsz
          have hb5 := (hbwX.setCell (p := ⟨g, xs.length * 3 + 2, none⟩) (hown.lt g rfl).1 (.string (y.text ++ sx)))
          go_roundw
          case rel => exact ⟨k + 1, by omega, by go_num, by rw [HNX.out]; exact ⟨rs5, a1, by have a4 := (a2.alloc (.cells #[.int .u8 sk] 5)).drew; simp only [List.length_append, List.length_singleton] at a4 ⊢; exact a4, a3⟩, by rw [HNX.out]; simp; omega, (hb5.alloc hb5.size _).drew⟩
          case measure => simp [intOf]; omega
    · have hkl : k = l.length := by omega
      subst hkl
      rw [runsTo_all] at hrow
      obtain ⟨p, kk, rfl, hat, _⟩ := hrow.runs hb
      go_wp2_with fail
      go_ret
      exact ⟨p, kk, rfl, hat, hb⟩
end Go.Proofs.YtnhjebdlcbhkcacGreat
