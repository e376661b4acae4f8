/- The law RelayOnce. -/
import Derived.Test.YtnhjebdlcbhkcagRyBeg
import Derived.Test.YtnhjebdlcbhkcagRelPu2
import Derived.Test.YtnhjebdlcbhkcagAppAny
import Derived.BigQuiet
import Derived.Deep.RegionHeldLaw
import Derived.Deep.DeepCutAuto
namespace Go.Proofs.Ytnhjebdlcbhkcag
open Go.RowKit

theorem own_cap {w : World} {base : Nat} {e : TypeId} {size n cap : Nat} {p : Option Addr} {xs : List Value} (h : w.ownsRow base e size (.slice p n cap) n xs) : n ≤ cap ∧ cap ≤ maxLen := by
  rcases h.2 with ⟨e, h0⟩ | ⟨g, c, cur, e, _, _, h1, h2, _⟩
  · simp only [Value.slice.injEq] at e; omega
  · simp only [Value.slice.injEq] at e; omega
theorem rn_base {w : World} {base base' n cq : Nat} {q : Option Addr} {rs : List RN} (h : RowOwn 32 4 RN.cells NtO w base (.slice q n cq) rs) (hb : base' ≤ base) : RowOwn 32 4 RN.cells NtO w base' (.slice q n cq) rs :=
  ⟨owns_base h.own hb, fun x hx => NtO.mono (h.each x hx) hb⟩
theorem NotesAt.take {w : World} {q : Option Addr} {L : List Nt} (h : NotesAt w q L) (k : Nat) : NotesAt w q (L.take k) := by
  rcases h with h | ⟨b, o, rfl, hlt, hc⟩
  · exact Or.inl (by rw [h]; simp)
  · have := NotesAt.slice (Or.inr ⟨b, o, rfl, hlt, hc⟩ : NotesAt w (some ⟨b, o, none⟩) L) 0 k
    rwa [List.drop_zero, Nat.zero_mul, Nat.add_zero] at this

set_option maxRecDepth 100000 in
set_option maxHeartbeats 4000000 in
theorem relayOnce_ok (a : Option Addr) (c : Nat) (ns : List Nt) (cut : Int) (w : World) (h : NotesAt w a ns) (hl : ns.length ≤ c) (hc : c ≤ maxLen) :
    Calls Try.prog 3 #[.slice a ns.length c, .int .i64 cut] w fun e w' => e = .returned (.bool true) ∧ Below w.heap.size w w' := by
  have HBG := hidE relayBegun_true
  have HA := hidE h
  have hmx : ns.length ≤ maxLen := Nat.le_trans hl hc
  unfold maxLen at hmx
  clear h hl hc
  go_enter Try.func3, Try.ntmps3
  go_upto_region 4 with (go_at_call 4; refine (HBG.out _).mono ?_; rintro e w1 ⟨rfl, hb1⟩)
  have hX := Blk.new w1 #[.slice none 0 0] 25
  have hB := hb1.thru (alloc_below w1 (Obj.cells #[.slice none 0 0] 25)) hb1.size
  have hR := hb1.size
  generalize w1.alloc (Obj.cells #[.slice none 0 0] 25) = W at *
  generalize w1.heap.size = R at *
  have HX := hidE hX
  have HB := hidE hB
  clear hX hB hb1
  go_wp2_with fail
  go_loopw [6] (fun t6 wr => ∃ (i : Nat) (L : List Nt) (q : Option Addr) (cq : Nat) (rs : List RN), t6 = .int .i64 i ∧ i ≤ ns.length ∧ chkRel L = 0 ∧ rs.map RN.n = L ∧ Blk wr R #[.slice q L.length cq] 25 ∧ RowOwn 32 4 RN.cells NtO wr (R + 1) (.slice q L.length cq) rs ∧ Below w.heap.size w wr) (fun t6 _ => ns.length - (intOf t6).toNat)
  case atStart => exact ⟨0, [], none, 0, [], rfl, Nat.zero_le _, rfl, rfl, HX.out, RowOwn.nil, HB.out⟩
  case round =>
    clear HX HB
    obtain ⟨i, L, q, cq, rs, rfl, hi, hL, hm, hX, hO, hB⟩ := hrel
    have x0 := hX.is 0 rfl
    have hrl : rs.length = L.length := by rw [← hm, List.length_map]
    have hNA : NotesAt wr q L := hm ▸ notes_own hO hrl
    have hcp := own_cap (hrl ▸ hO.own : wr.ownsRow (R + 1) 32 4 (.slice q L.length cq) L.length (rs.flatMap RN.cells))
    have hl3 := (chkRel_len hL).1
    rcases Nat.lt_or_ge i ns.length with hlt | hge
    · have hi1 : (i : Int) < ns.length := by omega
      rcases HA.out.below hB with e0 | ⟨b, o, rfl, hlb, hcc⟩
      · rw [e0] at hlt; simp at hlt
      obtain ⟨p1, cp1, q1, cq1, c0, c1, c2, c3, hDN⟩ := hcc i hlt
      have HDN := hidE hDN
      have HO := hidE hO
      have HM := hidE hm
      have HLR := hidE hL
      have HX := hidE hX
      have HB := hidE hB
      have HNA := hidE hNA
      have hRl := hX.lt
      clear hcc hDN hO hm hL hX hB hNA hrl
      generalize ns[i] = x at *
      go_upto_region 7 with fail
      go_cut [7, 8, 9] (fun t7 t8 t9 wc => ∃ Z q' cq' rs', t7 = .pointer (some ⟨Z, 0, none⟩) ∧ t8 = .bool (postI L x) ∧ t9 = .int .i64 (postE L x) ∧ R < Z ∧ Blk wc Z #[.slice q' (postL L x).length cq'] 25 ∧ List.map RN.n rs' = postL L x ∧ RowOwn 32 4 RN.cells NtO wc (R + 1) (.slice q' (postL L x).length cq') rs' ∧ Below wr.heap.size wr wc)
      case first => as_aux_lemma =>
        have HDD := hidE (show Below wr.heap.size wr wr.drew from (Below.refl _ _).drew)
        have HDA := hidE (show Below wr.heap.size wr (wr.drew.alloc (Obj.cells #[.slice none 0 0] 25)) from (Below.refl _ _).drew.alloc (Nat.le_refl _) _)
        have HZA : Hid (Blk (wr.drew.alloc (Obj.cells #[.slice none 0 0] 25)) wr.heap.size #[.slice none 0 0] 25) := Blk.new wr.drew _ _
        have HPO := hidE (fun w1 (hb : Below wr.heap.size wr w1) => post_any q cq L x p1 q1 cp1 cq1 w1 (HNA.out.below hb) (by unfold maxLen; omega) (HDN.out.below hb))
        unfold ntV at HPO
        go_region_with (go_at_call 5; refine (HPO.out _ (by first | exact HDD.out | exact HDA.out)).mono ?_; rintro e w4 ⟨rs', qq, cc, rfl, hm', hr', hb4⟩; first | (have hZ4 := HZA.out.thruB hb4; have z0 := hZ4.is 0 rfl; have zf := hZ4.frozen) | skip)
        all_goals
          have hZl := HZA.out.lt
          go_wp2_with fail
          go_meet
          first
            | exact ⟨wr.heap.size, qq, cc, rs', rfl, rfl, rfl, hRl, hZ4.set 0 _, hm', rn_base (hr'.far (NtO.stays wr.heap.size) hZl (grownBy_set' w4 wr.heap.size 0 (.slice qq (postL L x).length cc))) (Nat.le_trans hRl (Nat.le_of_lt hZl)), (HDA.out.thru hb4 HDA.out.size).setCell (Nat.le_refl _) _⟩
            | exact ⟨w4.heap.size, qq, cc, rs', rfl, rfl, rfl, Nat.lt_of_lt_of_le hRl (HDD.out.thru hb4 HDD.out.size).size, Blk.new w4 _ _, hm', rn_base (hr'.far (NtO.stays 0) (Nat.lt_of_le_of_lt (Nat.zero_le R) hRl) (grownBy_none (alloc_below w4 (Obj.cells #[.slice qq (postL L x).length cc] 25)))) hRl, (HDD.out.thru hb4 HDD.out.size).thru (alloc_below w4 _) (HDD.out.thru hb4 HDD.out.size).size⟩
      case rest =>
        obtain ⟨Z, q', cq', rs', rfl, rfl, rfl, hRZ, hz, hm', hr', hb⟩ := hcut
        have hX1 := HX.out.thruB hb
        have HB1 := hidE (HB.out.thru hb HB.out.size)
        have hO1 := HO.out.far (NtO.stays 0) (by omega) (grownBy_none hb)
        have hrl' : rs'.length = (postL L x).length := by rw [← hm', List.length_map]
        have HNP := hidE (hm' ▸ notes_own hr' hrl' : NotesAt wc q' (postL L x))
        have HZ := hidE hz
        have HXX := hidE hX1
        have HO1 := hidE hO1
        have HR1 := hidE hr'
        have HM1 := hidE hm'
        have x0 := hX1.is 0 rfl
        have z0 := hz.is 0 rfl
        have xf := hX1.frozen
        have hZl := hz.lt
        clear hX1 hz hO1 hr' hm' hb HX HO HNA HB c0 c1 c2 c3 hrl'
        by_cases he : postE L x = 0
        · have he' : (postE L x != 0) = false := by rw [he]; rfl
          have HPL := hidE (post_len HLR.out he)
          have HPC := hidE (post_chk HLR.out he)
          have hpl3 := (chkRel_len HPC.out).1
          have HK := hidE (fun w1 (hb : Below wc.heap.size wc w1) => relayCheck_any q' cq' (postL L x) w1 (HNP.out.below hb) (by unfold maxLen; omega))
          rw [HPC.out] at HK
          clear he
          generalize postL L x = PL at *
          generalize postI L x = bi at *
          generalize postE L x = er at *
          by_cases hlen : PL.length = L.length + 1
          · obtain rfl : bi = true := by rw [HPL.out, decide_eq_true hlen]
            have hlen' : ((PL.length : Int) == (L.length : Int) + 1) = true := by rw [hlen]; simp
            have HLN := hidE hlen
            clear hlen
            go_upto_region 13 with (go_at_call 6; refine (HK.out _ (Below.refl _ _)).mono ?_; rintro e w5 ⟨rfl, hb5⟩)
            have hX5 := HXX.out.thruB hb5
            have z0 := (HZ.out.thruB hb5).is 0 rfl
            have x0 := hX5.is 0 rfl
            have xf := hX5.frozen
            have HX5 := hidE hX5
            have HB5 := hidE hb5
            clear hX5 hb5
            go_wp2_with fail
            go_roundw
            case rel =>
              have hO5 := HR1.out.far (NtO.stays 0) (by omega) (grownBy_none HB5.out)
              have hO6 := hO5.far (NtO.stays R) (Nat.lt_succ_self R) (grownBy_set' w5 R 0 (.slice q' PL.length cq'))
              exact ⟨i + 1, PL, q', cq', rs', by go_num, hlt, HPC.out, HM1.out, HX5.out.set 0 _, hO6, (HB1.out.thru HB5.out HB1.out.size).setCell (by show w.heap.size ≤ R; exact hR) _⟩
            case measure => simp [intOf]; omega
          · obtain rfl : bi = false := by rw [HPL.out, decide_eq_false hlen]
            have hlen' : ((PL.length : Int) == (L.length : Int) + 1) = false := by rw [beq_eq_false_iff_ne]; omega
            have HLN := hidE hlen
            clear hlen
            go_upto_region 13 with (go_at_call 6; refine (HK.out _ (Below.refl _ _)).mono ?_; rintro e w5 ⟨rfl, hb5⟩)
            have hX5 := HXX.out.thruB hb5
            have z0 := (HZ.out.thruB hb5).is 0 rfl
            have x0 := hX5.is 0 rfl
            have xf := hX5.frozen
            have HX5 := hidE hX5
            have HB5 := hidE hb5
            clear hX5 hb5
            go_wp2_with fail
            go_roundw
            case rel =>
              have hO5 := HR1.out.far (NtO.stays 0) (by omega) (grownBy_none HB5.out)
              have hO6 := hO5.far (NtO.stays R) (Nat.lt_succ_self R) (grownBy_set' w5 R 0 (.slice q' PL.length cq'))
              exact ⟨i + 1, PL, q', cq', rs', by go_num, hlt, HPC.out, HM1.out, HX5.out.set 0 _, hO6, (HB1.out.thru HB5.out HB1.out.size).setCell (by show w.heap.size ≤ R; exact hR) _⟩
            case measure => simp [intOf]; omega
        · have he' : (postE L x != 0) = true := by rw [bne_iff_ne]; exact he
          have hpb := post_bad he
          clear he
          generalize postL L x = PL at *
          generalize postI L x = bi at *
          generalize postE L x = er at *
          obtain ⟨rfl, rfl⟩ := hpb
          go_wp2_with fail
          go_roundw
          case rel => exact ⟨i + 1, L, q, cq, rs, by go_num, hlt, HLR.out, HM.out, HXX.out, HO1.out, HB1.out⟩
          case measure => simp [intOf]; omega
    · obtain rfl : i = ns.length := by omega
      have hi1 : ¬ ((ns.length : Int) < (ns.length : Int)) := by omega
      have HX := hidE hX
      have HB := hidE hB
      have HNA := hidE hNA
      have HLR := hidE hL
      have HIL := hidE (⟨hcp.1, hcp.2⟩ : L.length ≤ cq ∧ cq ≤ maxLen)
      have hcq : L.length ≤ cq := hcp.1
      clear hX hB hNA hL hm hO hrl hi hge hcp
      go_wp2_with fail
      go_loopw [10] (fun t10 wv => ∃ k : Nat, k ≤ L.length ∧ t10 = .int .i64 k ∧ Below wr.heap.size wr wv) (fun t10 _ => L.length - (intOf t10).toNat)
      case atStart => exact ⟨0, Nat.zero_le _, rfl, Below.refl _ _⟩
      case round =>
        obtain ⟨k, hk, rfl, hb⟩ := hrel
        have x0 := (HX.out.thruB hb).is 0 rfl
        by_cases hlt : k < L.length
        · have hk1 : (k : Int) < L.length := by omega
          have hnum := chkRel_at HLR.out hlt
          have HTK := hidE ((HNA.out.below hb).take k)
          rcases HNA.out.below hb with e0 | ⟨b, o, rfl, hlb, hcc⟩
          · rw [e0] at hlt; simp at hlt
          obtain ⟨p1, cp1, q1, cq1, c0, c1, c2, c3, _⟩ := hcc k hlt
          rw [hnum] at c1
          have hcl := cntS_le L[k].site (L.take k)
          rw [List.length_take] at hcl
          have HM := hidE (fun C d os => howMany_any (some ⟨b, o, none⟩) C (L.take k) L[k].site _ (HTK.out.below (below_regrown wr d os)) (by simp; omega))
          rw [show (L.take k).length = k by simp; omega] at HM
          have hct0 : (0 : Int) ≤ (cntS L[k].site (L.take k) : Int) := by omega
          have hct1 : (cntS L[k].site (L.take k) : Int) ≤ 300 := by omega
          clear hcc hnum hcl
          generalize (cntS L[k].site (L.take k) : Int) = ct at *
          generalize L[k].site = st at *
          have y0 := cell_regrown x0
          have k0 := cell_regrown c0
          have k1 := cell_regrown c1
          clear c2 c3
          go_upto_region 17 with fail
          refine wp_region_quiet_below (by kernel_rfl) (by kernel_rfl) ?_
          repeat (first | go_big_quiet_step ((go_at_call 7; with_reducible exact Calls.regrown_of (HM.out _ _ _))) | quiet_step ((go_at_call 7; with_reducible exact Calls.regrown_of (HM.out _ _ _))))
          refine wpQuiet_nil ?_
          intro _ hw'
          obtain ⟨⟨dq, osq⟩, hw''⟩ := hw'
          subst hw''
          go_wp2_with fail
          go_roundw
          case rel => exact ⟨k + 1, by omega, by go_num, hb.thru (below_regrown _ _ _) hb.size⟩
          case measure => simp [intOf]; omega
        · obtain rfl : k = L.length := by omega
          have hk1 : ¬ ((L.length : Int) < (L.length : Int)) := by omega
          have HBB := hidE (HB.out.thru hb HB.out.size)
          have HNB := hidE (HNA.out.below hb)
          have HXB := hidE (HX.out.thruB hb)
          clear hb hlt hk
          by_cases c1 : cut < 0
          · go_wp2_with fail
            go_ret
            exact ⟨rfl, HBB.out⟩
          by_cases c2 : cut > (L.length : Int)
          · go_wp2_with fail
            go_ret
            exact ⟨rfl, HBB.out⟩
          obtain ⟨pe1, pe2, papp⟩ := pull_parts HLR.out (show 0 ≤ cut by omega) (show cut ≤ (L.length : Int) by omega)
          have hA3 := pull_len 0 cut HLR.out
          have hB3 := pull_len cut 300 HLR.out
          have H1 := hidE (fun w1 (hb : Below wr.heap.size wr w1) => (pull_any q cq L 0 cut w1 (HNB.out.below hb) HIL.out.1 HIL.out.2).mono fun e w' hP => pulled_at hP)
          have H2 := hidE (fun w1 (hb : Below wr.heap.size wr w1) => (pull_any q cq L cut 300 w1 (HNB.out.below hb) HIL.out.1 HIL.out.2).mono fun e w' hP => pulled_at hP)
          rw [pe1] at H1
          rw [pe2] at H2
          have HAB := hidE papp
          clear papp pe1 pe2
          generalize pullL L 0 cut = A at *
          generalize pullL L cut 300 = D at *
          go_upto_region 22 with (go_at_call 8; refine (H1.out _ (Below.refl _ _)).mono ?_; rintro e w5 ⟨pa, ca, rfl, hNA5, _, _, hb5⟩)
          have x0 := (HXB.out.thruB hb5).is 0 rfl
          go_upto_region 23 with (go_at_call 8; refine (H2.out _ hb5).mono ?_; rintro e w6 ⟨pd, cd, rfl, hND6, _, _, hb6⟩)
          have hbb := hb5.thru hb6 hb5.size
          have hNA6 := hNA5.below hb6
          have hX6 := HXB.out.thruB hbb
          have HB6 := hidE (HBB.out.thru hbb HBB.out.size)
          have HN6 := hidE (HNB.out.below hbb)
          obtain ⟨xa, hma, hca, hna⟩ := notes_rowsN hNA6
          obtain ⟨xd, hmd, hcd, hnd⟩ := notes_rowsN hND6
          have HCA : Hid (∀ W', Below w6.heap.size w6 W' → ∀ j u, (xa.flatMap RN.cells)[j]? = some u → ∃ b off, pa = some ⟨b, off, none⟩ ∧ W'.cell? ⟨b, off + j, none⟩ = some u) := fun W' hb j u hj => by
            obtain ⟨b, off, e, h⟩ := hca j u hj
            exact ⟨b, off, e, (hb.cell (block_lt_of_cell h)).trans h⟩
          have HCD : Hid (∀ W', Below w6.heap.size w6 W' → ∀ j u, (xd.flatMap RN.cells)[j]? = some u → ∃ b off, pd = some ⟨b, off, none⟩ ∧ W'.cell? ⟨b, off + j, none⟩ = some u) := fun W' hb j u hj => by
            obtain ⟨b, off, e, h⟩ := hcd j u hj
            exact ⟨b, off, e, (hb.cell (block_lt_of_cell h)).trans h⟩
          have HLA : Hid (xa.length = A.length) := by show _ = _; rw [← hma, List.length_map]
          have HLD : Hid (xd.length = D.length) := by show _ = _; rw [← hmd, List.length_map]
          have HLL : Hid (A.length + D.length = L.length) := by show _ = _; rw [← HAB.out, List.length_append]
          have HRW : Hid (∀ W' p8 c8, Below w6.heap.size w6 W' → World.ownsRow W' w6.heap.size 32 4 (.slice p8 L.length c8) L.length (xa.flatMap RN.cells ++ xd.flatMap RN.cells) → NotesAt W' p8 L) := fun W' p8 c8 hb ho => by
            have h9 := notes_ro (rs := xa ++ xd) (by rw [List.flatMap_append]; exact ho) (by rw [List.length_append, HLA.out, HLD.out, HLL.out]) (fun r hr => by
              rcases List.mem_append.1 hr with h | h
              · exact (hna r h).below hb
              · exact (hnd r h).below hb)
            rw [List.map_append, hma, hmd, HAB.out] at h9
            exact h9
          have HG : Hid ((w6.alloc (Obj.cells #[] 32)).ownsRow w6.heap.size 32 4 (.slice (some ⟨w6.heap.size, 0, none⟩) 0 0) 0 []) := World.ownsRow_lit w6 #[] 0 (Nat.le_refl _) (Nat.zero_le _) rfl
          have x0 := hX6.is 0 rfl
          have hlt6 := hX6.lt
          have HX6 := hidE hX6
          obtain ⟨i0, hi0, hz0, hz1, hz2⟩ := infoCN
          clear hbb hNA5 hNA6 hND6 hb5 hb6 hX6 hma hmd hca hcd hna hnd H1 H2 HX HB HNA HXB HBB HNB
          go_region_held_law (fun w' => w'.cell? ⟨R, 0, none⟩ = some (.slice q L.length cq))
            (first | exact x9 | exact x8 | exact x7 | exact x0 | exact Lib.cell?_alloc_some _ x0)
            ((first
            | (refine step_append_anyG (by first | rfl | simp [Region.wanted, yielded]) (.tmp 112) (.tmp 113) 22 rfl w6.heap.size 32 i0 (.agg #[.int .i64 0, .int .i64 0, .slice none 0 0, .slice none 0 0]) 4 64 Try.underlying22 hi0 hz0 hz1 hz2 rfl (by decide) (.slice (some ⟨w6.heap.size, 0, none⟩) 0 0) 0 [] (by simp [Act.eval]) (by exact HG.out) pa A.length ca (xa.flatMap RN.cells) (by simp [Act.eval]) (by rw [rn_len, HLA.out]) (HCA.out _ (by repeat (first | exact Below.refl _ _ | refine Below.drew ?_ | refine Below.alloc ?_ (by simp <;> omega) _))) (rn_one xa) (by unfold maxLen; omega) (by omega) (by simp <;> omega) ?_; intro v7 w7 hown7 hgrow7; obtain ⟨p7, c7, rfl⟩ := owns_sl hown7; rw [Nat.zero_add, List.nil_append] at hown7; have hB7 : Below w6.heap.size w6 w7 := Below.grown (by repeat (first | exact Below.refl _ _ | refine Below.drew ?_ | refine Below.alloc ?_ (by simp <;> omega) _)) hgrow7 (by simp <;> omega) (by intro k hk; simp [Value.ownBlock] at hk; omega); have x7 := (HX6.out.below hB7 hlt6).is 0 rfl)
            | (refine step_append_anyG (by first | rfl | simp [Region.wanted, yielded]) (.tmp 114) (.tmp 115) 22 rfl w6.heap.size 32 i0 (.agg #[.int .i64 0, .int .i64 0, .slice none 0 0, .slice none 0 0]) 4 64 Try.underlying22 hi0 hz0 hz1 hz2 rfl (by decide) (.slice p7 A.length c7) A.length (xa.flatMap RN.cells) (by simp [Act.eval, Act.put]) (by exact hown7) pd D.length cd (xd.flatMap RN.cells) (by simp [Act.eval, Act.put]) (by rw [rn_len, HLD.out]) (HCD.out _ (by first | exact hB7 | exact hB7.drew)) (rn_one xd) (by unfold maxLen; omega) (by omega) (by first | exact hB7.size | exact hB7.drew.size) ?_; intro v8 w8 hown8 hgrow8; rw [HLL.out] at hown8; obtain ⟨p8, c8, rfl⟩ := owns_sl hown8; have hB8 : Below w6.heap.size w6 w8 := Below.grown (by first | exact hB7 | exact hB7.drew) hgrow8 hB7.size (fun k hk => (hown7.lt k hk).1); have x8 := (HX6.out.below hB8 hlt6).is 0 rfl; have hN8 := HRW.out _ _ _ hB8 hown8)
            | (go_at_call 9; refine (sameNotes_true p8 q c8 cq L _ (by unfold maxLen; omega) (by first | exact hN8 | exact hN8.below (Below.refl _ _).drew) (by first | exact HN6.out.below hB8 | exact HN6.out.below hB8.drew)).mono ?_; rintro e w9 ⟨rfl, hb9⟩; have hB9 : Below w6.heap.size w6 w9 := (by first | exact hB8.thru hb9 hB8.size | exact hB8.drew.thru hb9 hB8.size); have x9 := (HX6.out.below hB9 hlt6).is 0 rfl)))
          go_wp2_with fail
          go_ret
          exact ⟨rfl, HB6.out.thru hB9 HB6.out.size⟩
end Go.Proofs.Ytnhjebdlcbhkcag
