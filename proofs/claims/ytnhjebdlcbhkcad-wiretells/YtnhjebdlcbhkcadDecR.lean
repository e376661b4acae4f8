/- Contract of the reference's DecodeOf. -/
import Derived.Test.YtnhjebdlcbhkcadTkDeed
import Derived.Test.YtnhjebdlcbhkcadDecC
import Derived.Test.YtnhjebdlcbhkcadNoteR
import Derived.Test.YtnhjebdlcbhkcadEach
import Derived.Deep.RegionHeldLaw
namespace Go.Proofs.Ytnhjebdlcbhkcad
open Go.RowKit

theorem below_put {a w : World} {N : Nat} (h : Below a.heap.size a w) (hN : a.heap.size ≤ N) (i : Nat) (v : Value) : Below a.heap.size a (w.setCell ⟨N, i, none⟩ v) := h.setCell (p := ⟨N, i, none⟩) hN v
theorem below_grown' {a w w' : World} {N : Nat} (h : Below a.heap.size a w) (hg : w.grownBy w' (some N)) (hN : a.heap.size ≤ N) : Below a.heap.size a w' := h.trans (below_of_grown hg hN h.size)

set_option maxRecDepth 100000 in
set_option maxHeartbeats 8000000 in
theorem decodeOf_any (s : ByteArray) (w : World) (hs : s.size ≤ maxLen) :
    Calls Try.prog 25 #[.string s] w (DecGives s w) := by
  obtain ⟨i0, hi0, hz0, hz1, hz2⟩ := info_i64
  obtain ⟨j0, hj0, hy0, hy1, hy2⟩ := info_deed
  have hN := Blk.new w zeroN 53
  have hA := alloc_below w (Obj.cells zeroN 53)
  have sz1 : (w.alloc (Obj.cells zeroN 53)).heap.size = w.heap.size + 1 := by simp
  go_enter Try.func25, Try.ntmps25
  go_upto_region 1 with fail
  generalize w.alloc (Obj.cells zeroN 53) = W at *
  have hS : TkSt (W.alloc (Obj.cells #[.string s, .int .i64 0, .bool false] 103)) W.heap.size s 0 false := Blk.new W #[.string s, .int .i64 0, .bool false] 103
  have hA2 := alloc_below W (Obj.cells #[.string s, .int .i64 0, .bool false] 103)
  have sz2 : (W.alloc (Obj.cells #[.string s, .int .i64 0, .bool false] 103)).heap.size = w.heap.size + 2 := by simp [sz1]
  replace hN := hN.thruB hA2
  replace hA := hA.trans (hA2.mono hA.size)
  rw [sz1] at hS
  go_upto_region 2 with fail
  generalize W.alloc (Obj.cells #[.string s, .int .i64 0, .bool false] 103) = W2 at *
  have hK := Blk.new W2 zeroN 53
  have hA3 := alloc_below W2 (Obj.cells zeroN 53)
  replace hN := hN.thruB hA3
  replace hS := hS.thruB hA3
  replace hA := hA.trans (hA3.mono hA.size)
  rw [sz2] at hK
  go_upto_region 3 with fail
  generalize W2.alloc (Obj.cells zeroN 53) = W3 at *
  have nNT : w.heap.size ≠ w.heap.size + 1 := by omega
  have nKT : w.heap.size + 2 ≠ w.heap.size + 1 := by omega
  have H1 := hidE (tkOne_ok (w.heap.size + 1) s 0 false W3 hS (Nat.zero_le _) hs)
  have HN := hidE hN
  have HK := hidE hK
  have HA := hidE hA
  clear hN hK hS hA hA2 hA3 sz1 sz2
  go_wp2_with fail
  refine H1.out.mono ?_
  rintro r w1 ⟨site, n1, e1, rfl, hS, hR, i1, i2, hn1, hg⟩
  have hK1 := HK.out.grown hg (fun q => nKT (by simp at q))
  have k0 := hK1.is 0 rfl
  have fk := hK1.frozen
  have hgs := grownBy_set' w1 (w.heap.size + 2) 0 (.int .i64 site)
  have HK2 : Hid (Blk (w1.setCell ⟨w.heap.size + 2, 0, none⟩ (.int .i64 site)) (w.heap.size + 2) #[.int .i64 site, .int .i64 0, .slice none 0 0, .slice none 0 0] 53) := hidE (hK1.set 0 _)
  have HN2 := hidE ((HN.out.grown hg (fun q => nNT (by simp at q))).grown hgs (fun q => by simp at q))
  have hS2 := hS.grown hgs (fun q => nKT (by simp at q))
  have HA2 := hidE (below_grown' (below_grown' HA.out hg (by omega)) hgs (by omega))
  have HR1 := hidE hR
  clear hS hR hg hK1 hgs H1 HN HK HA
  go_upto_region 4 with fail
  generalize w1.setCell ⟨w.heap.size + 2, 0, none⟩ (.int .i64 site) = W4 at *
  have H2 := hidE (tkTwo_ok (w.heap.size + 1) s n1 e1 W4 hS2 hn1 hs)
  clear hS2 k0 fk
  go_wp2_with fail
  refine H2.out.mono ?_
  rintro r w2 ⟨number, n2, e2, rfl, hS, hR, i3, i4, hn2, hg⟩
  have hK1 := HK2.out.grown hg (fun q => nKT (by simp at q))
  have k0 := hK1.is 1 rfl
  have fk := hK1.frozen
  have hgs := grownBy_set' w2 (w.heap.size + 2) 1 (.int .i64 number)
  have HK3 : Hid (Blk (w2.setCell ⟨w.heap.size + 2, 1, none⟩ (.int .i64 number)) (w.heap.size + 2) #[.int .i64 site, .int .i64 number, .slice none 0 0, .slice none 0 0] 53) := hidE (hK1.set 1 _)
  have HN3 := hidE ((HN2.out.grown hg (fun q => nNT (by simp at q))).grown hgs (fun q => by simp at q))
  have HS3 := hidE (hS.grown hgs (fun q => nKT (by simp at q)))
  have HA3 := hidE (below_grown' (below_grown' HA2.out hg (by omega)) hgs (by omega))
  have HR2 := hidE hR
  clear hS hR hg hK1 hgs H2 HN2 HK2 HA2
  go_upto_region 5 with fail
  generalize w2.setCell ⟨w.heap.size + 2, 1, none⟩ (.int .i64 number) = W5 at *
  clear k0 fk
  have hKlt := HK3.out.lt
  generalize hB : W5.heap.size = B at *
  have HB := hidE hB
  clear hB
  go_wp2_with fail
  go_loopw [6] (fun vi wr => ∃ (i : Nat) (xs : List Int) (m : Nat) (e' : Bool) (v : Value), i ≤ 5 ∧ vi = .int .i64 i ∧ xs.length = i ∧ wr.ownsRow B 3 1 v xs.length (xs.map (Value.int .i64)) ∧ TkSt wr (w.heap.size + 1) s m e' ∧ m ≤ s.size ∧ Rd (pMany p2 i) (lft s n2) e2 xs (lft s m) e' ∧ Blk wr (w.heap.size + 2) #[.int .i64 site, .int .i64 number, v, .slice none 0 0] 53 ∧ Blk wr w.heap.size zeroN 53 ∧ Below w.heap.size w wr ∧ B ≤ wr.heap.size) (fun vi _ => 5 - (intOf vi).toNat)
  case atStart => exact ⟨0, [], n2, e2, .slice none 0 0, Nat.zero_le _, rfl, rfl, World.ownsRow_nil _ _ _ _, HS3.out, hn2, Rd.nil, HK3.out, HN3.out, HA3.out, by rw [HB.out]; exact Nat.le_refl _⟩
  case round =>
    clear HS3 HK3 HN3 HA3 HB
    obtain ⟨i, xs, m, e', v, hik, rfl, hl, hO, hS, hm, hR, hK, hN, hb, hBw⟩ := hrel
    have HR := hidE hR
    have HN := hidE hN
    have HK := hidE hK
    have HO := hidE hO
    have HS := hidE hS
    have HBw := hidE hb
    clear hR hN hK hO hS hb
    rcases Nat.lt_or_ge i 5 with hlt | hge
    · have hi1 : (i : Int) < 5 := by omega
      have HL := hidE hl
      generalize hn9 : xs.length = nx at *
      have hni := HL.out
      subst hni
      clear hl HL
      have hd0 : Below wr.heap.size wr wr.drew := (Below.refl _ _).drew
      have H7 := hidE (tkTwo_ok (w.heap.size + 1) s m e' wr.drew HS.out.drew hm hs)
      have k2 := HK.out.is 2 rfl
      have hNX := hidE hn9
      go_upto_region 8 with fail
      have hO0 := owns_below HO.out hd0
      have hON : v.ownBlock ≠ some (w.heap.size + 1) := own_apart hO0 (by omega)
      have hOK2 : v.ownBlock ≠ some (w.heap.size + 2) := own_apart hO0 (by omega)
      replace k2 : wr.drew.cell? ⟨w.heap.size + 2, 2, none⟩ = some v := k2
      go_region_law (first
            | (refine step_append_own rfl (.tmp 21) (.tmp 23) 50 rfl B 3 i0 (.int .i64 0) 1 8 Try.underlying50 hi0 hz0 hz1 hz2 rfl (by decide) v nx (xs.map (Value.int .i64)) (by simp [Act.eval]) (hO7.alloc _) ⟨w7.heap.size, 0, none⟩ 1 1 [.int .i64 x] (by simp [Act.eval]) rfl (by intro j u hj; rw [Addr.add_lit, Nat.zero_add, World.cell?_alloc_new]; simpa using hj) (fun u hu => by have h8 := List.mem_singleton.1 hu; subst h8; rfl) (by unfold maxLen; omega) (by omega) (by have := hg7.size; have h9 : wr.drew.heap.size = wr.heap.size := rfl; simp; omega) ?_; intro v' w5 hown5 hgrow; obtain ⟨p', c', rfl⟩ := owns_sl hown5; have hK5 := (hK7.alloc (Obj.cells #[.int .i64 x] 3)).grown hgrow (fun q => hOK2 q.symm); have hk5 := hK5.is 2 rfl; have fk5 := hK5.frozen)
            | (go_simp; go_at_call 62; refine H7.out.mono ?_; rintro r w7 ⟨x, m7, e7, rfl, hS7, hR7, x0, x1, hm7, hg7⟩; have hO7 := hO0.kept hg7 (Or.inr hON); have hK7 := HK.out.drew.grown hg7 (fun q => nKT (by simp at q)); have hk7 := hK7.is 2 rfl; have hk8 := (hK7.alloc (Obj.cells #[.int .i64 x] 3)).is 2 rfl; have fk := hK7.frozen))
      all_goals
        have hAl := alloc_below w7 (Obj.cells #[.int .i64 x] 3)
        have hb7 := below_grown' (HBw.out.trans (hd0.mono HBw.out.size)) hg7 (Nat.le_succ w.heap.size)
        have hb8 := hb7.trans (hAl.mono hb7.size)
        have hb9 := hb8.grown hgrow hb8.size (fun j hj => by have h9 := ((hO7.alloc (Obj.cells #[.int .i64 x] 3)).lt j hj).1; omega)
        have HBF := hidE (below_put hb9 (show w.heap.size ≤ w.heap.size + 2 by omega) 2 (.slice p' (nx + 1) c'))
        have hgs := grownBy_set' w5 (w.heap.size + 2) 2 (.slice p' (nx + 1) c')
        have HSF := hidE (((hS7.thruB hAl).grown hgrow (fun q => hON q.symm)).grown hgs (fun q => nKT (by simp at q)))
        have hN7 := (HN.out.drew.grown hg7 (fun q => nNT (by simp at q))).thruB hAl
        have HNF := hidE ((hN7.grown hgrow (fun q => own_apart hO0 (show w.heap.size < B by omega) q.symm)).grown hgs (fun q => by simp at q))
        have HKF : Hid (Blk (w5.setCell ⟨w.heap.size + 2, 2, none⟩ (.slice p' (nx + 1) c')) (w.heap.size + 2) #[.int .i64 site, .int .i64 number, .slice p' (nx + 1) c', .slice none 0 0] 53) := hidE (hK5.set 2 _)
        have hOF := ownsRow_setCell_other (a := ⟨w.heap.size + 2, 2, none⟩) hown5 (own_apart hown5 hKlt) (.slice p' (nx + 1) c')
        have HOF : Hid ((w5.setCell ⟨w.heap.size + 2, 2, none⟩ (.slice p' (nx + 1) c')).ownsRow B 3 1 (.slice p' (nx + 1) c') (nx + 1) ((xs ++ [x]).map (Value.int .i64))) := hidE (by rw [List.map_append]; exact hOF)
        have hBF : B ≤ (w5.setCell ⟨w.heap.size + 2, 2, none⟩ (.slice p' (nx + 1) c')).heap.size := by
          have h1 := hg7.size
          have h2 := hAl.size
          have h3 := hgrow.size
          have h4 := hgs.size
          have h5 : wr.drew.heap.size = wr.heap.size := rfl
          omega
        have HRF := hidE (HR.out.snoc hR7)
        have hlen : (xs ++ [x]).length = nx + 1 := by rw [List.length_append, hNX.out]; rfl
        clear hAl hb7 hb8 hb9 hgs hN7 hOF hown5 hgrow hK5 hk5 fk5 hO7 hK7 hk7 hk8 fk hg7 hR7 hS7
        go_wp2_with fail
        go_roundw
        case rel => exact ⟨nx + 1, xs ++ [x], m7, e7, .slice p' (nx + 1) c', hlt, by go_num, hlen, by rw [hlen]; exact HOF.out, HSF.out, hm7, HRF.out, HKF.out, HNF.out, HBF.out, hBF⟩
        case measure => simp [intOf]; omega
    · have hki : i = 5 := by omega
      subst hki
      have hi1 : ¬ (((5 : Nat) : Int) < 5) := by omega
      have H9 := hidE (tkOne_ok (w.heap.size + 1) s m e' wr HS.out hm hs)
      have hKlt2 := HK.out.lt
      go_upto_region 10 with (go_at_call 61; refine H9.out.mono ?_; rintro r w9 ⟨many, m9, e9, rfl, hS, hR9, d0, d1, hm9, hg9⟩)
      obtain ⟨kk, hkk⟩ : ∃ j : Nat, many = (j : Int) := ⟨many.toNat, by omega⟩
      subst hkk
      have HK9 := hidE (HK.out.grown hg9 (fun q => nKT (by simp at q)))
      have HN9 := hidE (HN.out.grown hg9 (fun q => nNT (by simp at q)))
      have HO9 := hidE (HO.out.kept hg9 (Or.inr (own_apart HO.out (show w.heap.size + 1 < B by omega))))
      have HA9 := hidE (below_grown' HBw.out hg9 (Nat.le_succ w.heap.size))
      have HS9 := hidE hS
      have HR9 := hidE hR9
      have HR3 := HR
      have hKl9 := HK9.out.lt
      have hB29 : B ≤ w9.heap.size := Nat.le_trans hBw hg9.size
      clear hS hR9 hg9 H9 HK HN HO HBw HS HR hKlt2 hi1 hge hik
      obtain ⟨pN, cN, rfl⟩ := owns_sl HO9.out
      have HL := hidE hl
      rw [hl] at HO9 HK9
      clear hl
      generalize hB2 : w9.heap.size = B2 at *
      have HB2 := hidE hB2
      clear hB2
      have hstay := DdOwn.stays (w.heap.size + 1)
      go_wp2_with fail
      go_loopw [8] (fun vi wr => ∃ (i : Nat) (rs : List RD) (m : Nat) (e' : Bool) (v : Value), i ≤ kk ∧ vi = .int .i64 i ∧ rs.length = i ∧ RowOwn 98 7 RD.cells DdOwn wr B2 v rs ∧ TkSt wr (w.heap.size + 1) s m e' ∧ m ≤ s.size ∧ Rd (pMany pD i) (lft s m9) e9 (rs.map RD.d) (lft s m) e' ∧ Blk wr (w.heap.size + 2) #[.int .i64 site, .int .i64 number, .slice pN 5 cN, v] 53 ∧ Blk wr w.heap.size zeroN 53 ∧ wr.ownsRow B 3 1 (.slice pN 5 cN) 5 (xs.map (Value.int .i64)) ∧ Below w.heap.size w wr ∧ B2 ≤ wr.heap.size) (fun vi _ => kk - (intOf vi).toNat)
      case atStart => exact ⟨0, [], m9, e9, .slice none 0 0, Nat.zero_le _, rfl, rfl, RowOwn.nil, HS9.out, hm9, Rd.nil, HK9.out, HN9.out, HO9.out, HA9.out, by rw [HB2.out]; exact Nat.le_refl _⟩
      case round =>
        clear HS9 HK9 HN9 HO9 HA9 HB2
        obtain ⟨i, rs, m', e2', v, hik, rfl, hl, hO, hS, hm', hR, hK, hN, hI, hb, hBw2⟩ := hrel
        have t2 := hS.is 2 rfl
        have HR := hidE hR
        have HN := hidE hN
        have HK := hidE hK
        have HO := hidE hO
        have HS := hidE hS
        have HBw := hidE hb
        have HI := hidE hI
        clear hR hN hK hO hS hb hI
        by_cases hgo : i < kk ∧ e2' = false
        · obtain ⟨hlt, rfl⟩ := hgo
          have hi1 : (i : Int) < (kk : Int) := by omega
          have HLr := hidE hl
          generalize hn9 : rs.length = nx at *
          have hni := HLr.out
          subst hni
          clear hl HLr
          have hd0 : Below wr.heap.size wr wr.drew := (Below.refl _ _).drew
          have H7 := hidE (tkDeed_ok (w.heap.size + 1) s m' false wr.drew HS.out.drew hm' hs)
          have k2 := HK.out.is 3 rfl
          have hNX := hidE hn9
          have hTB : w.heap.size + 1 < B2 := by omega
          have hO0 := HO.out.far hstay hTB (grownBy_none hd0)
          have hON : v.ownBlock ≠ some (w.heap.size + 1) := own_apart hO0.own hTB
          have hOK2 : v.ownBlock ≠ some (w.heap.size + 2) := own_apart hO0.own (by omega)
          have hO0' := hidE hO0
          clear hn9
          go_upto_region 13 with fail
          clear t2
          replace k2 : wr.drew.cell? ⟨w.heap.size + 2, 3, none⟩ = some v := k2
          go_region_law (first
            | (refine step_append_own rfl (.tmp 38) (.tmp 40) 51 rfl B2 98 j0 (.agg #[.int .i64 0, .slice none 0 0, .int .i64 0, .string ⟨#[]⟩, .slice none 0 0, .int .i64 0, .int .i64 0]) 7 96 Try.underlying51 hj0 hy0 hy1 hy2 rfl (by decide) v nx (rs.flatMap RD.cells) (by simp [Act.eval]) hown8 ⟨w7.heap.size, 0, none⟩ 1 1 (RD.cells x) (by simp [Act.eval]) rfl (by intro j u hj; rw [Addr.add_lit, Nat.zero_add, World.cell?_alloc_new]; simpa [RD.cells] using hj) (by intro u hu; simp only [RD.cells, List.mem_cons, List.not_mem_nil, or_false] at hu; rcases hu with rfl | rfl | rfl | rfl | rfl | rfl | rfl <;> rfl) (by unfold maxLen; omega) (by omega) hsz8 ?_; intro v' w5 hown5 hgrow; obtain ⟨p', c', rfl⟩ := owns_sl hown5; have hK5 := (hK7.thruB hAl).grown hgrow (fun q => hOK2 q.symm); have hk5 := hK5.is 3 rfl; have fk5 := hK5.frozen)
            | (go_simp; go_at_call 63; refine H7.out.mono ?_; rintro r w7 ⟨x, m7, e7, rfl, hx, hS7, hR7, hm7, hg7⟩; unfold ddV; have hO7 := hO0'.out.far hstay hTB hg7; have hAl := alloc_below w7 (Obj.cells #[.int .i64 x.d.kind, .slice x.p x.d.rp.length x.cp, .int .i64 x.d.rc, .string x.d.rt, .slice x.q x.d.mp.length x.cq, .int .i64 x.d.mc, .int .i64 x.d.many] 98); have hO8 := hO7.far hstay hTB (grownBy_none hAl); have hown8 := hO8.own; rw [hNX.out] at hown8; have hsz8 := Nat.le_trans (Nat.le_trans hBw2 hg7.size) hAl.size; have hK7 := HK.out.drew.grown hg7 (fun q => nKT (by simp at q)); have hk7 := hK7.is 3 rfl; have hk8 := (hK7.thruB hAl).is 3 rfl; have fk := hK7.frozen))
          all_goals
            have hwd : wr.drew.heap.size = wr.heap.size := rfl
            have hx8 := hstay.far _ _ _ _ (hx.mono (show B2 ≤ wr.drew.heap.size from hBw2)) hTB (grownBy_none hAl)
            have hOs := hO8.snoc hstay hx8 (by rw [hNX.out]; exact hown5) hgrow
            have hgs := grownBy_set' w5 (w.heap.size + 2) 3 (.slice p' (nx + 1) c')
            have HOF := hidE (hOs.far (DdOwn.stays (w.heap.size + 2)) (by omega) hgs)
            have hb7 := below_grown' (HBw.out.trans (hd0.mono HBw.out.size)) hg7 (Nat.le_succ w.heap.size)
            have hb8 := hb7.trans (hAl.mono hb7.size)
            have hb9 := hb8.grown hgrow hb8.size (fun j hj => by have h9 := (hO8.own.lt j hj).1; omega)
            have HBF := hidE (below_put hb9 (show w.heap.size ≤ w.heap.size + 2 by omega) 3 (.slice p' (nx + 1) c'))
            have HSF := hidE (((hS7.thruB hAl).grown hgrow (fun q => hON q.symm)).grown hgs (fun q => nKT (by simp at q)))
            have hN7 := (HN.out.drew.grown hg7 (fun q => nNT (by simp at q))).thruB hAl
            have HNF := hidE ((hN7.grown hgrow (fun q => own_apart hO8.own (show w.heap.size < B2 by omega) q.symm)).grown hgs (fun q => by simp at q))
            have HKF : Hid (Blk (w5.setCell ⟨w.heap.size + 2, 3, none⟩ (.slice p' (nx + 1) c')) (w.heap.size + 2) #[.int .i64 site, .int .i64 number, .slice pN 5 cN, .slice p' (nx + 1) c'] 53) := hidE (hK5.set 3 _)
            have hI0 := owns_below HI.out hd0
            have hI7 := hI0.kept hg7 (Or.inr (own_apart hI0 (show w.heap.size + 1 < B by omega)))
            have hI8 := owns_below hI7 hAl
            have hI5 := hI8.kept hgrow (types_apart hI8 hO8.own (by decide))
            have HIF := hidE (hI5.kept hgs (Or.inr (own_apart hI5 hKlt)))
            have hBF : B2 ≤ (w5.setCell ⟨w.heap.size + 2, 3, none⟩ (.slice p' (nx + 1) c')).heap.size := by
              have h1 := hg7.size
              have h2 := hAl.size
              have h3 := hgrow.size
              have h4 := hgs.size
              omega
            have HRF := hidE (HR.out.snoc hR7)
            have hlen : (rs ++ [x]).length = nx + 1 := by rw [List.length_append, hNX.out]; rfl
            clear hAl hb7 hb8 hb9 hgs hN7 hOs hown5 hgrow hK5 hk5 fk5 hO7 hO8 hown8 hK7 hk7 hk8 fk hg7 hR7 hS7 hx hx8 hI0 hI7 hI8 hI5
            go_wp2_with fail
            go_roundw
            case rel => exact ⟨nx + 1, rs ++ [x], m7, e7, .slice p' (nx + 1) c', hlt, by go_num, hlen, HOF.out, HSF.out, hm7, by rw [List.map_append]; exact HRF.out, HKF.out, HNF.out, HIF.out, HBF.out, hBF⟩
            case measure => simp [intOf]; omega
        · have HRK : Hid (Rd (pMany pD kk) (lft s m9) e9 (rs.map RD.d) (lft s m') e2') := by
            show Rd _ _ _ _ _ _
            by_cases hlt : i < kk
            · have : e2' = true := by cases e2' with
                | true => rfl
                | false => exact absurd ⟨hlt, rfl⟩ hgo
              subst this
              exact HR.out.stop (by omega)
            · have : i = kk := by omega
              subst this; exact HR.out
          have hdec : ¬ ((i : Int) < (kk : Int)) ∨ (((i : Int) < (kk : Int)) ∧ e2' = true) := by
            by_cases hlt : i < kk
            · refine Or.inr ⟨by omega, ?_⟩
              cases e2' with
              | true => rfl
              | false => exact absurd ⟨hlt, rfl⟩ hgo
            · exact Or.inl (by omega)
          have hrl : rs.length ≤ 255 := by omega
          have HRN := hidE (HR1.out.note HR2.out HR3.out HR9.out (by simpa using HRK.out))
          obtain ⟨pD, cD, rfl⟩ := owns_sl HO.out.own
          have HNT : Hid (NtOwn wr B ⟨site, number, xs, rs.map RD.d⟩ pN pD cN cD) := by
            have h5 := HL.out
            refine hidE ⟨by show xs.length ≤ 255; omega, by show (rs.map RD.d).length ≤ 255; rw [List.length_map]; exact hrl, ?_, rs, rfl, owns_base HO.out.own hB29, fun y hy => (HO.out.each y hy).mono hB29⟩
            show wr.ownsRow B _ 1 (.slice pN xs.length cN) xs.length _
            rw [h5]; exact HI.out
          have HLN : Hid ((rs.map RD.d).length = rs.length) := by show _ = _; rw [List.length_map]
          clear hgo HR HRK HR1 HR2 HR3 HR9 HO HI hstay
          generalize hX : (⟨site, number, xs, rs.map RD.d⟩ : Nt) = nt at *
          have hv : ntV nt pN pD cN cD = .agg #[.int .i64 site, .int .i64 number, .slice pN 5 cN, .slice pD rs.length cD] := by
            rw [← hX]; unfold ntV; simp only [HL.out, HLN.out]
          have HV := hidE hv
          have HC := hidE (fun w1 (hb : Below wr.heap.size wr w1) => checkNote_any nt pN pD cN cD w1 ((HNT.out.far (N := w.heap.size) (by omega) (grownBy_none hb)).at'))
          rw [hv] at HC
          clear hv hX HL HLN hl
          generalize rs.length = rl at *
          have hdz : lft s 0 = s.data.toList := rfl
          rw [hdz] at HRN
          have HBAD : Hid ((e2' = true ∨ lft s m' ≠ []) → decE s.data.toList = 1 ∧ decN s.data.toList = noNt) := hidE fun h => HRN.out.dec_bad h
          obtain ⟨hF0, hG0⟩ := fill4 HN.out (.int .i64 0) (.int .i64 0) (.slice none 0 0) (.slice none 0 0)
          have hbF := below_grown' HBw.out hG0 (Nat.le_refl _)
          unfold put4 at hF0 hbF
          have HF0 := hidE hF0
          have HBF := hidE hbF
          have y0 := HN.out.is 0 rfl
          have y1 := HN.out.is 1 rfl
          have y2 := HN.out.is 2 rfl
          have y3 := HN.out.is 3 rfl
          have fy := HN.out.frozen
          have t1 := HS.out.is 1 rfl
          have x0 := HK.out.is 0 rfl
          have x1 := HK.out.is 1 rfl
          have x2 := HK.out.is 2 rfl
          have x3 := HK.out.is 3 rfl
          clear hF0 hG0 hbF hdz
          cases he : e2' with
          | true =>
            subst he
            obtain ⟨hE, hD⟩ := HBAD.out (Or.inl rfl)
            clear HBAD HRN HC HNT HV
            rcases hdec with hd | ⟨hd, _⟩
            all_goals
              go_wp2_with fail
              have k0 := HF0.out.is 0 rfl
              have k1 := HF0.out.is 1 rfl
              have k2 := HF0.out.is 2 rfl
              have k3 := HF0.out.is 3 rfl
              exact bodyPost_ret (v := .tuple #[.agg #[.int .i64 0, .int .i64 0, .slice none 0 0, .slice none 0 0], .int .i64 1]) (by simp [results, Try.results25, go_sem, k0, k1, k2, k3]) rfl ⟨none, none, 0, 0, by rw [hE, hD]; rfl, by rw [hD]; exact noNt_at _, HBF.out⟩
          | false =>
            subst he
            have hd : ¬ ((i : Int) < (kk : Int)) := by
              rcases hdec with h | ⟨_, h⟩
              · exact h
              · cases h
            clear hdec
            rcases Nat.lt_or_ge m' s.size with hlt | hge
            · obtain ⟨hE, hD⟩ := HBAD.out (Or.inr (by rw [lft_cons hlt]; simp))
              have hlt2 : (m' : Int) < (s.size : Int) := by omega
              clear HBAD HRN HC HNT HV
              go_wp2_with fail
              have k0 := HF0.out.is 0 rfl
              have k1 := HF0.out.is 1 rfl
              have k2 := HF0.out.is 2 rfl
              have k3 := HF0.out.is 3 rfl
              exact bodyPost_ret (v := .tuple #[.agg #[.int .i64 0, .int .i64 0, .slice none 0 0, .slice none 0 0], .int .i64 1]) (by simp [results, Try.results25, go_sem, k0, k1, k2, k3]) rfl ⟨none, none, 0, 0, by rw [hE, hD]; rfl, by rw [hD]; exact noNt_at _, HBF.out⟩
            · have hlt2 : ¬ ((m' : Int) < (s.size : Int)) := by omega
              have HGOOD := hidE (Rd.dec_good (s := s.data.toList) (n := nt) (by have h9 := HRN.out; rw [lft_nil hge] at h9; exact h9))
              clear HBAD HRN HF0 HBF
              have hNB : w.heap.size < B := by omega
              go_upto_region 17 with (go_at_call 23; refine (HC.out wr (Below.refl _ _)).mono ?_; rintro r w4 ⟨rfl, hb⟩)
              have hN4 := HN.out.thruB hb
              have hK4 := HK.out.thruB hb
              have hT4 := HNT.out.far hNB (grownBy_none hb)
              have hb4 := HBw.out.trans (hb.mono HBw.out.size)
              replace x0 := hK4.is 0 rfl
              replace x1 := hK4.is 1 rfl
              replace x2 := hK4.is 2 rfl
              replace x3 := hK4.is 3 rfl
              replace y0 := hN4.is 0 rfl
              replace y1 := hN4.is 1 rfl
              replace y2 := hN4.is 2 rfl
              replace y3 := hN4.is 3 rfl
              replace fy := hN4.frozen
              clear t1 t2 HC hK4 HN HK HS hb HNT
              by_cases hc : chkN nt = 0
              · have HE := hidE HGOOD.out
                rw [hc, if_pos rfl] at HE
                rw [hc]
                obtain ⟨hF, hG⟩ := fill4 hN4 (.int .i64 site) (.int .i64 number) (.slice pN 5 cN) (.slice pD rl cD)
                have hbF := below_grown' hb4 hG (Nat.le_refl _)
                have hTF := (hT4.far hNB hG).at'
                have HTF := hidE hTF
                unfold put4 at hF hbF
                have HF := hidE hF
                have HBF := hidE hbF
                clear hF hbF hG hTF hT4 hb4 hN4 HGOOD
                go_wp2_with fail
                have k0 := HF.out.is 0 rfl
                have k1 := HF.out.is 1 rfl
                have k2 := HF.out.is 2 rfl
                have k3 := HF.out.is 3 rfl
                exact bodyPost_ret (v := .tuple #[.agg #[.int .i64 site, .int .i64 number, .slice pN 5 cN, .slice pD rl cD], .int .i64 0]) (by simp [results, Try.results25, go_sem, k0, k1, k2, k3]) rfl ⟨pN, pD, cN, cD, by rw [HE.out.1, HE.out.2, HV.out], by rw [HE.out.2]; exact HTF.out, HBF.out⟩
              · have hcb : (chkN nt != 0) = true := bne_iff_ne.2 hc
                have HE := hidE HGOOD.out
                rw [if_neg hc] at HE
                obtain ⟨hF, hG⟩ := fill4 hN4 (.int .i64 0) (.int .i64 0) (.slice none 0 0) (.slice none 0 0)
                have hbF := below_grown' hb4 hG (Nat.le_refl _)
                unfold put4 at hF hbF
                have HF := hidE hF
                have HBF := hidE hbF
                clear hF hbF hG hT4 hb4 hN4 HGOOD hc
                generalize chkN nt = cn at *
                go_wp2_with fail
                have k0 := HF.out.is 0 rfl
                have k1 := HF.out.is 1 rfl
                have k2 := HF.out.is 2 rfl
                have k3 := HF.out.is 3 rfl
                exact bodyPost_ret (v := .tuple #[.agg #[.int .i64 0, .int .i64 0, .slice none 0 0, .slice none 0 0], .int .i64 cn]) (by simp [results, Try.results25, go_sem, k0, k1, k2, k3]) rfl ⟨none, none, 0, 0, by rw [HE.out.1, HE.out.2]; rfl, by rw [HE.out.2]; exact noNt_at _, HBF.out⟩
end Go.Proofs.Ytnhjebdlcbhkcad
