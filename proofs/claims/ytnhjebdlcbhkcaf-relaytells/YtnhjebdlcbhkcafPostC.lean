/- Contract of relay.Post: all but what is taken up. -/
import Derived.Test.YtnhjebdlcbhkcafCountC
import Derived.Test.YtnhjebdlcbhkcafCmp
import Derived.Test.YtnhjebdlcbhkcafPutC
namespace Go.Proofs.Ytnhjebdlcbhkcaf
open Go.RowKit Go.Maps

/-- what Post tells -/
def postE (ns : List Nt) (n : Nt) : Int := if chkRel ns ≠ 0 then chkRel ns else if chkN n ≠ 0 then chkN n else if (cntS n.site ns : Int) + 1 < n.number then 4 else if n.number = (cntS n.site ns : Int) + 1 ∧ ns.length = 300 then 2 else 0
/-- whether the note is taken up -/
def postI (ns : List Nt) (n : Nt) : Bool := decide (postE ns n = 0) && decide (n.number = (cntS n.site ns : Int) + 1)
/-- the log behind it -/
def postL (ns : List Nt) (n : Nt) : List Nt := if postE ns n ≠ 0 then [] else if postI ns n = true then ns ++ [n] else ns

/-- a relay of copies, whether, and what is wrong -/
def Posted (ns : List Nt) (is : Bool) (er : Int) (w : World) (e : Ending) (w' : World) : Prop :=
  ∃ (rs : List RN) (p : Option Addr) (cap : Nat), e = .returned (.tuple #[.agg #[.slice p ns.length cap], .bool is, .int .i64 er]) ∧ rs.map RN.n = ns ∧ RowOwn 28 4 RN.cells NtO w' w.heap.size (.slice p ns.length cap) rs ∧ Below w.heap.size w w'

theorem Posted.none {er : Int} {w w' : World} (hb : Below w.heap.size w w') : Posted [] false er w (.returned (.tuple #[.agg #[.slice Option.none 0 0], .bool false, .int .i64 er])) w' :=
  ⟨[], Option.none, 0, rfl, rfl, RowOwn.nil, hb⟩

set_option maxRecDepth 100000 in
set_option maxHeartbeats 4000000 in
theorem post_any (a : Option Addr) (c : Nat) (ns : List Nt) (n : Nt) (p q : Option Addr) (cp cq : Nat) (w : World) (h : NotesAt w a ns) (hl : ns.length ≤ maxLen) (hn : NtAt w n p q) :
    Calls Try.prog 4 #[.agg #[.slice a ns.length c], ntV n p q cp cq] w (Posted (postL ns n) (postI ns n) (postE ns n) w) := by
  obtain ⟨site, number, needs, deeds⟩ := n
  unfold ntV
  simp only
  have hB1 : Below w.heap.size w (((w.alloc (Obj.cells #[.slice a ns.length c] 24)).alloc (Obj.cells #[.int .i64 site, .int .i64 number, .slice p needs.length cp, .slice q deeds.length cq] 28)).alloc (Obj.cells #[.slice none 0 0] 24)) := (((Below.refl _ _).alloc (Nat.le_refl _) _).alloc (by simp) _).alloc (by simp; omega) _
  have hX : Blk (((w.alloc (Obj.cells #[.slice a ns.length c] 24)).alloc (Obj.cells #[.int .i64 site, .int .i64 number, .slice p needs.length cp, .slice q deeds.length cq] 28)).alloc (Obj.cells #[.slice none 0 0] 24)) w.heap.size #[.slice a ns.length c] 24 := ((Blk.new w _ _).alloc _).alloc _
  have hY : Blk (((w.alloc (Obj.cells #[.slice a ns.length c] 24)).alloc (Obj.cells #[.int .i64 site, .int .i64 number, .slice p needs.length cp, .slice q deeds.length cq] 28)).alloc (Obj.cells #[.slice none 0 0] 24)) (w.heap.size + 1) #[.int .i64 site, .int .i64 number, .slice p needs.length cp, .slice q deeds.length cq] 28 := by
    have := Blk.new (w.alloc (Obj.cells #[.slice a ns.length c] 24)) #[.int .i64 site, .int .i64 number, .slice p needs.length cp, .slice q deeds.length cq] 28
    rw [show (w.alloc (Obj.cells #[.slice a ns.length c] 24)).heap.size = w.heap.size + 1 by simp] at this
    exact this.alloc _
  have hZ : Blk (((w.alloc (Obj.cells #[.slice a ns.length c] 24)).alloc (Obj.cells #[.int .i64 site, .int .i64 number, .slice p needs.length cp, .slice q deeds.length cq] 28)).alloc (Obj.cells #[.slice none 0 0] 24)) (w.heap.size + 1 + 1) #[.slice none 0 0] 24 := by
    have := Blk.new ((w.alloc (Obj.cells #[.slice a ns.length c] 24)).alloc (Obj.cells #[.int .i64 site, .int .i64 number, .slice p needs.length cp, .slice q deeds.length cq] 28)) #[.slice none 0 0] 24
    rw [show ((w.alloc (Obj.cells #[.slice a ns.length c] 24)).alloc (Obj.cells #[.int .i64 site, .int .i64 number, .slice p needs.length cp, .slice q deeds.length cq] 28)).heap.size = w.heap.size + 1 + 1 by simp] at this
    exact this
  have H0 := hidE h
  have HNT := hidE hn
  clear h hn
  go_enter Try.func4, Try.ntmps4
  go_upto_region 1 with fail
  generalize ((w.alloc (Obj.cells #[.slice a ns.length c] 24)).alloc (Obj.cells #[.int .i64 site, .int .i64 number, .slice p needs.length cp, .slice q deeds.length cq] 28)).alloc (Obj.cells #[.slice none 0 0] 24) = W at *
  have H1 := hidE (count_any a c ns W (H0.out.below hB1) hl)
  have n0 := hX.is 0 rfl
  have HX := hidE hX
  have HY := hidE hY
  have HZ := hidE hZ
  have HB := hidE hB1
  have hZW := hZ.lt
  clear hX hY hZ hB1
  go_upto_region 2 with (go_at_call 12; refine H1.out.mono ?_; rintro r w2 ⟨mp, rfl, hcnt, hb2⟩)
  have HX2 := hidE (HX.out.thruB hb2)
  have HY2 := hidE (HY.out.thruB hb2)
  have HZ2 := hidE (HZ.out.thruB hb2)
  have HB2 := hidE (HB.out.thru hb2 HB.out.size)
  have hs2 := hb2.size
  have HCN := hidE hcnt
  have H2 := hidE (wireCheck_any ⟨site, number, needs, deeds⟩ p q cp cq w2 (HNT.out.below HB2.out))
  have x0 := HY2.out.is 0 rfl
  have x1 := HY2.out.is 1 rfl
  have x2 := HY2.out.is 2 rfl
  have x3 := HY2.out.is 3 rfl
  clear hcnt hb2 H1 HX HY HZ HB n0
  go_upto_region 3 with (first
    | (go_at_call 14; refine H2.out.mono ?_; rintro r w3 ⟨rfl, hb3⟩)
    | (go_at_call 13; refine (or25_any _ _ (chkRel ns) (chkN ⟨site, number, needs, deeds⟩) _ (by go_simp) (by go_simp)).mono ?_; rintro r w4 ⟨rfl, rfl⟩))
  have hA4 := alloc_below w3 (Obj.cells #[.int .i64 (chkRel ns), .int .i64 (chkN ⟨site, number, needs, deeds⟩)] 29)
  have hb4 := hb3.thru hA4 hb3.size
  have hX4 := HX2.out.thruB hb4
  have hY4 := HY2.out.thruB hb4
  have hZ4 := HZ2.out.thruB hb4
  have HB4 := hidE (HB2.out.thru hb4 HB2.out.size)
  have hCM : chkRel ns = 0 → ∃ B n, mp = some B ∧ W.heap.size ≤ B ∧ CntMap (w3.alloc (Obj.cells #[.int .i64 (chkRel ns), .int .i64 (chkN ⟨site, number, needs, deeds⟩)] 29)) B n ns := fun e => by
    obtain ⟨B, n, h1, h2, D, h3, h4⟩ := HCN.out e
    exact ⟨B, n, h1, h2, D, h3.kept (grownBy_none (row := none) hb4) (by simp), h4⟩
  have HC4 := hidE hCM
  have hs4 := hb4.size
  clear hA4 hb4 hb3 hCM HX2 HY2 HZ2 HB2 HCN H2 x0 x1 x2 x3
  generalize w3.alloc (Obj.cells #[.int .i64 (chkRel ns), .int .i64 (chkN ⟨site, number, needs, deeds⟩)] 29) = W4 at *
  have HX := hidE hX4
  have HY := hidE hY4
  have HZ := hidE hZ4
  have z0 := hZ4.is 0 rfl
  have zf := hZ4.frozen
  clear hX4 hY4 hZ4
  have HPI : Hid (∀ er, er ≠ 0 → postE ns ⟨site, number, needs, deeds⟩ = er → postI ns ⟨site, number, needs, deeds⟩ = false ∧ postL ns ⟨site, number, needs, deeds⟩ = []) := by
    intro er h0 h1
    unfold postL postI
    rw [h1]
    exact ⟨by simp [h0], by rw [if_pos h0]⟩
  by_cases he : orI (chkRel ns) (chkN ⟨site, number, needs, deeds⟩) = 0
  case neg =>
    have HE : Hid (postE ns ⟨site, number, needs, deeds⟩ = orI (chkRel ns) (chkN ⟨site, number, needs, deeds⟩)) := by
      show _ = _
      unfold postE orI
      unfold orI at he
      by_cases h1 : chkRel ns = 0
      · rw [if_neg (by simpa using h1), if_pos h1]
        rw [if_pos h1] at he
        rw [if_pos he]
      · rw [if_pos h1, if_neg h1]
    obtain ⟨e1, e2⟩ := HPI.out _ he HE.out
    have he' : (orI (chkRel ns) (chkN ⟨site, number, needs, deeds⟩) != 0) = true := by simpa using he
    have E1 := hidE e1
    have E2 := hidE e2
    generalize orI (chkRel ns) (chkN ⟨site, number, needs, deeds⟩) = er at *
    clear he e1 e2 HPI
    have hb5 : Below w.heap.size w (W4.setCell ⟨w.heap.size + 1 + 1, 0, none⟩ (.slice none 0 0)) := HB4.out.setCell (by simp; omega) _
    have k0 := (HZ.out.set 0 (.slice none 0 0)).is 0 rfl
    have HB5 := hidE hb5
    clear hb5
    go_wp2_with fail
    refine bodyPost_ret (v := .tuple #[.agg #[.slice none 0 0], .bool false, .int .i64 er]) (by simp [results, Try.results4, go_sem, k0]) rfl (by rw [E1.out, E2.out, HE.out]; exact Posted.none HB5.out)
  have hR0 : chkRel ns = 0 := by
    unfold orI at he
    split at he
    · assumption
    · rename_i h; exact absurd he h
  have hN0 : chkN ⟨site, number, needs, deeds⟩ = 0 := by
    unfold orI at he
    rw [if_pos hR0] at he
    exact he
  obtain ⟨B, nm, rfl, hBW, D, hown, hD⟩ := HC4.out hR0
  have hst := chkN_site hN0
  simp only at hst
  have HSR := hidE (small_rel hR0)
  have HSN := hidE (smallN_of hN0)
  have hkey : keyOf Try.prog 3 (.int .i64 site) = some (.int .i64 site) := keyOf_int_mk Try.underlying3 (WalkArith.wf_i64 (by omega))
  have HE : Hid (postE ns ⟨site, number, needs, deeds⟩ = if (cntS site ns : Int) + 1 < number then 4 else if number = (cntS site ns : Int) + 1 ∧ ns.length = 300 then 2 else 0) := by
    show _ = _
    unfold postE
    rw [if_neg (by simpa using hR0), if_neg (by simpa using hN0)]
  have hcl := cntS_le site ns
  have hl3 := HSR.out.1
  have hcq : (cntS site ns : Int) ≤ 300 := by omega
  have hcq0 : 0 ≤ (cntS site ns : Int) := by omega
  have HPJ : Hid (postE ns ⟨site, number, needs, deeds⟩ = 0 → number ≠ (cntS site ns : Int) + 1 → postI ns ⟨site, number, needs, deeds⟩ = false ∧ postL ns ⟨site, number, needs, deeds⟩ = ns) := by
    intro h0 h1
    have h2 : postI ns ⟨site, number, needs, deeds⟩ = false := by unfold postI; simp [h1]
    exact ⟨h2, by unfold postL; rw [h0, h2]; rfl⟩
  have HPK : Hid (postE ns ⟨site, number, needs, deeds⟩ = 0 → number = (cntS site ns : Int) + 1 → postI ns ⟨site, number, needs, deeds⟩ = true ∧ postL ns ⟨site, number, needs, deeds⟩ = ns ++ [⟨site, number, needs, deeds⟩]) := by
    intro h0 h1
    have h2 : postI ns ⟨site, number, needs, deeds⟩ = true := by (unfold postI; rw [decide_eq_true h0]; exact decide_eq_true h1)
    exact ⟨h2, by unfold postL; rw [h0, h2]; rfl⟩
  have y0 := HY.out.is 0 rfl
  have y1 := HY.out.is 1 rfl
  have n0 := HX.out.is 0 rfl
  rw [he]
  clear he hR0 hN0 HC4
  go_upto_region 6 with (at_lookup; refine wpList_lookup_own_int _ rfl _ _ 40 rfl 3 3 .i64 lawK Try.underlying40 Try.underlying3 (zeroK _) B nm _ rfl hown _ _ rfl hkey ?_; intro cc hat hwc; obtain rfl : (cntS site ns : Int) = cc := by (have h9 := (hD site).symm.trans hat; simpa using h9))
  clear hat hwc hD hown hkey hcl
  generalize (cntS site ns : Int) = ct at *
  have hnw : wrap64 (ct + 1) = ct + 1 := by
    unfold wrap64
    omega
  have HFN := hidE (frNotes_ok a c ns W4 (H0.out.below HB4.out) HSR.out.2 (by omega))
  by_cases b1 : number < ct + 1
  · have HE0 : Hid (postE ns ⟨site, number, needs, deeds⟩ = 0) := by
      show _ = _
      rw [HE.out, if_neg (by omega), if_neg (by omega)]
    obtain ⟨e1, e2⟩ := HPJ.out HE0.out (by omega)
    have E1 := hidE e1
    have E2 := hidE e2
    clear e1 e2
    go_wp2_with (go_at_call 15; refine HFN.out.mono ?_; rintro r w5 ⟨rs, pp, cap, rfl, hm, hr, hb5⟩; have z0' := (HZ.out.thruB hb5).is 0 rfl; have zf' := (HZ.out.thruB hb5).frozen)
    have k0 := ((HZ.out.thruB hb5).set 0 (.slice pp ns.length cap)).is 0 rfl
    refine bodyPost_ret (v := .tuple #[.agg #[.slice pp ns.length cap], .bool false, .int .i64 0]) (by simp [results, Try.results4, go_sem, k0]) rfl ?_
    rw [E1.out, E2.out, HE0.out]
    have hr5 := hr.own.lt
    refine ⟨rs, pp, cap, rfl, hm, ?_, (HB4.out.thru hb5 HB4.out.size).setCell (by simp; omega) _⟩
    have hf := hr.far (NtO.stays (w.heap.size + 1 + 1)) (by omega) (grownBy_set' w5 (w.heap.size + 1 + 1) 0 (.slice pp ns.length cap))
    exact ⟨owns_base hf.own HB4.out.size, fun x hx => NtO.mono (hf.each x hx) HB4.out.size⟩
  have hk0 := (HZ.out.set 0 (.slice none 0 0)).is 0 rfl
  have HB5 := hidE (show Below w.heap.size w (W4.setCell ⟨w.heap.size + 1 + 1, 0, none⟩ (.slice none 0 0)) from HB4.out.setCell (by simp; omega) _)
  by_cases b2 : number > ct + 1
  · have HE4 : Hid (postE ns ⟨site, number, needs, deeds⟩ = 4) := by
      show _ = _
      rw [HE.out, if_pos (by omega)]
    obtain ⟨e1, e2⟩ := HPI.out 4 (by decide) HE4.out
    have E1 := hidE e1
    have E2 := hidE e2
    clear e1 e2
    go_wp2_with fail
    refine bodyPost_ret (v := .tuple #[.agg #[.slice none 0 0], .bool false, .int .i64 4]) (by simp [results, Try.results4, go_sem, hk0]) rfl ?_
    rw [E1.out, E2.out, HE4.out]
    exact Posted.none HB5.out
  by_cases b3 : ns.length = 300
  · have HE2 : Hid (postE ns ⟨site, number, needs, deeds⟩ = 2) := by
      show _ = _
      rw [HE.out, if_neg (by omega), if_pos ⟨by omega, b3⟩]
    obtain ⟨e1, e2⟩ := HPI.out 2 (by decide) HE2.out
    have E1 := hidE e1
    have E2 := hidE e2
    clear e1 e2
    have b4 : ((ns.length : Int) == 300) = true := by rw [b3]; rfl
    clear b3
    go_wp2_with fail
    refine bodyPost_ret (v := .tuple #[.agg #[.slice none 0 0], .bool false, .int .i64 2]) (by simp [results, Try.results4, go_sem, hk0]) rfl ?_
    rw [E1.out, E2.out, HE2.out]
    exact Posted.none HB5.out
  have HE0 : Hid (postE ns ⟨site, number, needs, deeds⟩ = 0) := by
    show _ = _
    rw [HE.out, if_neg (by omega), if_neg (by omega)]
  have hct : number = ct + 1 := by omega
  obtain ⟨e1, e2⟩ := HPK.out HE0.out hct
  have E1 := hidE e1
  have E2 := hidE e2
  have b4 : ((ns.length : Int) == 300) = false := by simpa using (by omega : ¬ (ns.length : Int) = 300)
  have hl4 : ns.length < 300 := by omega
  clear e1 e2 b3 HPI HPJ HPK
  subst hct
  go_upto_region 12 with fail
  obtain ⟨i0, hi0, hz0, hz1, hz2⟩ := infoCN
  have hBd := HB4.out.drew
  have hdd : Below W4.heap.size W4 W4.drew := (Below.refl _ _).drew
  have HFN' := hidE (frNotes_ok a c ns W4.drew (H0.out.below hBd) HSR.out.2 (by omega))
  have HFT := hidE (fun w5 (hb : Below w.heap.size w w5) => frNote_ok ⟨site, ct + 1, needs, deeds⟩ p q cp cq w5 (HNT.out.below hb) HSN.out)
  unfold ntV at HFT
  have hYd := HY.out.drew
  have hZd := HZ.out.drew
  have n0d := HX.out.drew.is 0 rfl
  have y0d := hYd.is 0 rfl
  have y1d := hYd.is 1 rfl
  have y2d := hYd.is 2 rfl
  have y3d := hYd.is 3 rfl
  have HZd := hidE hZd
  have HYd := hidE hYd
  have HBd := hidE hBd
  have hd4 : W4.drew.heap.size = W4.heap.size := rfl
  clear HFN hk0 HB5 b1 b2 y0 y1 n0 z0 zf hdd hYd hZd hBd HNT HE
  go_region_law (first
    | (refine step_append_own rfl (.tmp 52) (.tmp 55) 22 rfl W4.heap.size 28 i0 (.agg #[.int .i64 0, .int .i64 0, .slice none 0 0, .slice none 0 0]) 4 64 Try.underlying22 hi0 hz0 hz1 hz2 rfl (by decide) (.slice pp ns.length cap) ns.length (rs.flatMap RN.cells) (by simp [Act.eval]) (hO6.alloc _) ⟨w6.heap.size, 0, none⟩ 1 1 (RN.cells ⟨⟨site, ct + 1, needs, deeds⟩, p2, q2, cp2, cq2⟩) (by simp [Act.eval]) rfl (by intro j u hj; rw [Addr.add_lit, Nat.zero_add, World.cell?_alloc_new]; simpa [RN.cells] using hj) (fun u hu => rn_one [⟨⟨site, ct + 1, needs, deeds⟩, p2, q2, cp2, cq2⟩] u (by simpa using hu)) (by unfold maxLen; omega) (by omega) (by have := hb6.size; have := hb5.size; simp; omega) ?_; intro v' w7 hown7 hgrow; obtain ⟨p', c', rfl⟩ := owns_sl hown7; have hZ7 := (hZ6.alloc (Obj.cells #[.int .i64 site, .int .i64 (ct + 1), .slice p2 needs.length cp2, .slice q2 deeds.length cq2] 28)).grown hgrow (own_apart hr6.own (by omega)).symm; have z70 := hZ7.is 0 rfl; have z7f := hZ7.frozen)
    | (go_simp; go_at_call 15; refine HFN'.out.mono ?_; rintro r w5 ⟨rs, pp, cap, rfl, hm, hr, hb5⟩; have hY5 := HYd.out.thruB hb5; have hZ5 := HZd.out.thruB hb5; have y05 := hY5.is 0 rfl; have y15 := hY5.is 1 rfl; have y25 := hY5.is 2 rfl; have y35 := hY5.is 3 rfl; have hB5 := HBd.out.thru hb5 HBd.out.size)
    | (go_simp; go_at_call 16; refine (HFT.out _ hB5).mono ?_; rintro r w6 ⟨p2, q2, cp2, cq2, rfl, ho, hb6⟩; unfold ntV; have hZ6 := hZ5.thruB hb6; have hr6 : RowOwn 28 4 RN.cells NtO w6 W4.heap.size (.slice pp ns.length cap) rs := hr.far (NtO.stays 0) (by omega) (grownBy_none hb6); have hO6 := hr6.own; rw [show rs.length = ns.length by rw [← hm, List.length_map]] at hO6))
  all_goals
    have hrl : rs.length = ns.length := by rw [← hm, List.length_map]
    have hkk := (hZ7.set 0 (.slice p' (ns.length + 1) c')).is 0 rfl
    go_wp2_with fail
    refine bodyPost_ret (v := .tuple #[.agg #[.slice p' (ns.length + 1) c'], .bool true, .int .i64 0]) (by simp [results, Try.results4, go_sem, hkk]) rfl ?_
    rw [E1.out, E2.out, HE0.out]
    have hAl := alloc_below w6 (Obj.cells #[.int .i64 site, .int .i64 (ct + 1), .slice p2 needs.length cp2, .slice q2 deeds.length cq2] 28)
    have hrA := hr6.far (NtO.stays 0) (by omega) (grownBy_none hAl)
    have hy : NtO w6 W4.heap.size ⟨⟨site, ct + 1, needs, deeds⟩, p2, q2, cp2, cq2⟩ := NtO.mono (show NtO w6 w5.heap.size _ from ho) (by have := hb5.size; omega)
    have hyA := (NtO.stays 0).far _ _ _ _ hy (by omega) (grownBy_none hAl)
    have hS := hrA.snoc (NtO.stays 0) hyA (by rw [hrl]; exact hown7) hgrow
    have hF := hS.far (NtO.stays (w.heap.size + 1 + 1)) (by omega) (grownBy_set' w7 (w.heap.size + 1 + 1) 0 (.slice p' (ns.length + 1) c'))
    have hb6' := hB5.thru hb6 hB5.size
    have hb7 := (hb6'.thru hAl hb6'.size).grown hgrow (by have := hAl.size; have := hb6'.size; omega) (fun k hk => by have := (hO6.lt k hk).1; have := HB4.out.size; omega)
    have hln : (ns ++ [(⟨site, ct + 1, needs, deeds⟩ : Nt)]).length = ns.length + 1 := by simp
    refine ⟨rs ++ [⟨⟨site, ct + 1, needs, deeds⟩, p2, q2, cp2, cq2⟩], p', c', by rw [hln], by rw [List.map_append, hm]; rfl, ?_, hb7.setCell (by simp; omega) _⟩
    rw [hln]
    exact ⟨owns_base hF.own HB4.out.size, fun x hx => NtO.mono (hF.each x hx) HB4.out.size⟩

end Go.Proofs.Ytnhjebdlcbhkcaf
