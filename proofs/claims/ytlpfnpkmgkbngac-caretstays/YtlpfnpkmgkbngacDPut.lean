/- The atoms of a run: they rise, they are one run, and cut in two they are those of both. No Go text is walked here. -/
import Derived.Test.YtlpfnpkmgkbngacRunPu
import Derived.Test.YtlpfnpkmgkbngacJoin
import Derived.Test.YtlpfnpkmgkbngacDelF
import Derived.Test.YtlpfnpkmgkbngacRunAt
namespace Go.Proofs.Ytlpfnpkmgkbngac

theorem bump_snoc {l : List (Int × Int)} (h : 0 < l.length) (n : Int) : bump l n = l.dropLast ++ [((lastS l).1 + n, (lastS l).2)] := by
  have e : l = l.dropLast ++ [lastS l] := by
    have h1 : l ≠ [] := by intro e; rw [e] at h; simp at h
    conv => lhs; rw [← List.dropLast_concat_getLast h1]
    congr 2
    rw [lastS_eq h, List.getLast_eq_getElem]
  have key : ∀ s, setL l s = l.dropLast ++ [s] := by
    intro s
    unfold setL
    conv => lhs; rw [e]
    rw [show (l.dropLast ++ [lastS l]).length - 1 = l.dropLast.length by simp, List.set_append_right _ _ (Nat.le_refl _)]
    simp
  exact key _

theorem ordM_bump {l : List (Int × Int)} (h : 0 < l.length) (c : Int) {i j : Int} (hij : i < j) : ordM (bump l i) (c + i) (bump l j) (c + j) < 0 := by
  have : ordP (bump l i) (bump l j) = -1 := by
    rw [bump_snoc h, bump_snoc h, ordP_same]
    exact ordP_one _ _ (ordS_of (Or.inl (by simp only; omega)))
  have := ordM_of (c := c + i) (d := c + j) this
  omega

theorem atomsR_len (l : List (Int × Int)) (c : Int) (t : ByteArray) : (atomsR l c t).length = t.size := by simp [atomsR]
theorem atomsR_get {l : List (Int × Int)} {c : Int} {t : ByteArray} {i : Nat} (h : i < t.size) : (atomsR l c t)[i]'(by rw [atomsR_len]; exact h) = ⟨bump l i, c + i, t[i].toNat⟩ := by
  have e : (atomsR l c t)[i]'(by rw [atomsR_len]; exact h) = runAt l c t i := by simp [atomsR]
  rw [e]
  unfold runAt
  rw [List.getD_eq_getElem?_getD, List.getElem?_eq_getElem (by simpa using h)]; rfl

theorem allS_get {t : ByteArray} (h : allS t.data.toList = true) {i : Nat} (hi : i < t.size) : isSignB (t[i].toNat : Int) = true := by
  unfold allS at h
  rw [List.all_eq_true] at h
  exact h t[i] (by
    have : t[i] = t.data.toList[i]'(by simpa using hi) := rfl
    rw [this]; exact List.getElem_mem _)

theorem atomsR_ok {l : List (Int × Int)} {c : Int} {t : ByteArray} (ok : OkRun l c t) : OkL (atomsR l c t) := by
  refine ⟨by rw [atomsR_len]; have := ok.len; omega, fun x hx => ?_, ?_⟩
  · obtain ⟨i, hi, rfl⟩ := List.getElem_of_mem hx
    rw [atomsR_len] at hi
    rw [atomsR_get hi]
    exact ⟨ok.each i hi, allS_get ok.signs hi⟩
  · rw [List.pairwise_iff_getElem]
    intro i j hi hj hij
    rw [atomsR_len] at hi hj
    rw [atomsR_get hi, atomsR_get hj]
    exact ordM_bump (chk_ok ok.mark).1 c (by omega)

theorem atomsR_flw {l : List (Int × Int)} {c : Int} {t : ByteArray} (hl : 0 < l.length) {k : Nat} (h : k + 1 < t.size) : flwAt (atomsR l c t) k = true := by
  unfold flwAt
  rw [List.getElem?_eq_getElem (by rw [atomsR_len]; omega), List.getElem?_eq_getElem (by rw [atomsR_len]; omega), atomsR_get (by omega), atomsR_get h]
  simp only [flw, beq_iff_eq]
  rw [bump_bump hl]
  have e : ((k + 1 : Nat) : Int) = (k : Int) + 1 := by omega
  rw [e, Int.add_assoc]
  exact cmpM.refl (_, _)

theorem atomsR_txt (l : List (Int × Int)) (c : Int) (t : ByteArray) : txtS (atomsR l c t) = t := by
  apply ByteArray.ext
  apply Array.ext'
  unfold txtS
  rw [strOfNums_data]
  refine List.ext_getElem (by simp [atomsR]) (fun i h1 h2 => ?_)
  have hi : i < t.size := by simpa [atomsR] using h1
  simp only [List.getElem_map]
  rw [atomsR_get hi]
  show UInt8.ofNat ((t[i].toNat : Int)).toNat = _
  rw [Int.toNat_natCast, UInt8.ofNat_toNat]
  rfl

/-- the atoms of a run are one run -/
theorem atomsR_one {l : List (Int × Int)} {c : Int} {t : ByteArray} (ok : OkRun l c t) : runsL (atomsR l c t) = [⟨l, c, t⟩] := by
  have hl := (chk_ok ok.mark).1
  have h0 := ok.len0
  have h60 := ok.len
  have key : ∀ k, k < t.size → pst (atomsR l c t) k = ([], 0) := by
    intro k
    induction k with
    | zero => intro _; rfl
    | succ k ih =>
      intro hk
      have h1 := ih (by omega)
      rw [pst, h1, if_pos]
      rw [goesB_iff, atomsR_len]
      exact ⟨hk, by omega, atomsR_flw hl hk⟩
  have hend : pst (atomsR l c t) t.size = ([(0, t.size)], t.size) := by
    obtain ⟨k, hk⟩ : ∃ k, t.size = k + 1 := ⟨t.size - 1, by omega⟩
    have h1 := key k (by omega)
    rw [hk, pst, h1, if_neg]
    · rfl
    · rw [goesB_iff, atomsR_len]; omega
  unfold runsL
  rw [atomsR_len, hend]
  simp only [List.map_cons, List.map_nil]
  rw [runOf_eq (by rw [atomsR_len]; exact h0), atomsR_get h0]
  have e : part (atomsR l c t) 0 (t.size - 0) = atomsR l c t := by
    unfold part
    rw [List.drop_zero, List.take_of_length_le (by rw [atomsR_len]; omega)]
  simp only [e, atomsR_txt]
  congr 2
  · exact bump_zero hl
  · simp

theorem extract_size (t : ByteArray) (a b : Nat) (h : b ≤ t.size) : (t.extract a b).size = b - a := by
  rw [ByteArray.size_extract]; omega

/-- a run cut in two has the atoms of both -/
theorem atomsR_cut {l : List (Int × Int)} {c : Int} {t : ByteArray} (hl : 0 < l.length) {k : Nat} (hk : k ≤ t.size) : atomsR l c (t.extract 0 k) ++ atomsR (bump l k) (c + k) (t.extract k t.size) = atomsR l c t := by
  have s1 := extract_size t 0 k hk
  have s2 := extract_size t k t.size (Nat.le_refl _)
  refine List.ext_getElem (by simp only [List.length_append, atomsR_len, s1, s2]; omega) (fun i h1 h2 => ?_)
  rw [atomsR_len] at h2
  rw [atomsR_get h2]
  by_cases e : i < k
  · rw [List.getElem_append_left (by rw [atomsR_len, s1]; omega), atomsR_get (by rw [s1]; omega)]
    congr 2
    simp [ByteArray.getElem_extract]
  · rw [List.getElem_append_right (by rw [atomsR_len, s1]; omega)]
    simp only [atomsR_len, s1, Nat.sub_zero]
    rw [atomsR_get (by rw [s2]; omega), bump_bump hl]
    congr 1
    · congr 1; omega
    · omega
    · congr 2
      simp only [ByteArray.getElem_extract]
      congr 1; omega
end Go.Proofs.Ytlpfnpkmgkbngac

namespace Go.Proofs.Ytlpfnpkmgkbngac
open Go.RowKit

theorem keepG_ok {g : List Mk} {l : List At} (h : OkL l) : OkL (keepG g l) := by
  refine ⟨?_, fun x hx => h.each x (List.mem_filter.1 hx).1, h.rise.filter _⟩
  have := List.length_filter_le (fun x => !goneA g x) l
  unfold keepG
  have := h.len
  omega

theorem put_isP (a a' : Option Addr) (cap cap' : Nat) (l m : List At) (w : World) (h : AtomsAt w a l) (h' : AtomsAt w a' m) (h0 : chkL l = 0) (h0' : chkL m = 0) (hn : (putL l m).length ≤ 300) :
    Calls Try.prog 100 #[.slice a l.length cap, .slice a' m.length cap'] w fun e w' => ∃ p c, e = .returned (.tuple #[.slice p (putL l m).length c, .int .i64 0]) ∧ PickRow w' w.heap.size (.slice p (putL l m).length c) (putL l m) ∧ Below w.heap.size w w' := by
  refine (put_ok a a' cap cap' l m w h h' h0 h0').mono ?_
  rintro e w' ⟨hc, hb⟩
  rcases hc with ⟨h1, _⟩ | ⟨_, p, c, he, _, hp⟩
  · omega
  · exact ⟨p, c, he, hp, hb⟩

/-- the atoms are put anew -/
theorem DoerAt.set0 {w : World} {base D : Nat} {vA vG u : Value} {l m : List At} {g : List Mk} (h : DoerAt w base D vA vG l g) (hm : PickRow w base u m) : DoerAt (w.setCell ⟨D, 0, none⟩ u) base D u vG m g := by
  obtain ⟨⟨cur, h1⟩, h2, h3, h4, h5, h6, h7, h8⟩ := h
  refine ⟨?_, World.cell?_setCell_same _ _ _ h2, ?_, fun o => by rw [World.frozen?_setCell]; exact h4 o, by simpa [World.setCell] using h5, h6, hm.setD ⟨cur, h1⟩, h8.setD ⟨cur, h1⟩⟩
  · refine ⟨cur.setIfInBounds 0 u, ?_⟩
    simp [World.setCell, Array.getElem?_modify, h1]
  · rw [World.cell?_setCell_other _ _ _ _ (by simp)]; exact h3

set_option maxRecDepth 100000 in
set_option maxHeartbeats 8000000 in
theorem doerPut_ok (base D : Nat) (vA vG : Value) (l : List At) (g : List Mk) (p : Option Addr) (cap : Nat) (rp : List (Int × Int)) (rc : Int) (rt : ByteArray) (w : World) (hd : DoerAt w base D vA vG l g) (hl : chkL l = 0) (hu : Up g) (hg : g.length ≤ 1000) (hs : StepsAt w p rp) (hr : chkRun rp rc rt = 0) :
    Calls Try.prog 101 #[.pointer (some ⟨D, 0, none⟩), .agg #[.slice p rp.length cap, .int .i64 rc, .string rt]] w fun e w' => Below base w w' ∧ ((300 < (putL l (keepG g (atomsR rp rc rt))).length ∧ e = .returned (.int .i64 2)) ∨ ((putL l (keepG g (atomsR rp rc rt))).length ≤ 300 ∧ e = .returned (.int .i64 0) ∧ ∃ vA', DoerAt w' base D vA' vG (putL l (keepG g (atomsR rp rc rt))) g)) := by
  have HRU := hidE (okRun_of hr)
  have HAO := hidE (atomsR_ok (okRun_of hr))
  have HU := hidE hu
  have HR := hidE hr
  clear hu hr
  have hB := ((Below.refl w.heap.size w).alloc (Nat.le_refl _) (Obj.cells #[.pointer (some ⟨D, 0, none⟩)] 97)).alloc (by simp) (Obj.cells #[.slice p rp.length cap, .int .i64 rc, .string rt] 63)
  have b0 : ((w.alloc (Obj.cells #[.pointer (some ⟨D, 0, none⟩)] 97)).alloc (Obj.cells #[.slice p rp.length cap, .int .i64 rc, .string rt] 63)).cell? ⟨w.heap.size, 0, none⟩ = some (.pointer (some ⟨D, 0, none⟩)) := by simp
  have z : w.heap.size < ((w.alloc (Obj.cells #[.pointer (some ⟨D, 0, none⟩)] 97)).alloc (Obj.cells #[.slice p rp.length cap, .int .i64 rc, .string rt] 63)).heap.size := by simp; omega
  have hDZ : D < w.heap.size := hd.lt
  have hBb := hB.mono (show base ≤ w.heap.size from Nat.le_trans hd.le (Nat.le_of_lt hd.lt))
  have hbs : base ≤ ((w.alloc (Obj.cells #[.pointer (some ⟨D, 0, none⟩)] 97)).alloc (Obj.cells #[.slice p rp.length cap, .int .i64 rc, .string rt] 63)).heap.size := Nat.le_trans (Nat.le_trans hd.le (Nat.le_of_lt hd.lt)) hB.size
  replace hd := hd.below hB
  replace hs := hs.below hB (Nat.le_refl _)
  go_enter Try.func101, Try.ntmps101
  go_wp2_with fail
  generalize (w.alloc (Obj.cells #[.pointer (some ⟨D, 0, none⟩)] 97)).alloc (Obj.cells #[.slice p rp.length cap, .int .i64 rc, .string rt] 63) = W at hB hBb hbs b0 z hd hs ⊢
  generalize w.heap.size = Z at b0 z hDZ ⊢
  clear hB
  refine (runAtoms_ok _ _ rp rc rt _ hs HR.out).mono ?_
  rintro e w1 ⟨pA, kA, rfl, hatA, ⟨rs, hrl, hown, hrr⟩, hb⟩
  have hal : (atomsR rp rc rt).length = rt.size := atomsR_len rp rc rt
  have ht0 := HRU.out.len0
  have ht60 := HRU.out.len
  obtain ⟨blk, kk, hvv⟩ := owns_form hown (by omega)
  obtain ⟨rfl, rfl⟩ : pA = some ⟨blk, 0, none⟩ ∧ kA = kk := by simpa using hvv
  clear hvv hatA
  have hcm : (atomsR rp rc rt).length ≤ kA ∧ kA ≤ maxLen := by
    rcases hown.2 with ⟨h, _⟩ | ⟨g1, c1, cur, h, _, _, h1, h2, _⟩
    · simp at h
    · simp at h; rw [h.2]; exact ⟨h1, h2⟩
  have hblk : W.heap.size ≤ blk ∧ blk < w1.heap.size := hown.lt blk rfl
  have hrow : RowAt w1 blk rs := by
    refine ⟨hblk.2, fun j u hj => ⟨?_, hown.frozenAt j⟩⟩
    have := hown.cells (g := blk) rfl j u hj
    rw [Addr.add_lit, Nat.zero_add] at this
    exact this
  have hty : ∀ gp cur, w1.heap[gp]? = some (.cells cur 92 (0, 0)) → gp ≠ blk := by
    intro gp cur hgp e
    subst e
    rcases hown.2 with ⟨h, _⟩ | ⟨g1, c1, cur1, h, _, h2, _⟩
    · simp at h
    · simp at h
      rw [← h.1, hgp] at h2
      simp at h2
  obtain ⟨vg, cg, rfl, hM, _, _⟩ := hd.gone.marks
  have hGo : GoneAt W Z D g := ⟨z, b0, hd.lt, vg, cg, hd.c1, hM⟩
  have HDEL := hidE (deleteG_ok W w1 blk kA Z D rs (atomsR rp rc rt) g hb hblk.1 hrl (by omega) hcm.1 hcm.2 hrr hrow hty hGo hg HU.out)
  clear hrow hty hown hrr hal hcm ht0 ht60 hrl
  go_wp2_with fail
  refine HDEL.out.mono ?_
  rintro e w2 ⟨c2, rfl, hat2, _, _, hb2⟩
  clear HDEL hGo hM
  have HCO := hidE (okL_chk (keepG_ok (g := g) HAO.out))
  have hBb2 := hBb.thru hb2 hbs
  have hd2 := hd.below hb2
  have b02 := (hb2.cell (p := ⟨Z, 0, none⟩) z).trans b0
  have z2 := Nat.lt_of_lt_of_le z hb2.size
  have hbs2 := Nat.le_trans hbs hb2.size
  generalize hcm' : keepG g (atomsR rp rc rt) = cm at hat2 HCO ⊢
  have HCM := hidE hcm'
  clear hcm'
  clear hb2 hd b0 z hbs hBb hb hs hblk
  obtain ⟨va, ca, hva, hat, _⟩ := hd2.atoms.owns.atoms (Below.refl _ _)
  subst hva
  have d0 := hd2.c0
  have df := hd2.free
  have hdl := hd2.lt
  have hBd : Below w2.heap.size w2 w2.drew := (Below.refl _ _).drew
  have HD := hidE hd2
  clear hd2
  by_cases hn : 300 < (putL l cm).length
  · have HP := hidE (fun (W : World) (hb : Below w2.heap.size w2 W) => put_many va (some ⟨blk, 0, none⟩) ca c2 l cm W (hat.below hb (Nat.le_refl _)) (hat2.below hb (Nat.le_refl _)) hl HCO.out hn)
    go_upto_region 4 with fail
    go_region_with ((go_at_call 100; refine (HP.out _ (by first | exact Below.refl _ _ | exact hBd)).mono ?_; rintro e w3 ⟨rfl, hb3⟩; have hb3' : Below w2.heap.size w2 w3 := hBd.thru hb3 (Nat.le_refl _); have t0 := (hb3'.cell (p := ⟨Z, 0, none⟩) z2).trans b02; have t1 := (hb3'.cell (p := ⟨D, 0, none⟩) hdl).trans d0; have t2 := fun o => (hb3'.frozen (p := ⟨D, o, none⟩) hdl).trans (df o)))
    all_goals
      go_wp2_with fail
      go_ret
      rw [HCM.out]
      exact ⟨(hBb2.thru hb3' hbs2).setCell HD.out.le _, Or.inl ⟨hn, rfl⟩⟩
  · have HP := hidE (fun (W : World) (hb : Below w2.heap.size w2 W) => put_isP va (some ⟨blk, 0, none⟩) ca c2 l cm W (hat.below hb (Nat.le_refl _)) (hat2.below hb (Nat.le_refl _)) hl HCO.out (by omega))
    go_upto_region 4 with fail
    go_region_with ((go_at_call 100; refine (HP.out _ (by first | exact Below.refl _ _ | exact hBd)).mono ?_; rintro e w3 ⟨p3, c3, rfl, hpk, hb3⟩; have hb3' : Below w2.heap.size w2 w3 := hBd.thru hb3 (Nat.le_refl _); have t0 := (hb3'.cell (p := ⟨Z, 0, none⟩) z2).trans b02; have t1 := (hb3'.cell (p := ⟨D, 0, none⟩) hdl).trans d0; have t2 := fun o => (hb3'.frozen (p := ⟨D, o, none⟩) hdl).trans (df o)))
    all_goals
      go_wp2_with fail
      go_ret
      rw [HCM.out]
      exact ⟨(hBb2.thru hb3' hbs2).setCell HD.out.le _, Or.inr ⟨by omega, rfl, _, (HD.out.below hb3').set0 (hpk.mono hbs2)⟩⟩
end Go.Proofs.Ytlpfnpkmgkbngac
