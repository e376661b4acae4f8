/- Contract of the reference's EncodeOf. -/
import Derived.Test.YtnhjebdlcbhkcadMarkBR
import Derived.Deep.RegionHeld3
namespace Go.Proofs.Ytnhjebdlcbhkcad
open Go.RowKit

theorem Blk.thru {w w' : World} {R : Nat} {cs : Array Value} {t : TypeId} (h : Blk w R cs t) (hb : Below w.heap.size w w') : Blk w' R cs t := h.below hb h.lt
theorem below_thru {a w w' : World} (h : Below a.heap.size a w) (k : Below w.heap.size w w') : Below a.heap.size a w' := h.trans (k.mono h.size)
theorem Blk.new' (w : World) (cs : Array Value) (t : TypeId) (n : Nat) (h : n = w.heap.size) : Blk (w.alloc (.cells cs t)) n cs t := by subst h; exact Blk.new w cs t
theorem Below.al {a w : World} (h : Below a.heap.size a w) (o : Obj) : Below a.heap.size a (w.alloc o) := h.alloc h.size o
theorem bytesOf_blk (B : Nat) (x : Int) (w : World) (h : Blk w B #[.int .i64 x] 3) (h0 : 0 ≤ x) (h1 : x ≤ 255) :
    Calls Try.prog 58 #[.slice (some ⟨B, 0, none⟩) 1 1] w fun e w' => e = .returned (.string (strOfNums [x])) ∧ Below w.heap.size w w' := by
  refine bytesOf_any _ 1 [x] _ (Or.inr ⟨B, 0, rfl, h.lt, fun i hi => ?_⟩) (by simp) (fun y hy => by rw [List.mem_singleton.1 hy]; exact ⟨h0, h1⟩)
  have hi0 : i = 0 := by simp at hi; omega
  subst hi0
  exact h.is 0 rfl

theorem enc_head (n : Nt) : encN n = (n.site :: e2 n.number) ++ eNeeds n.needs ++ ((n.deeds.length : Int) :: eDeeds n.deeds) := rfl
theorem eDeeds_room {l : List Dd} {k : Nat} (h : ∀ d ∈ l, RoomD d) (hk : l.length ≤ 255) : (eDeeds (l.take k)).length ≤ 255000 := by
  have e1 := eDeeds_len (l := l.take k) fun d hd => h d (List.mem_of_mem_take hd)
  rw [List.length_take] at e1
  omega
theorem txt_back (t : ByteArray) : strOfNums (txtN t) = t := by
  unfold txtN
  rw [strOf_bytes]
theorem enc_put {d : Dd} (h : d.kind = 1) (t : ByteArray) : t ++ (((strOfNums [1] ++ strOfNums (encM d.rp d.rc)) ++ strOfNums [(d.rt.size : Int)]) ++ d.rt) = t ++ strOfNums (encD d) := by
  congr 1
  conv => lhs; rw [← txt_back d.rt]
  rw [str_append, str_append, str_append]
  unfold encD
  rw [if_pos h, h, txt_back]
  simp
theorem enc_take {d : Dd} (h : d.kind = 2) (t : ByteArray) : t ++ ((strOfNums [2] ++ strOfNums (encM d.mp d.mc)) ++ strOfNums [d.many]) = t ++ strOfNums (encD d) := by
  congr 1
  rw [str_append, str_append]
  unfold encD
  rw [if_neg (by omega), h]
  simp
theorem sz1 (x : Int) : (strOfNums [x]).size = 1 := by rw [strOfNums_size]; rfl

set_option maxRecDepth 100000 in
set_option maxHeartbeats 8000000 in
theorem encodeOf_any (n : Nt) (p q : Option Addr) (cp cq : Nat) (w : World) (h : NtAt w n p q) (hr : RoomN n) :
    Calls Try.prog 24 #[ntV n p q cp cq] w fun e w' => e = .returned (.string (strOfNums (encN n))) ∧ Below w.heap.size w w' := by
  have HFIN : Hid (strOfNums (encN n) = strOfNums (((n.site :: e2 n.number) ++ eNeeds n.needs) ++ [(n.deeds.length : Int)] ++ eDeeds n.deeds)) := by
    show _ = _
    rw [enc_head]; simp
  generalize hEN : strOfNums (encN n) = EN at *
  clear hEN
  obtain ⟨site, number, needs, deeds⟩ := n
  obtain ⟨h1, h2, h3, h4⟩ := h
  obtain ⟨r1, r2, r3, r4, r5, r6, r7, r8⟩ := hr
  unfold ntV
  simp only at h1 h2 h3 h4 r1 r2 r3 r4 r5 r6 r7 r8 HFIN ⊢
  have hle5 : needs.length ≤ 1000 := by omega
  clear r5
  have hA := alloc_below w (Obj.cells #[.int .i64 site, .int .i64 number, .slice p needs.length cp, .slice q deeds.length cq] 53)
  have hX := Blk.new w #[.int .i64 site, .int .i64 number, .slice p needs.length cp, .slice q deeds.length cq] 53
  go_enter Try.func24, Try.ntmps24
  go_upto_region 1 with fail
  generalize w.alloc (Obj.cells #[.int .i64 site, .int .i64 number, .slice p needs.length cp, .slice q deeds.length cq] 53) = W at *
  have HX := hidE hX
  have HA := hidE hA
  have hlt := hX.lt
  clear hX hA
  have hb : Below W.heap.size W W.drew := (Below.refl _ _).drew
  have x0 := (HX.out.thru hb).is 0 rfl
  have x1 := (HX.out.thru hb).is 1 rfl
  have H2 := hidE (fun w1 => twoBytes_any number w1 r3 r4)
  have sA := sz1 site
  have sB : (strOfNums (e2 number)).size = 2 := by rw [strOfNums_size]; rfl
  go_region_held3 (fun w' => w'.cell? ⟨w.heap.size, 0, none⟩ = some (.int .i64 site) ∧ w'.cell? ⟨w.heap.size, 1, none⟩ = some (.int .i64 number))
    (first | exact ⟨x0, x1⟩ | exact ⟨(HX.out.thru hb).is 0 rfl, (HX.out.thru hb).is 1 rfl⟩ | exact ⟨((HX.out.thru hb).alloc _).is 0 rfl, ((HX.out.thru hb).alloc _).is 1 rfl⟩)
    ((first
    | (go_at_call 58; refine (bytesOf_blk _ site _ (by first | exact Blk.new _ _ _ | exact (Blk.new _ _ _).alloc _) r1 r2).mono ?_; rintro e w5 ⟨rfl, hb5⟩; replace hb := below_thru (by first | exact hb | exact hb.alloc hb.size _) hb5)
    | (go_at_call 59; refine (H2.out _).mono ?_; rintro e w6 ⟨rfl, hb6⟩; replace hb := below_thru (by first | exact hb | exact hb.alloc hb.size _) hb6)))
  have hX6 := HX.out.thru hb
  have HB6 := hidE (below_thru HA.out hb)
  have HX6 := hidE hX6
  have HT : Hid (strOfNums [site] ++ strOfNums (e2 number) = strOfNums (site :: e2 number)) := hidE (str_append [site] (e2 number))
  clear hb hb5 hb6 hX6 x0 x1 HX HA H2 sA sB
  rw [HT.out]
  go_wp2_with fail
  go_loopw [3, 4] (fun vs vi wr => ∃ k : Nat, k ≤ needs.length ∧ vi = .int .i64 k ∧ vs = .string (strOfNums ((site :: e2 number) ++ eNeeds (needs.take k))) ∧ Blk wr w.heap.size #[.int .i64 site, .int .i64 number, .slice p needs.length cp, .slice q deeds.length cq] 53 ∧ Below w.heap.size w wr) (fun _ vi _ => needs.length - (intOf vi).toNat)
  case atStart => exact ⟨0, Nat.zero_le _, rfl, by simp [eNeeds], HX6.out, HB6.out⟩
  case round =>
    clear HX6 HB6 HT
    obtain ⟨k, hk, rfl, rfl, hX, hb⟩ := hrel
    have x0 := hX.is 2 rfl
    have hlen : (strOfNums ((site :: e2 number) ++ eNeeds (needs.take k))).size ≤ 3000 := by
      have e1 := eNeeds_len (needs.take k)
      rw [List.length_take] at e1
      rw [strOfNums_size, List.length_append, e1]
      simp only [List.length_cons, e2, List.length_nil]
      omega
    rcases Nat.lt_or_ge k needs.length with hlk | hge
    · rcases h1.below hb with hz | ⟨ab, ao, rfl, hab, hc⟩
      · simp [hz] at hlk
      have s0 := hc k hlk
      obtain ⟨m1, m2⟩ := r6 needs[k] (List.getElem_mem hlk)
      have hi1 : (k : Int) < (needs.length : Int) := by omega
      have HE : Hid (strOfNums ((site :: e2 number) ++ eNeeds (needs.take (k + 1))) = strOfNums ((site :: e2 number) ++ eNeeds (needs.take k)) ++ strOfNums (e2 needs[k])) := by
        show _ = _
        rw [eNeeds_take hlk, str_append, List.append_assoc]
      clear hc h1
      generalize strOfNums ((site :: e2 number) ++ eNeeds (needs.take k)) = t at *
      generalize needs[k] = x at *
      have H5 := hidE (twoBytes_any x wr m1 m2)
      have hsz2 : (strOfNums (e2 x)).size = 2 := by rw [strOfNums_size]; rfl
      generalize strOfNums (e2 x) = t2 at *
      have HX := hidE hX
      have HB := hidE hb
      clear hX hb
      go_wp2_with (go_at_call 59; refine H5.out.mono ?_; rintro e w7 ⟨rfl, hb⟩)
      have HX7 := hidE (HX.out.thru hb)
      have HB7 := hidE (below_thru HB.out hb)
      clear hb HX HB H5
      go_roundw
      case rel => exact ⟨k + 1, hlk, by go_num, by rw [HE.out], HX7.out, HB7.out⟩
      case measure => simp [intOf]; omega
    · have hkl : k = needs.length := by omega
      subst hkl
      rw [List.take_length] at hlen ⊢
      generalize hP : (site :: e2 number) ++ eNeeds needs = PR at *
      have HT2 : Hid (strOfNums PR ++ strOfNums [(deeds.length : Int)] = strOfNums (PR ++ [(deeds.length : Int)])) := hidE (str_append _ _)
      have hlen2 : (PR ++ [(deeds.length : Int)]).length ≤ 4000 := by
        rw [strOfNums_size] at hlen
        rw [List.length_append]; simp; omega
      have x3 := hX.is 3 rfl
      have H6 := hidE (bytesOf_one wr (deeds.length : Int) (by omega) (by omega))
      have sA := sz1 (deeds.length : Int)
      have hi1 : ¬ ((needs.length : Int) < (needs.length : Int)) := by omega
      have HX := hidE hX
      have HB := hidE hb
      clear hX hb h1 hP
      generalize strOfNums PR = t at *
      go_upto_region 7 with (go_at_call 58; refine H6.out.mono ?_; rintro e w7 ⟨rfl, hb⟩)
      have HX7 := hidE (HX.out.thru hb)
      have HB7 := hidE (below_thru HB.out hb)
      rw [HT2.out]
      generalize PR ++ [(deeds.length : Int)] = PQ at *
      clear hb HX HB H6 x0 x3 sA HT2
      go_wp2_with fail
      go_loopw [3, 5] (fun vs vi wr => ∃ k : Nat, k ≤ deeds.length ∧ vi = .int .i64 k ∧ vs = .string (strOfNums (PQ ++ eDeeds (deeds.take k))) ∧ Blk wr w.heap.size #[.int .i64 site, .int .i64 number, .slice p needs.length cp, .slice q deeds.length cq] 53 ∧ Below w.heap.size w wr) (fun _ vi _ => deeds.length - (intOf vi).toNat)
      case atStart => exact ⟨0, Nat.zero_le _, rfl, by simp [eDeeds], HX7.out, HB7.out⟩
      case round =>
        clear HX7 HB7
        obtain ⟨k, hk, rfl, rfl, hX, hb⟩ := hrel
        have x0 := hX.is 3 rfl
        have hlen3 : (strOfNums (PQ ++ eDeeds (deeds.take k))).size ≤ 260000 := by
          have e1 := eDeeds_room (k := k) r8 r7
          rw [strOfNums_size, List.length_append]
          omega
        rcases Nat.lt_or_ge k deeds.length with hlk | hge
        · rcases h2.below hb with hz | ⟨ab, ao, rfl, hab, hc⟩
          · simp [hz] at hlk
          obtain ⟨dp, dcp, dq, dcq, d0, d1, d2, d3, d4, d5, d6, hD0, _⟩ := hc k hlk
          have hrm := r8 deeds[k] (List.getElem_mem hlk)
          have hi2 : (k : Int) < (deeds.length : Int) := by omega
          have HE : Hid (strOfNums (PQ ++ eDeeds (deeds.take (k + 1))) = strOfNums (PQ ++ eDeeds (deeds.take k)) ++ strOfNums (encD deeds[k])) := by
            show _ = _
            rw [eDeeds_take hlk, str_append, List.append_assoc]
          clear hc h2
          generalize strOfNums (PQ ++ eDeeds (deeds.take k)) = t at *
          generalize deeds[k] = dd at *
          obtain ⟨kind, rp, rc, rt, mp, mc, many⟩ := dd
          simp only at *
          have hal := alloc_below wr (Obj.cells #[.int .i64 kind, .slice dp rp.length dcp, .int .i64 rc, .string rt, .slice dq mp.length dcq, .int .i64 mc, .int .i64 many] 98)
          have hBN := Blk.new wr #[.int .i64 kind, .slice dp rp.length dcp, .int .i64 rc, .string rt, .slice dq mp.length dcq, .int .i64 mc, .int .i64 many] 98
          have HX := hidE (hX.thru hal)
          have HB := hidE (below_thru hb hal)
          have HDD := hidE (hD0.below hal)
          go_upto_region 11 with fail
          generalize wr.alloc (Obj.cells #[.int .i64 kind, .slice dp rp.length dcp, .int .i64 rc, .string rt, .slice dq mp.length dcq, .int .i64 mc, .int .i64 many] 98) = W2 at *
          generalize wr.heap.size = D at *
          clear d0 d1 d2 d3 d4 d5 d6 hD0 hX hb hal x0
          have b0 := hBN.is 0 rfl
          have HD := hidE hBN
          clear hBN
          have hb0 : Below W2.heap.size W2 W2 := Below.refl _ _
          have hb : Below W2.heap.size W2 W2.drew := (Below.refl _ _).drew
          rcases hrm with ⟨e1, e2', e3, e4, e5, e6⟩ | ⟨e1, e2', e3, e4, e5, e6, e7⟩
          · simp only at e1 e2' e3
            subst e1
            obtain ⟨tA, hA⟩ : ∃ u, u = strOfNums [(1 : Int)] := ⟨_, rfl⟩
            obtain ⟨tM, hM⟩ : ∃ u, u = strOfNums (encM rp rc) := ⟨_, rfl⟩
            obtain ⟨tB, hB'⟩ : ∃ u, u = strOfNums [(rt.size : Int)] := ⟨_, rfl⟩
            have sA : tA.size = 1 := by rw [hA]; exact sz1 _
            have sM : tM.size ≤ 600 := by rw [hM, strOfNums_size]; exact encM_len e2'.len
            have sB : tB.size = 1 := by rw [hB']; exact sz1 _
            have HEN := hidE (enc_put (d := ⟨1, rp, rc, rt, mp, mc, many⟩) rfl t)
            have HM := hidE (fun w1 (hb : Below W2.heap.size W2 w1) => markBytes_any dp dcp rp rc w1 (HDD.out.run.below hb (Nat.le_refl _)) e2')
            have HA1 := hidE (fun B w1 (h : Blk w1 B #[.int .i64 1] 3) => bytesOf_blk B 1 w1 h (by decide) (by decide))
            have HB1 := hidE (fun B w1 (h : Blk w1 B #[.int .i64 (rt.size : Int)] 3) => bytesOf_blk B (rt.size : Int) w1 h (by omega) (by omega))
            simp only at HEN
            rw [← hA, ← hM, ← hB'] at HEN
            rw [← hM] at HM
            rw [← hA] at HA1
            rw [← hB'] at HB1
            have q1 : ¬ (9223372036854775807 < tA.size + tM.size) := by omega
            have q2 : ¬ (9223372036854775807 < tA.size + tM.size + tB.size) := by omega
            have q3 : ¬ (9223372036854775807 < tA.size + tM.size + tB.size + rt.size) := by omega
            have q4 : ¬ (9223372036854775807 < t.size + (tA.size + tM.size + tB.size + rt.size)) := by omega
            clear sA sM sB hA hM hB' hlen3 hle5 hi2
            clear e2' e4 e5 e6 HDD
            go_upto_region 12 with fail
            go_region_held3 (fun w' => w'.cell? ⟨D, 1, none⟩ = some (.slice dp rp.length dcp) ∧ w'.cell? ⟨D, 2, none⟩ = some (.int .i64 rc) ∧ w'.cell? ⟨D, 3, none⟩ = some (.string rt))
              (first | exact ⟨(HD.out.thru hb).is 1 rfl, (HD.out.thru hb).is 2 rfl, (HD.out.thru hb).is 3 rfl⟩ | exact ⟨((HD.out.thru hb).alloc _).is 1 rfl, ((HD.out.thru hb).alloc _).is 2 rfl, ((HD.out.thru hb).alloc _).is 3 rfl⟩ | exact ⟨(((HD.out.thru hb).alloc _).alloc _).is 1 rfl, (((HD.out.thru hb).alloc _).alloc _).is 2 rfl, (((HD.out.thru hb).alloc _).alloc _).is 3 rfl⟩ | exact ⟨(HD.out).is 1 rfl, (HD.out).is 2 rfl, (HD.out).is 3 rfl⟩ | exact ⟨(HD.out.alloc _).is 1 rfl, (HD.out.alloc _).is 2 rfl, (HD.out.alloc _).is 3 rfl⟩ | exact ⟨((HD.out.alloc _).alloc _).is 1 rfl, ((HD.out.alloc _).alloc _).is 2 rfl, ((HD.out.alloc _).alloc _).is 3 rfl⟩ | exact ⟨((HD.out.alloc _).drew).is 1 rfl, ((HD.out.alloc _).drew).is 2 rfl, ((HD.out.alloc _).drew).is 3 rfl⟩ | exact ⟨(((HD.out.alloc _).alloc _).drew).is 1 rfl, (((HD.out.alloc _).alloc _).drew).is 2 rfl, (((HD.out.alloc _).alloc _).drew).is 3 rfl⟩ | exact ⟨((HD.out.alloc _).drew.alloc _).is 1 rfl, ((HD.out.alloc _).drew.alloc _).is 2 rfl, ((HD.out.alloc _).drew.alloc _).is 3 rfl⟩)
              ((first
              | (go_at_call 60; refine (HM.out _ (by first | exact hb | exact Below.al hb _ | exact Below.al (Below.al hb _) _ | exact (Below.al hb0 _).drew | exact (Below.al (Below.al hb0 _) _).drew | exact Below.al (Below.al hb0 _).drew _)).mono ?_; rintro e w6 ⟨rfl, hb6⟩; replace hb := below_thru (by first | exact hb | exact Below.al hb _ | exact Below.al (Below.al hb _) _ | exact (Below.al hb0 _).drew | exact (Below.al (Below.al hb0 _) _).drew | exact Below.al (Below.al hb0 _).drew _) hb6)
              | (go_at_call 58; refine (HA1.out _ _ (by first | exact Blk.new' _ _ _ _ (by first | rfl | simp) | exact (Blk.new' _ _ _ _ (by first | rfl | simp)).alloc _ | exact (Blk.new' _ _ _ _ (by first | rfl | simp)).drew | exact ((Blk.new' _ _ _ _ (by first | rfl | simp)).alloc _).drew | exact (Blk.new' _ _ _ _ (by first | rfl | simp)).drew.alloc _)).mono ?_; rintro e w5 ⟨rfl, hb5⟩; replace hb := below_thru (by first | exact hb | exact Below.al hb _ | exact Below.al (Below.al hb _) _ | exact (Below.al hb0 _).drew | exact (Below.al (Below.al hb0 _) _).drew | exact Below.al (Below.al hb0 _).drew _) hb5)
              | (go_at_call 58; refine (HB1.out _ _ (by first | exact Blk.new' _ _ _ _ (by first | rfl | simp) | exact (Blk.new' _ _ _ _ (by first | rfl | simp)).thru hb6 | exact ((Blk.new' _ _ _ _ (by first | rfl | simp)).thru hb5).thru hb6 | exact (((Blk.new' _ _ _ _ (by first | rfl | simp)).alloc _).thru hb5).thru hb6 | exact (((Blk.new' _ _ _ _ (by first | rfl | simp)).drew).thru hb5).thru hb6 | exact ((((Blk.new' _ _ _ _ (by first | rfl | simp)).alloc _).drew).thru hb5).thru hb6 | exact (((Blk.new' _ _ _ _ (by first | rfl | simp)).drew.alloc _).thru hb5).thru hb6)).mono ?_; rintro e w7 ⟨rfl, hb7⟩; replace hb := below_thru (by first | exact hb | exact Below.al hb _ | exact Below.al (Below.al hb _) _ | exact (Below.al hb0 _).drew | exact (Below.al (Below.al hb0 _) _).drew | exact Below.al (Below.al hb0 _).drew _) hb7)))
            all_goals
              have HXF := hidE (HX.out.thru hb)
              have HBF := hidE (below_thru HB.out hb)
              go_wp2_with fail
              go_roundw
              case rel => exact ⟨k + 1, hlk, by go_num, by rw [HE.out, ← HEN.out], HXF.out, HBF.out⟩
              case measure => simp [intOf]; omega
          · simp only at e1 e2' e3 e4
            subst e1
            obtain ⟨tA, hA⟩ : ∃ u, u = strOfNums [(2 : Int)] := ⟨_, rfl⟩
            obtain ⟨tM, hM⟩ : ∃ u, u = strOfNums (encM mp mc) := ⟨_, rfl⟩
            obtain ⟨tB, hB'⟩ : ∃ u, u = strOfNums [many] := ⟨_, rfl⟩
            have sA : tA.size = 1 := by rw [hA]; exact sz1 _
            have sM : tM.size ≤ 600 := by rw [hM, strOfNums_size]; exact encM_len e2'.len
            have sB : tB.size = 1 := by rw [hB']; exact sz1 _
            have HEN := hidE (enc_take (d := ⟨2, rp, rc, rt, mp, mc, many⟩) rfl t)
            have HM := hidE (fun w1 (hb : Below W2.heap.size W2 w1) => markBytes_any dq dcq mp mc w1 (HDD.out.mark.below hb (Nat.le_refl _)) e2')
            have HA1 := hidE (fun B w1 (h : Blk w1 B #[.int .i64 2] 3) => bytesOf_blk B 2 w1 h (by decide) (by decide))
            have HB1 := hidE (fun B w1 (h : Blk w1 B #[.int .i64 many] 3) => bytesOf_blk B many w1 h e3 e4)
            simp only at HEN
            rw [← hA, ← hM, ← hB'] at HEN
            rw [← hM] at HM
            rw [← hA] at HA1
            rw [← hB'] at HB1
            have q1 : ¬ (9223372036854775807 < tA.size + tM.size) := by omega
            have q2 : ¬ (9223372036854775807 < tA.size + tM.size + tB.size) := by omega
            have q4 : ¬ (9223372036854775807 < t.size + (tA.size + tM.size + tB.size)) := by omega
            clear sA sM sB hA hM hB' hlen3 hle5 hi2
            clear e2' e5 e6 e7 HDD
            go_upto_region 13 with fail
            go_region_held3 (fun w' => w'.cell? ⟨D, 4, none⟩ = some (.slice dq mp.length dcq) ∧ w'.cell? ⟨D, 5, none⟩ = some (.int .i64 mc) ∧ w'.cell? ⟨D, 6, none⟩ = some (.int .i64 many))
              (first | exact ⟨(HD.out.thru hb).is 4 rfl, (HD.out.thru hb).is 5 rfl, (HD.out.thru hb).is 6 rfl⟩ | exact ⟨((HD.out.thru hb).alloc _).is 4 rfl, ((HD.out.thru hb).alloc _).is 5 rfl, ((HD.out.thru hb).alloc _).is 6 rfl⟩ | exact ⟨(((HD.out.thru hb).alloc _).alloc _).is 4 rfl, (((HD.out.thru hb).alloc _).alloc _).is 5 rfl, (((HD.out.thru hb).alloc _).alloc _).is 6 rfl⟩ | exact ⟨(HD.out).is 4 rfl, (HD.out).is 5 rfl, (HD.out).is 6 rfl⟩ | exact ⟨(HD.out.alloc _).is 4 rfl, (HD.out.alloc _).is 5 rfl, (HD.out.alloc _).is 6 rfl⟩ | exact ⟨((HD.out.alloc _).alloc _).is 4 rfl, ((HD.out.alloc _).alloc _).is 5 rfl, ((HD.out.alloc _).alloc _).is 6 rfl⟩ | exact ⟨((HD.out.alloc _).drew).is 4 rfl, ((HD.out.alloc _).drew).is 5 rfl, ((HD.out.alloc _).drew).is 6 rfl⟩ | exact ⟨(((HD.out.alloc _).alloc _).drew).is 4 rfl, (((HD.out.alloc _).alloc _).drew).is 5 rfl, (((HD.out.alloc _).alloc _).drew).is 6 rfl⟩ | exact ⟨((HD.out.alloc _).drew.alloc _).is 4 rfl, ((HD.out.alloc _).drew.alloc _).is 5 rfl, ((HD.out.alloc _).drew.alloc _).is 6 rfl⟩)
              ((first
              | (go_at_call 60; refine (HM.out _ (by first | exact hb | exact Below.al hb _ | exact Below.al (Below.al hb _) _ | exact (Below.al hb0 _).drew | exact (Below.al (Below.al hb0 _) _).drew | exact Below.al (Below.al hb0 _).drew _)).mono ?_; rintro e w6 ⟨rfl, hb6⟩; replace hb := below_thru (by first | exact hb | exact Below.al hb _ | exact Below.al (Below.al hb _) _ | exact (Below.al hb0 _).drew | exact (Below.al (Below.al hb0 _) _).drew | exact Below.al (Below.al hb0 _).drew _) hb6)
              | (go_at_call 58; refine (HA1.out _ _ (by first | exact Blk.new' _ _ _ _ (by first | rfl | simp) | exact (Blk.new' _ _ _ _ (by first | rfl | simp)).alloc _ | exact (Blk.new' _ _ _ _ (by first | rfl | simp)).drew | exact ((Blk.new' _ _ _ _ (by first | rfl | simp)).alloc _).drew | exact (Blk.new' _ _ _ _ (by first | rfl | simp)).drew.alloc _)).mono ?_; rintro e w5 ⟨rfl, hb5⟩; replace hb := below_thru (by first | exact hb | exact Below.al hb _ | exact Below.al (Below.al hb _) _ | exact (Below.al hb0 _).drew | exact (Below.al (Below.al hb0 _) _).drew | exact Below.al (Below.al hb0 _).drew _) hb5)
              | (go_at_call 58; refine (HB1.out _ _ (by first | exact Blk.new' _ _ _ _ (by first | rfl | simp) | exact (Blk.new' _ _ _ _ (by first | rfl | simp)).thru hb6 | exact ((Blk.new' _ _ _ _ (by first | rfl | simp)).thru hb5).thru hb6 | exact (((Blk.new' _ _ _ _ (by first | rfl | simp)).alloc _).thru hb5).thru hb6 | exact (((Blk.new' _ _ _ _ (by first | rfl | simp)).drew).thru hb5).thru hb6 | exact ((((Blk.new' _ _ _ _ (by first | rfl | simp)).alloc _).drew).thru hb5).thru hb6 | exact (((Blk.new' _ _ _ _ (by first | rfl | simp)).drew.alloc _).thru hb5).thru hb6)).mono ?_; rintro e w7 ⟨rfl, hb7⟩; replace hb := below_thru (by first | exact hb | exact Below.al hb _ | exact Below.al (Below.al hb _) _ | exact (Below.al hb0 _).drew | exact (Below.al (Below.al hb0 _) _).drew | exact Below.al (Below.al hb0 _).drew _) hb7)))
            all_goals
              have HXF := hidE (HX.out.thru hb)
              have HBF := hidE (below_thru HB.out hb)
              go_wp2_with fail
              go_roundw
              case rel => exact ⟨k + 1, hlk, by go_num, by rw [HE.out, ← HEN.out], HXF.out, HBF.out⟩
              case measure => simp [intOf]; omega
        · have hkl : k = deeds.length := by omega
          subst hkl
          rw [List.take_length]
          have hi2 : ¬ ((deeds.length : Int) < (deeds.length : Int)) := by omega
          have HB := hidE hb
          clear hb hX h2 hlen3
          generalize deeds.length = dn at *
          go_wp2_with fail
          go_ret
          exact ⟨by rw [HFIN.out]; rfl, HB.out⟩
end Go.Proofs.Ytnhjebdlcbhkcad
