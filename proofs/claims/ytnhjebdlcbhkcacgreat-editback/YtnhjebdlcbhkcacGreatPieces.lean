/- Contract of run.pieces and its iterator. -/
import Derived.Test.YtnhjebdlcbhkcacGreatSearch
import Derived.Test.YtnhjebdlcbhkcacGreatJoin
namespace Go.Proofs.YtnhjebdlcbhkcacGreat
open Go.RowKit Go.Shelf
attribute [local go_sem] Oper.semAt_some

/-- does the piece from f go on behind place k? -/
def goesB (l : List At) (f k : Nat) : Bool := decide (k + 1 < l.length) && (decide (k + 1 - f < 60) && (match l[k]?, l[k + 1]? with
  | some x, some y => flw x.path x.clock y.path y.clock
  | _, _ => false))
/-- behind k places: the pieces that are shut, and where the open one begins -/
def pst (l : List At) : Nat → List (Nat × Nat) × Nat
  | 0 => ([], 0)
  | k + 1 => if goesB l (pst l k).2 k = true then pst l k else ((pst l k).1 ++ [((pst l k).2, k + 1)], k + 1)

theorem pst_le (l : List At) : ∀ k, (pst l k).2 ≤ k
  | 0 => Nat.le_refl _
  | k + 1 => by
    have := pst_le l k
    unfold pst
    split
    · omega
    · exact Nat.le_refl _

/-- a piece of the list -/
abbrev Pc (l : List At) := { p : Nat × Nat // p.1 < p.2 ∧ p.2 ≤ l.length }
def encP (b off cap : Nat) {l : List At} (x : Pc l) : Array Value := #[.slice (some ⟨b, off + x.1.1 * 3, none⟩) (x.1.2 - x.1.1) (cap - x.1.1)]

/-- what a round keeps: all below n₀, and every cell but those of two types -/
def KpX (t1 t2 : TypeId) (n₀ : Nat) (W W' : World) : Prop := Below n₀ W W' ∧ ∀ (k : Nat) (cur : Array Value) (t : TypeId), t ≠ t1 → t ≠ t2 → W.heap[k]? = some (Obj.cells cur t (0, 0)) → W'.heap[k]? = some (Obj.cells cur t (0, 0))

theorem KpX.trans {t1 t2 : TypeId} {n₀ : Nat} {A B C : World} (h : KpX t1 t2 n₀ A B) (k : KpX t1 t2 n₀ B C) : KpX t1 t2 n₀ A C := ⟨h.1.trans k.1, fun i cur t h1 h2 h3 => k.2 i cur t h1 h2 (h.2 i cur t h1 h2 h3)⟩
theorem KpX.put {t1 t2 : TypeId} {n₀ B : Nat} (hn : n₀ ≤ B) (W : World) (l : Nat) (o o' : Obj) (hl : B ≤ l) (h : W.heap[l]? = some o) (hc : o.isCells = false) (_ : o.isWalk = false) : KpX t1 t2 n₀ W (W.putObj l o') := by
  refine ⟨⟨rfl, rfl, rfl, by simp [World.putObj], fun k hk => World.putObj_heap_other (by omega)⟩, fun k cur t _ _ hk => ?_⟩
  by_cases e : k = l
  · subst e; rw [h] at hk; cases hk; cases hc
  · rw [World.putObj_heap_other e]; exact hk
theorem KpX.below {t1 t2 : TypeId} {n₀ : Nat} {W W' : World} (hb : Below W.heap.size W W') (hn : n₀ ≤ W.heap.size) : KpX t1 t2 n₀ W W' := by
  refine ⟨hb.mono hn, fun k cur t _ _ hk => ?_⟩
  have hlt : k < W.heap.size := (Array.getElem?_eq_some_iff.1 hk).1
  rw [hb.block k hlt]; exact hk
theorem cell_ofX {W : World} {B j : Nat} {cs : Array Value} {t : TypeId} {v : Value} (h : W.heap[B]? = some (.cells cs t (0, 0))) (hj : cs[j]? = some v) : W.cell? ⟨B, j, none⟩ = some v := by
  simp [World.cell?, h, hj]
theorem below_grownX {W W' : World} (hb : Below W.heap.size W W') : W.grownBy W' none := ⟨hb.os, hb.tape, hb.output, hb.size, fun k hk _ => hb.block k hk⟩

/-- atoms that lie below n₀ lie as they lay -/
theorem AtomsAt.low {n₀ : Nat} {w w' : World} {a : Option Addr} {l : List At} (h : ∀ W, Below n₀ w W → AtomsAt W a l) (hb : Below n₀ w w') : AtomsAt w' a l := h w' hb

set_option maxRecDepth 100000 in
set_option maxHeartbeats 4000000 in
theorem pieces1_in (n : Nat) (hn : 1 ≤ n) (B b off cap n₀ : Nat) (l : List At) (w : World) (ok : OkL l) (hcap : l.length ≤ cap) (_hcm : cap ≤ maxLen) (hn₀ : n₀ ≤ w.heap.size) (hB : w.heap[B]? = some (.cells #[.slice (some ⟨b, off, none⟩) l.length cap] 22 (0, 0)))
    (hat : ∀ W, Below n₀ w W → AtomsAt W (some ⟨b, off, none⟩) l) :
    SeqW Fence.wide n Tryz.prog 122 #[.pointer (some ⟨B, 0, none⟩)] (encP b off cap (l := l)) (KpX 48 52 n₀) (fun xs _ => xs.map (·.1) = (pst l l.length).1) (l.length + 1) w := by
  intro lp J W hbW hJ hY h0
  show CallsIn Fence.wide n Tryz.prog 122 #[.func (.yield lp) #[] #[], .pointer (some ⟨B, 0, none⟩)] W _
  refine callsIn_of_wp Tryz.func122 rfl trivial ?_ rfl
  simp only [Tryz.ntmps122, List.size_toArray, List.length_cons, List.length_nil, Nat.reduceAdd, Nat.reduceSub, Array.replicate_succ, Array.replicate_zero, List.push_toArray, List.append_toArray, List.nil_append, List.cons_append]
  have hBlt : B < w.heap.size := (Array.getElem?_eq_some_iff.1 hB).1
  have hBW : W.heap[B]? = some (.cells #[.slice (some ⟨b, off, none⟩) l.length cap] 22 (0, 0)) := (hbW.block B hBlt).trans hB
  have r0 : W.cell? ⟨B, 0, none⟩ = some (.slice (some ⟨b, off, none⟩) l.length cap) := cell_ofX hBW rfl
  have h300 := ok.len
  have hWn : n₀ ≤ W.heap.size := Nat.le_trans hn₀ hbW.size
  have HOK := hidE ok
  have HAT := hidE hat
  have hbW0 := hbW.mono hn₀
  unfold maxLen at _hcm
  clear ok hat
  gi_wp2
  gi_loopw [8, 3] (fun i fr wr => ∃ (k f : Nat) (pre : List (Pc l)), k ≤ l.length ∧ i = .int .i64 k ∧ fr = .int .i64 f ∧ f ≤ k ∧ pst l k = (pre.map (·.1), f) ∧ pre.length ≤ k ∧ J pre wr ∧ wr.heap[B]? = some (.cells #[.slice (some ⟨b, off, none⟩) l.length cap] 22 (0, 0)) ∧ Below n₀ W wr) (fun i _ _ => l.length - (intOf i).toNat)
  case atStart => exact ⟨0, 0, [], Nat.zero_le _, rfl, rfl, Nat.le_refl _, rfl, Nat.le_refl _, h0, hBW, Below.refl _ _⟩
  case round =>
    obtain ⟨k, f, pre, hk, rfl, rfl, hfk, hps, hpl, hJk, hBk, hbk⟩ := hrel
    have HP := hidE hps
    clear hps r0 hBW h0
    have q0 : wr.cell? ⟨B, 0, none⟩ = some (.slice (some ⟨b, off, none⟩) l.length cap) := cell_ofX hBk rfl
    have hBl : B < wr.heap.size := (Array.getElem?_eq_some_iff.1 hBk).1
    have hnr : n₀ ≤ wr.heap.size := Nat.le_trans hWn hbk.size
    by_cases hlt : k < l.length
    · have hi1 : (k : Int) < l.length := by omega
      have HPS : Hid (pst l (k + 1) = if goesB l f k = true then (pre.map (·.1), f) else (pre.map (·.1) ++ [(f, k + 1)], k + 1)) := by
        show _ = _
        rw [pst, HP.out]
      have hatr := HAT.out wr (hbW0.trans hbk)
      have hw1 : IntKind.i64.wrap ((k : Int) + 1) = (k : Int) + 1 := by rw [IntKind.wrap_i64] <;> omega
      by_cases c1 : k + 1 < l.length
      · have hd1 : decide (((k : Int) + 1) < l.length) = true := by simp; omega
        by_cases c2 : k + 1 - f < 60
        · have hd2 : decide (((k : Int) + 1 - f) < 60) = true := by simp; omega
          obtain ⟨ab, ao, hab, hbl, hc⟩ := hatr.raw (by omega)
          cases hab
          obtain ⟨⟨p, n1, cp, ck, sk⟩, hr, c0, c1', _⟩ := hc k hlt
          obtain ⟨⟨p', n2, cp', ck', sk'⟩, hr', d0, d1, _⟩ := hc (k + 1) c1
          have e1 : n1 = l[k].path.length := hr.n
          have e2 : ck = l[k].clock := hr.clock
          have e3 : n2 = l[k + 1].path.length := hr'.n
          have e4 : ck' = l[k + 1].clock := hr'.clock
          subst e1 e2 e3 e4
          have hs1 := hr.steps
          have hs2 := hr'.steps
          have k1 := (HOK.out.each l[k] (List.getElem_mem hlt)).1
          have k2 := (HOK.out.each l[k + 1] (List.getElem_mem c1)).1
          have HGB : Hid (goesB l f k = flw l[k].path l[k].clock l[k + 1].path l[k + 1].clock) := by
            show _ = _
            unfold goesB
            rw [decide_eq_true c1, decide_eq_true c2, List.getElem?_eq_getElem hlt, List.getElem?_eq_getElem c1]; rfl
          have hj2 : ((k : Int) + 1) < l.length := by omega
          have hw3 : ((k : Int) + 1).toNat = k + 1 := by omega
          clear hc hr hr'
          generalize l[k].path = pa at *
          generalize l[k].clock = ca at *
          generalize l[k + 1].path = pb at *
          generalize l[k + 1].clock = cb at *
          have hK1 := hidE k1
          have hK2 := hidE k2
          clear k1 k2
          have k0 := cell_regrown q0
          have k1 := cell_regrown c0
          have k2 := cell_regrown c1'
          have k3 := cell_regrown d0
          have k4 := cell_regrown d1
          have S1 := hidE (fun d os => hs1.below (below_regrown wr d os) (Nat.le_refl _))
          have S2 := hidE (fun d os => hs2.below (below_regrown wr d os) (Nat.le_refl _))
          clear hs1 hs2 c0 c1' d0 d1
          gi_upto_region 5 with fail
          refine wpIn_wide.2 ?_
          refine wp_region_quiet_below (by kernel_rfl) (by kernel_rfl) ?_
          repeat (first | go_big_quiet_step ((go_at_call 123; exact Calls.regrown_of (follows_any _ _ _ _ pa pb _ _ _ hK1.out hK2.out (S1.out _ _) (S2.out _ _)))) | quiet_step ((go_at_call 123; exact Calls.regrown_of (follows_any _ _ _ _ pa pb _ _ _ hK1.out hK2.out (S1.out _ _) (S2.out _ _)))))
          refine wpQuiet_nil ?_
          intro W2 hw'
          obtain ⟨⟨dq, osq⟩, hw''⟩ := hw'
          have hb2 : Below wr.heap.size wr W2 := by rw [hw'']; exact below_regrown wr dq osq
          clear hw''
          clear k0 k1 k2 k3 k4 S1 S2
          have hJ2 := hJ pre wr W2 none hJk (below_grownX hb2) (fun r e => by cases e)
          have hB2 := (hb2.block B hBl).trans hBk
          have q2 : W2.cell? ⟨B, 0, none⟩ = some (.slice (some ⟨b, off, none⟩) l.length cap) := cell_ofX hB2 rfl
          cases hfl : flw pa ca pb cb
          · have HPS2 : Hid (pst l (k + 1) = (pre.map (·.1) ++ [(f, k + 1)], k + 1)) := by
              show _ = _
              rw [HPS.out, HGB.out, if_neg (by rw [hfl]; decide)]
            clear hfl HGB
            obtain ⟨fn, tmps, assign, body, hy, hR⟩ := hY pre ⟨(f, k + 1), by show f < k + 1; omega, by show k + 1 ≤ l.length; omega⟩ W2 hJ2 (by omega)
            dsimp only [encP] at hy
            have hcf : ¬ (cap = f) := by omega
            have hb5 : (f : Int) ≤ (k : Int) + 1 := by omega
            have hb6 : (k : Int) + 1 ≤ (cap : Int) := by omega
            gi_wp2_with fail
            refine hR.mono ?_
            rintro e W4 ⟨rfl, hJ4, hk4⟩
            gi_wp2_with fail
            go_roundw
            case rel => exact ⟨k + 1, k + 1, pre ++ [⟨(f, k + 1), by show f < k + 1; omega, by show k + 1 ≤ l.length; omega⟩], by omega, by go_num, by go_num, Nat.le_refl _, by rw [HPS2.out]; simp, by simp; omega, hJ4, hk4.2 _ _ _ (by decide) (by decide) hB2, (hbk.trans (hb2.mono hnr)).trans hk4.1⟩
            case measure => simp [intOf]; omega
          · have HPS2 : Hid (pst l (k + 1) = (pre.map (·.1), f)) := by
              show _ = _
              rw [HPS.out, HGB.out, if_pos hfl]
            clear hfl HGB
            gi_wp2_with fail
            go_roundw
            case rel => exact ⟨k + 1, f, pre, by omega, by go_num, rfl, by omega, HPS2.out, by omega, hJ2, hB2, hbk.trans (hb2.mono hnr)⟩
            case measure => simp [intOf]; omega
        · have hd2 : decide (((k : Int) + 1 - f) < 60) = false := by simp; omega
          have HPS2 : Hid (pst l (k + 1) = (pre.map (·.1) ++ [(f, k + 1)], k + 1)) := by
            show _ = _
            rw [HPS.out, if_neg]
            unfold goesB
            rw [decide_eq_true c1, decide_eq_false c2]; simp
          have k0 := cell_regrown q0
          gi_upto_region 5 with fail
          refine wpIn_wide.2 ?_
          refine wp_region_quiet_below (by kernel_rfl) (by kernel_rfl) ?_
          repeat (first | go_big_quiet_step (fail) | quiet_step (fail))
          refine wpQuiet_nil ?_
          intro W2 hw'
          obtain ⟨⟨dq, osq⟩, hw''⟩ := hw'
          have hb2 : Below wr.heap.size wr W2 := by rw [hw'']; exact below_regrown wr dq osq
          clear hw'' k0
          have hJ2 := hJ pre wr W2 none hJk (below_grownX hb2) (fun r e => by cases e)
          have hB2 := (hb2.block B hBl).trans hBk
          have q2 : W2.cell? ⟨B, 0, none⟩ = some (.slice (some ⟨b, off, none⟩) l.length cap) := cell_ofX hB2 rfl
          obtain ⟨fn, tmps, assign, body, hy, hR⟩ := hY pre ⟨(f, k + 1), by show f < k + 1; omega, by show k + 1 ≤ l.length; omega⟩ W2 hJ2 (by omega)
          dsimp only [encP] at hy
          have hcf : ¬ (cap = f) := by omega
          have hb5 : (f : Int) ≤ (k : Int) + 1 := by omega
          have hb6 : (k : Int) + 1 ≤ (cap : Int) := by omega
          gi_wp2_with fail
          refine hR.mono ?_
          rintro e W4 ⟨rfl, hJ4, hk4⟩
          gi_wp2_with fail
          go_roundw
          case rel => exact ⟨k + 1, k + 1, pre ++ [⟨(f, k + 1), by show f < k + 1; omega, by show k + 1 ≤ l.length; omega⟩], by omega, by go_num, by go_num, Nat.le_refl _, by rw [HPS2.out]; simp, by simp; omega, hJ4, hk4.2 _ _ _ (by decide) (by decide) hB2, (hbk.trans (hb2.mono hnr)).trans hk4.1⟩
          case measure => simp [intOf]; omega
      · have hd1 : decide (((k : Int) + 1) < l.length) = false := by simp; omega
        have HPS2 : Hid (pst l (k + 1) = (pre.map (·.1) ++ [(f, k + 1)], k + 1)) := by
          show _ = _
          rw [HPS.out, if_neg]
          unfold goesB
          rw [decide_eq_false c1]; simp
        have k0 := cell_regrown q0
        gi_upto_region 5 with fail
        refine wpIn_wide.2 ?_
        refine wp_region_quiet_below (by kernel_rfl) (by kernel_rfl) ?_
        repeat (first | go_big_quiet_step (fail) | quiet_step (fail))
        refine wpQuiet_nil ?_
        intro W2 hw'
        obtain ⟨⟨dq, osq⟩, hw''⟩ := hw'
        have hb2 : Below wr.heap.size wr W2 := by rw [hw'']; exact below_regrown wr dq osq
        clear hw'' k0
        have hJ2 := hJ pre wr W2 none hJk (below_grownX hb2) (fun r e => by cases e)
        have hB2 := (hb2.block B hBl).trans hBk
        have q2 : W2.cell? ⟨B, 0, none⟩ = some (.slice (some ⟨b, off, none⟩) l.length cap) := cell_ofX hB2 rfl
        obtain ⟨fn, tmps, assign, body, hy, hR⟩ := hY pre ⟨(f, k + 1), by show f < k + 1; omega, by show k + 1 ≤ l.length; omega⟩ W2 hJ2 (by omega)
        dsimp only [encP] at hy
        have hcf : ¬ (cap = f) := by omega
        have hb5 : (f : Int) ≤ (k : Int) + 1 := by omega
        have hb6 : (k : Int) + 1 ≤ (cap : Int) := by omega
        gi_wp2_with fail
        refine hR.mono ?_
        rintro e W4 ⟨rfl, hJ4, hk4⟩
        gi_wp2_with fail
        go_roundw
        case rel => exact ⟨k + 1, k + 1, pre ++ [⟨(f, k + 1), by show f < k + 1; omega, by show k + 1 ≤ l.length; omega⟩], by omega, by go_num, by go_num, Nat.le_refl _, by rw [HPS2.out]; simp, by simp; omega, hJ4, hk4.2 _ _ _ (by decide) (by decide) hB2, (hbk.trans (hb2.mono hnr)).trans hk4.1⟩
        case measure => simp [intOf]; omega
    · have hkl : k = l.length := by omega
      subst hkl
      gi_wp2
      go_end0
      exact ⟨⟨_, rfl⟩, pre, by rw [HP.out], hJk⟩

set_option maxRecDepth 100000 in
set_option maxHeartbeats 1000000 in
theorem pieces0_in (n : Nat) (_hn : 1 ≤ n) (B : Nat) (a : Option Addr) (cap n₀ : Nat) (w : World) (hB : w.heap[B]? = some (.cells #[.slice a 0 cap] 22 (0, 0))) (encs : Pc [] → Array Value) :
    SeqW Fence.wide n Tryz.prog 122 #[.pointer (some ⟨B, 0, none⟩)] encs (KpX 48 52 n₀) (fun xs _ => xs.map (·.1) = (pst [] 0).1) 1 w := by
  intro lp J W hbW hJ hY h0
  show CallsIn Fence.wide n Tryz.prog 122 #[.func (.yield lp) #[] #[], .pointer (some ⟨B, 0, none⟩)] W _
  refine callsIn_of_wp Tryz.func122 rfl trivial ?_ rfl
  simp only [Tryz.ntmps122, List.size_toArray, List.length_cons, List.length_nil, Nat.reduceAdd, Nat.reduceSub, Array.replicate_succ, Array.replicate_zero, List.push_toArray, List.append_toArray, List.nil_append, List.cons_append]
  have hBlt : B < w.heap.size := (Array.getElem?_eq_some_iff.1 hB).1
  have hBW : W.heap[B]? = some (.cells #[.slice a 0 cap] 22 (0, 0)) := (hbW.block B hBlt).trans hB
  have r0 : W.cell? ⟨B, 0, none⟩ = some (.slice a 0 cap) := cell_ofX hBW rfl
  gi_wp2
  gi_loopw [8, 3] (fun i _ wr => i = .int .i64 0 ∧ wr = W) (fun _ _ _ => 0)
  case atStart => exact ⟨rfl, rfl⟩
  case round =>
    obtain ⟨rfl, rfl⟩ := hrel
    gi_wp2
    go_end0
    exact ⟨⟨_, rfl⟩, [], rfl, h0⟩

/-- pieces of any list of atoms that is right -/
theorem pieces_seq (n : Nat) (hn : 1 ≤ n) (B : Nat) (a : Option Addr) (cap n₀ : Nat) (l : List At) (w : World) (ok : OkL l) (hcap : l.length ≤ cap) (hcm : cap ≤ maxLen) (hn₀ : n₀ ≤ w.heap.size) (hB : w.heap[B]? = some (.cells #[.slice a l.length cap] 22 (0, 0)))
    (hat : ∀ W, Below n₀ w W → AtomsAt W a l) :
    ∃ enc : Pc l → Nat × Nat × Nat, SeqW Fence.wide n Tryz.prog 122 #[.pointer (some ⟨B, 0, none⟩)] (fun x => #[.slice (some ⟨(enc x).1, (enc x).2.1, none⟩) (x.1.2 - x.1.1) (enc x).2.2]) (KpX 48 52 n₀) (fun xs _ => xs.map (·.1) = (pst l l.length).1) (l.length + 1) w ∧
      ∀ x W, AtomsAt W a l → AtomsAt W (some ⟨(enc x).1, (enc x).2.1, none⟩) (part l x.1.1 (x.1.2 - x.1.1)) := by
  by_cases hl : l = []
  · subst hl
    exact ⟨fun _ => (0, 0, 0), pieces0_in n hn B a cap n₀ w hB _, fun x => absurd x.2.2 (by have := x.2.1; simp; omega)⟩
  · obtain ⟨b, off, rfl⟩ : ∃ b off, a = some ⟨b, off, none⟩ := by
      rcases hat w (Below.refl _ _) with e | ⟨b, off, rfl, _⟩
      · exact absurd e hl
      · exact ⟨b, off, rfl⟩
    refine ⟨fun x => (b, off + x.1.1 * 3, cap - x.1.1), pieces1_in n hn B b off cap n₀ l w ok hcap hcm hn₀ hB hat, fun x W hW => ?_⟩
    exact hW.part (by have := x.2.1; have := x.2.2; omega)

set_option maxHeartbeats 1000000 in
theorem pieces_any (v : Value) (a : Option Addr) (len cap : Nat) (hv : v = .slice a len cap) (w : World) :
    Calls Tryz.prog 89 #[v] w fun e w' => e = .returned (.func (.func 122) #[] #[.pointer (some ⟨w.heap.size, 0, none⟩)]) ∧ w' = w.alloc (.cells #[v] 22) := by
  subst hv
  go_enter Tryz.func89, Tryz.ntmps89
  go_wp2
  go_ret
  exact ⟨rfl, rfl⟩
end Go.Proofs.YtnhjebdlcbhkcacGreat
