/- Contract of diff.commonOfEnds: the table of what may stay. -/
import Derived.Test.YtnhjebdlcbhkcadDiffPu
import Derived.Test.YtnhjebdlcbhkcadOwnsF
import Derived.Deep.OwnRows
namespace Go.Proofs.Ytnhjebdlcbhkcad
open Go.RowKit

/-- what may stay of the ends from these places on -/
def comm (a b : ByteArray) (i j : Nat) : Nat := lcs (a.data.toList.drop i) (b.data.toList.drop j)

theorem comm_a (a b : ByteArray) (i j : Nat) (h : a.size ≤ i) : comm a b i j = 0 := by
  unfold comm; rw [List.drop_eq_nil_of_le (by simpa using h)]; simp [lcs]
theorem comm_b (a b : ByteArray) (i j : Nat) (h : b.size ≤ j) : comm a b i j = 0 := by
  unfold comm; rw [List.drop_eq_nil_of_le (i := j) (by simpa using h)]; exact lcs_nil _
theorem drop_at (a : ByteArray) (i : Nat) (h : i < a.size) : a.data.toList.drop i = a[i] :: a.data.toList.drop (i + 1) := by
  rw [List.drop_eq_getElem_cons (by simpa using h)]; rfl
theorem comm_same (a b : ByteArray) (i j : Nat) (hi : i < a.size) (hj : j < b.size) (h : a[i] = b[j]) : comm a b i j = comm a b (i + 1) (j + 1) + 1 := by
  unfold comm
  rw [drop_at a i hi, drop_at b j hj]
  conv => lhs; unfold lcs
  rw [if_pos h]
theorem comm_other (a b : ByteArray) (i j : Nat) (hi : i < a.size) (hj : j < b.size) (h : a[i] ≠ b[j]) : comm a b i j = max (comm a b (i + 1) j) (comm a b i (j + 1)) := by
  have ha := drop_at a i hi
  have hb := drop_at b j hj
  unfold comm
  rw [ha, hb]
  conv => lhs; unfold lcs
  rw [if_neg h]
theorem comm_le (a b : ByteArray) (i j : Nat) : comm a b i j ≤ a.size := by
  unfold comm
  have := (lcs_le (a.data.toList.drop i) (b.data.toList.drop j)).1
  simp at this
  omega

/-- the table's own row, when the rows from lo on are made (N: its block; the row r lies in the block N + 1 + (n - r)) -/
def topF (N n m lo : Nat) : Nat → Value := fun r => if lo ≤ r then .slice (some ⟨N + 1 + (n - r), 0, none⟩) (m + 1) (m + 1) else .slice none 0 0

/-- the rows from lo on are done -/
structure TabO (w wr : World) (a b : ByteArray) (lo : Nat) : Prop where
  below : Below w.heap.size w wr
  size : wr.heap.size = w.heap.size + 1 + (a.size + 1 - lo)
  top : wr.rowIs w.heap.size 50 (a.size + 1) (topF w.heap.size a.size b.size lo)
  done : ∀ r, lo ≤ r → r ≤ a.size → wr.rowIs (w.heap.size + 1 + (a.size - r)) 3 (b.size + 1) (fun j => .int .i64 (comm a b r j))

/-- and in the row i the cells from lo on -/
structure TabI (w wr : World) (a b : ByteArray) (i lo : Nat) : Prop where
  below : Below w.heap.size w wr
  size : wr.heap.size = w.heap.size + 1 + (a.size + 1 - i)
  top : wr.rowIs w.heap.size 50 (a.size + 1) (topF w.heap.size a.size b.size i)
  done : ∀ r, i < r → r ≤ a.size → wr.rowIs (w.heap.size + 1 + (a.size - r)) 3 (b.size + 1) (fun j => .int .i64 (comm a b r j))
  cur : wr.rowIs (w.heap.size + 1 + (a.size - i)) 3 (b.size + 1) (fun j => if lo ≤ j then .int .i64 (comm a b i j) else .int .i64 0)

theorem tab_row {w wr : World} {a b : ByteArray} {i : Nat} (hi : i ≤ a.size) (hb : Below w.heap.size w wr) (hs : wr.heap.size = w.heap.size + 1 + (a.size - i)) (ht : wr.rowIs w.heap.size 50 (a.size + 1) (topF w.heap.size a.size b.size (i + 1))) (hd : ∀ r, i < r → r ≤ a.size → wr.rowIs (w.heap.size + 1 + (a.size - r)) 3 (b.size + 1) (fun j => .int .i64 (comm a b r j))) :
    TabI w ((wr.setCell ⟨w.heap.size, i, none⟩ (.slice (some ⟨w.heap.size + 1 + (a.size - i), 0, none⟩) (b.size + 1) (b.size + 1))).alloc (.cells (madeCells #[.int .i64 0] (b.size + 1)) 3)) a b i b.size := by
  have hnew := World.rowIs_made (wr.setCell ⟨w.heap.size, i, none⟩ (.slice (some ⟨w.heap.size + 1 + (a.size - i), 0, none⟩) (b.size + 1) (b.size + 1))) (.int .i64 0) (b.size + 1) 3
  have hss : (wr.setCell ⟨w.heap.size, i, none⟩ (.slice (some ⟨w.heap.size + 1 + (a.size - i), 0, none⟩) (b.size + 1) (b.size + 1))).heap.size = w.heap.size + 1 + (a.size - i) := by simp [World.setCell, hs]
  rw [hss] at hnew
  refine ⟨(hb.setCell (by simp) _).alloc (by rw [hss]; omega) _, by simp [hs]; omega, ((ht.set i _).alloc _).congr (fun r _ => ?_), fun r h1 h2 => ((hd r h1 h2).setOther (by show w.heap.size + 1 + (a.size - r) ≠ w.heap.size; omega) _).alloc _,
    hnew.congr (fun j hj => ?_)⟩
  · unfold topF
    by_cases e : r = i
    · subst e; rw [if_pos rfl, if_pos (Nat.le_refl _)]
    · rw [if_neg e]
      by_cases h : i + 1 ≤ r
      · rw [if_pos h, if_pos (by omega)]
      · rw [if_neg h, if_neg (by omega)]
  · by_cases e : b.size ≤ j
    · rw [if_pos e, comm_b a b i j e]; rfl
    · rw [if_neg e]

theorem tab_row2 {w wr : World} {a b : ByteArray} {i : Nat} (hi : i ≤ a.size) (hb : Below w.heap.size w wr) (hs : wr.heap.size = w.heap.size + 1 + (a.size - i)) (ht : wr.rowIs w.heap.size 50 (a.size + 1) (topF w.heap.size a.size b.size (i + 1))) (hd : ∀ r, i < r → r ≤ a.size → wr.rowIs (w.heap.size + 1 + (a.size - r)) 3 (b.size + 1) (fun j => .int .i64 (comm a b r j))) :
    TabI w ((wr.alloc (.cells (madeCells #[.int .i64 0] (b.size + 1)) 3)).setCell ⟨w.heap.size, i, none⟩ (.slice (some ⟨w.heap.size + 1 + (a.size - i), 0, none⟩) (b.size + 1) (b.size + 1))) a b i b.size := by
  have hnew := World.rowIs_made wr (.int .i64 0) (b.size + 1) 3
  rw [hs] at hnew
  refine ⟨(hb.alloc hb.size _).setCell (by simp) _, by simp [hs]; omega, ((ht.alloc _).set i _).congr (fun r _ => ?_), fun r h1 h2 => ((hd r h1 h2).alloc _).setOther (by show w.heap.size + 1 + (a.size - r) ≠ w.heap.size; omega) _,
    (hnew.setOther (by show w.heap.size + 1 + (a.size - i) ≠ w.heap.size; omega) _).congr (fun j hj => ?_)⟩
  · unfold topF
    by_cases e : r = i
    · subst e; rw [if_pos rfl, if_pos (Nat.le_refl _)]
    · rw [if_neg e]
      by_cases h : i + 1 ≤ r
      · rw [if_pos h, if_pos (by omega)]
      · rw [if_neg h, if_neg (by omega)]
  · by_cases e : b.size ≤ j
    · rw [if_pos e, comm_b a b i j e]; rfl
    · rw [if_neg e]

theorem tab_done {w wr : World} {a b : ByteArray} {i : Nat} (h : TabI w wr a b i 0) : TabO w wr a b i :=
  ⟨h.below, h.size, h.top, fun r h1 h2 => by
    by_cases e : r = i
    · subst e; exact h.cur.congr (fun j _ => by rw [if_pos (Nat.zero_le _)])
    · exact h.done r (by omega) h2⟩

theorem tab_step {w wr : World} {a b : ByteArray} {i j : Nat} (h : TabI w wr a b i (j + 1)) : TabI w (wr.setCell ⟨w.heap.size + 1 + (a.size - i), j, none⟩ (.int .i64 (comm a b i j))).drew a b i j := by
  refine ⟨(h.below.setCell (by show w.heap.size ≤ w.heap.size + 1 + (a.size - i); omega) _).drew, by simp [h.size], (h.top.setOther (by show w.heap.size ≠ w.heap.size + 1 + (a.size - i); omega) _).drew,
    fun r h1 h2 => ((h.done r h1 h2).setOther (by show w.heap.size + 1 + (a.size - r) ≠ w.heap.size + 1 + (a.size - i); omega) _).drew, ((h.cur.set j _).congr (fun k _ => ?_)).drew⟩
  by_cases e : k = j
  · subst e; rw [if_pos rfl, if_pos (Nat.le_refl _)]
  · rw [if_neg e]
    by_cases h0 : j + 1 ≤ k
    · rw [if_pos h0, if_pos (by omega)]
    · rw [if_neg h0, if_neg (by omega)]

theorem Try.infoRow : (Try.prog.info? 50).map (fun i => (i.zero, i.size, i.bytes)) = some (some (.slice none 0 0), 1, 24) := by kernel_rfl
theorem Try.infoInt : (Try.prog.info? 3).map (fun i => (i.zero, i.size, i.bytes)) = some (some (.int .i64 0), 1, 8) := by kernel_rfl

theorem TabI.drew {w wr : World} {a b : ByteArray} {i lo : Nat} (h : TabI w wr a b i lo) : TabI w wr.drew a b i lo :=
  ⟨h.below.drew, h.size, h.top.drew, fun r h1 h2 => (h.done r h1 h2).drew, h.cur.drew⟩

set_option maxRecDepth 100000 in
set_option maxHeartbeats 8000000 in
theorem commonOfEnds_ok (a b : ByteArray) (w : World) (ha : a.size ≤ 300) (hb : b.size ≤ 300) :
    Calls Try.prog 94 #[.string a, .string b] w fun e w' => e = .returned (.slice (some ⟨w.heap.size, 0, none⟩) (a.size + 1) (a.size + 1)) ∧ TabO w w' a b 0 := by
  have hw1 : IntKind.i64.wrap ((a.size : Int) + 1) = (a.size : Int) + 1 := by rw [IntKind.wrap_i64] <;> omega
  have hw2 : IntKind.i64.wrap ((b.size : Int) + 1) = (b.size : Int) + 1 := by rw [IntKind.wrap_i64] <;> omega
  have hw3 : IntKind.i64.wrap ((a.size : Int) - 1) = (a.size : Int) - 1 := by rw [IntKind.wrap_i64] <;> omega
  have hw4 : IntKind.i64.wrap ((b.size : Int) - 1) = (b.size : Int) - 1 := by rw [IntKind.wrap_i64] <;> omega
  have hmk1 := run_make_row' (P := Try.prog) 127 50 (.slice none 0 0) 24 Try.underlying127 Try.infoRow rfl .i64 .i64 (a.size + 1) (by omega) (by omega)
  have hmk2 := run_make_row' (P := Try.prog) 50 3 (.int .i64 0) 8 Try.underlying50 Try.infoInt rfl .i64 .i64 (b.size + 1) (by omega) (by omega)
  have ea : ((a.size + 1 : Nat) : Int) = (a.size : Int) + 1 := by omega
  have eb : ((b.size + 1 : Nat) : Int) = (b.size : Int) + 1 := by omega
  simp only [ea] at hmk1
  simp only [eb] at hmk2
  clear ea eb
  have hix : (a.size : Int) < (a.size : Int) + 1 := by omega
  have hO0 := World.rowIs_made w (.slice none 0 0) (a.size + 1) 50
  have hB0 := (Below.refl w.heap.size w).alloc (Nat.le_refl _) (.cells (madeCells #[.slice none 0 0] (a.size + 1)) 50)
  have hs0 : (w.alloc (.cells (madeCells #[.slice none 0 0] (a.size + 1)) 50)).heap.size = w.heap.size + 1 := by simp
  go_enter Try.func94, Try.ntmps94
  go_upto_region 2 with fail
  have hI0 := tab_row (i := a.size) (b := b) (Nat.le_refl _) hB0 (by rw [hs0]; omega) (hO0.congr fun r hr => by unfold topF; rw [if_neg (by omega)]) (fun r h1 h2 => by omega)
  generalize w.alloc (.cells (madeCells #[.slice none 0 0] (a.size + 1)) 50) = W at *
  have st1 : ∀ o, (W.alloc o).cell? ⟨w.heap.size, a.size, none⟩ = some (.slice none 0 0) := fun o => (hO0.alloc o).cell (by omega)
  have st2 : ∀ o, (W.alloc o).frozen? ⟨w.heap.size, a.size, none⟩ = false := fun o => (hO0.alloc o).frozen _
  have hTO : TabO w _ a b a.size := tab_done ⟨hI0.below, hI0.size, hI0.top, hI0.done, hI0.cur.congr (fun j _ => by
    by_cases e : b.size ≤ j
    · rw [if_pos e, if_pos (Nat.zero_le _)]
    · rw [if_neg e, if_pos (Nat.zero_le _), comm_a a b a.size j (Nat.le_refl _)]; rfl)⟩
  have HTO := hidE hTO
  rw [Nat.sub_self, Nat.add_zero] at HTO
  clear hTO hI0 hO0 hB0
  go_wp2_with fail
  go_loopw [6] (fun v wr => ∃ k : Nat, k ≤ a.size ∧ v = .int .i64 ((k : Int) - 1) ∧ TabO w wr a b k) (fun v _ => (intOf v + 1).toNat)
  case atStart =>
    exact ⟨a.size, Nat.le_refl _, rfl, HTO.out⟩
  case round =>
    clear st1 st2 hs0 HTO hw1 hmk1 hix hw3
    obtain ⟨k, hk, rfl, hT⟩ := hrel
    rcases k with _ | i
    · have hneg : ¬ ((((0 : Nat) : Int) - 1) ≥ 0) := by omega
      go_wp2_with fail
      go_ret
      exact ⟨rfl, hT⟩
    · have e1 : ((i + 1 : Nat) : Int) - 1 = (i : Int) := by omega
      rw [e1]
      clear e1
      have hia : i < a.size := by omega
      have hge : (i : Int) ≥ 0 := by omega
      have hi1 : (i : Int) < (a.size : Int) + 1 := by omega
      have hsz : wr.heap.size = w.heap.size + 1 + (a.size - i) := by have := hT.size; omega
      have st1 : ∀ o, (wr.alloc o).cell? ⟨w.heap.size, i, none⟩ = some (.slice none 0 0) := fun o => ((hT.top.alloc o).cell (by omega)).trans (by unfold topF; rw [if_neg (by omega)])
      have st2 : ∀ o, (wr.alloc o).frozen? ⟨w.heap.size, i, none⟩ = false := fun o => (hT.top.alloc o).frozen _
      have HTI := hidE (tab_row2 (i := i) (b := b) (by omega) hT.below hsz hT.top (fun r h1 h2 => hT.done r (by omega) h2))
      clear hT
      go_wp2_with fail
      go_loopw [7] (fun v wi => ∃ j : Nat, j ≤ b.size ∧ v = .int .i64 ((j : Int) - 1) ∧ TabI w wi a b i j) (fun v _ => (intOf v + 1).toNat)
      case atStart => exact ⟨b.size, Nat.le_refl _, rfl, HTI.out⟩
      case round =>
        clear st1 st2 hsz HTI hmk2 hw2 hw4
        obtain ⟨jj, hj, rfl, hI⟩ := hrel
        rcases jj with _ | j
        · have hneg : ¬ ((((0 : Nat) : Int) - 1) ≥ 0) := by omega
          have hwi : IntKind.i64.wrap ((i : Int) - 1) = (i : Int) - 1 := by rw [IntKind.wrap_i64] <;> omega
          go_wp2_with fail
          go_roundw
          case rel => exact ⟨i, by omega, rfl, tab_done hI⟩
          case measure => simp [intOf]
        · have e1 : ((j + 1 : Nat) : Int) - 1 = (j : Int) := by omega
          rw [e1]
          clear e1
          have hjb : j < b.size := by omega
          have hgj : (j : Int) ≥ 0 := by omega
          have hj1 : (j : Int) < (b.size : Int) := by omega
          have hia1 : (i : Int) < (a.size : Int) := by omega
          have c0 := hI.top.cell (i := i) (by omega)
          have c1 := hI.top.cell (i := i + 1) (by omega)
          have d0 := hI.cur.cell (i := j) (by omega)
          have d1 := hI.cur.cell (i := j + 1) (by omega)
          have f0 := hI.cur.frozen j
          have g1 := (hI.done (i + 1) (by omega) (by omega)).cell (i := j + 1) (by omega)
          have g0 := (hI.done (i + 1) (by omega) (by omega)).cell (i := j) (by omega)
          unfold topF at c0 c1
          rw [if_pos (Nat.le_refl _)] at c0
          rw [if_pos (by omega)] at c1
          rw [if_neg (by omega)] at d0
          rw [if_pos (Nat.le_refl _)] at d1
          have hwi : IntKind.i64.wrap ((i : Int) + 1) = ((i + 1 : Nat) : Int) := by rw [IntKind.wrap_i64] <;> omega
          have hwj : IntKind.i64.wrap ((j : Int) + 1) = ((j + 1 : Nat) : Int) := by rw [IntKind.wrap_i64] <;> omega
          have hwj2 : IntKind.i64.wrap ((j : Int) - 1) = (j : Int) - 1 := by rw [IntKind.wrap_i64] <;> omega
          have hi2 : ((i + 1 : Nat) : Int) < (a.size : Int) + 1 := by omega
          have hj2 : ((j + 1 : Nat) : Int) < (b.size : Int) + 1 := by omega
          have hj3 : (j : Int) < (b.size : Int) + 1 := by omega
          have HST := hidE (tab_step hI)
          have HI := hidE hI
          by_cases hab : a[i] = b[j]
          · have hcm := comm_same a b i j hia hjb hab
            have hle := comm_le a b (i + 1) (j + 1)
            have hwc : IntKind.i64.wrap ((comm a b (i + 1) (j + 1) : Int) + 1) = ((comm a b i j : Nat) : Int) := by rw [hcm, IntKind.wrap_i64] <;> omega
            have heq : ((a[i].toNat : Int) == (b[j].toNat : Int)) = true := by rw [hab]; simp
            have heq2 : decide ((a[i].toNat : Int) = (b[j].toNat : Int)) = true := by rw [hab]; simp
            clear hI hcm hle g0 d1
            go_upto_region 10 with fail
            go_region
            all_goals
              have HSD : Hid (TabI w (wr.drew.setCell ⟨w.heap.size + 1 + (a.size - i), j, none⟩ (.int .i64 (comm a b i j))).drew a b i j) := HST.out.drew
              replace c0 : wr.drew.cell? ⟨w.heap.size, i, none⟩ = some (.slice (some ⟨w.heap.size + 1 + (a.size - i), 0, none⟩) (b.size + 1) (b.size + 1)) := c0
              replace c1 : wr.drew.cell? ⟨w.heap.size, i + 1, none⟩ = some (.slice (some ⟨w.heap.size + 1 + (a.size - (i + 1)), 0, none⟩) (b.size + 1) (b.size + 1)) := c1
              replace d0 : wr.drew.cell? ⟨w.heap.size + 1 + (a.size - i), j, none⟩ = some (.int .i64 0) := d0
              replace f0 : wr.drew.frozen? ⟨w.heap.size + 1 + (a.size - i), j, none⟩ = false := f0
              replace g1 : wr.drew.cell? ⟨w.heap.size + 1 + (a.size - (i + 1)), j + 1, none⟩ = some (.int .i64 (comm a b (i + 1) (j + 1))) := g1
              clear HST HI
              generalize wr.drew = wd at *
              go_wp2_with fail
              go_region
              all_goals
                go_wp2_with fail
                go_roundw
                case rel => exact ⟨j, by omega, rfl, HSD.out⟩
                case measure => simp [intOf]
          · have hcm := comm_other a b i j hia hjb hab
            have hle := comm_le a b i j
            have hne : a[i].toNat ≠ b[j].toNat := fun e => hab (UInt8.toNat_inj.1 e)
            have heq : ((a[i].toNat : Int) == (b[j].toNat : Int)) = false := by rw [beq_eq_false_iff_ne]; omega
            have heq2 : decide ((a[i].toNat : Int) = (b[j].toNat : Int)) = false := decide_eq_false (by omega)
            have HMX : Hid ((if comm a b (i + 1) j < comm a b i (j + 1) then ((comm a b i (j + 1) : Nat) : Int) else ((comm a b (i + 1) j : Nat) : Int)) = ((comm a b i j : Nat) : Int)) := by
              show _ = _
              rw [hcm]; split <;> omega
            clear hI hcm hle g1
            go_upto_region 10 with fail
            go_region
            all_goals
              have HSD : Hid (TabI w (wr.drew.setCell ⟨w.heap.size + 1 + (a.size - i), j, none⟩ (.int .i64 (comm a b i j))).drew a b i j) := HST.out.drew
              replace c0 : wr.drew.cell? ⟨w.heap.size, i, none⟩ = some (.slice (some ⟨w.heap.size + 1 + (a.size - i), 0, none⟩) (b.size + 1) (b.size + 1)) := c0
              replace c1 : wr.drew.cell? ⟨w.heap.size, i + 1, none⟩ = some (.slice (some ⟨w.heap.size + 1 + (a.size - (i + 1)), 0, none⟩) (b.size + 1) (b.size + 1)) := c1
              replace d0 : wr.drew.cell? ⟨w.heap.size + 1 + (a.size - i), j, none⟩ = some (.int .i64 0) := d0
              replace f0 : wr.drew.frozen? ⟨w.heap.size + 1 + (a.size - i), j, none⟩ = false := f0
              replace g0 : wr.drew.cell? ⟨w.heap.size + 1 + (a.size - (i + 1)), j, none⟩ = some (.int .i64 (comm a b (i + 1) j)) := g0
              replace d1 : wr.drew.cell? ⟨w.heap.size + 1 + (a.size - i), j + 1, none⟩ = some (.int .i64 (comm a b i (j + 1))) := d1
              clear HST HI
              generalize wr.drew = wd at *
              go_wp2_with fail
              go_region
              all_goals
                go_wp2_with fail
                go_roundw
                case rel => exact ⟨j, by omega, rfl, by rw [HMX.out]; exact HSD.out⟩
                case measure => simp [intOf]
end Go.Proofs.Ytnhjebdlcbhkcad
