/- Contract of the reference's FarOf. -/
import Derived.Test.YtnhjebdlcbhkcadFarPu
namespace Go.Proofs.Ytnhjebdlcbhkcad
open Go.RowKit

/-- the row holds these numbers -/
structure FarI (w wr : World) (m : Nat) (f : Nat → Nat) : Prop where
  below : Below w.heap.size w wr
  row : wr.rowIs w.heap.size 3 (m + 1) (fun j => .int .i64 (f j : Nat))

theorem FarI.congr {w wr : World} {m : Nat} {f g : Nat → Nat} (h : FarI w wr m f) (he : ∀ j, j ≤ m → f j = g j) : FarI w wr m g :=
  ⟨h.below, h.row.congr fun j hj => by simp only [he j (by omega)]⟩
theorem FarI.set {w wr : World} {m : Nat} {f : Nat → Nat} (h : FarI w wr m f) (i x : Nat) : FarI w (wr.setCell ⟨w.heap.size, i, none⟩ (.int .i64 (x : Nat))) m (fun j => if j = i then x else f j) :=
  ⟨h.below.setCell (by simp) _, (h.row.set i _).congr fun j _ => by by_cases e : j = i <;> simp [e]⟩
theorem FarI.drew {w wr : World} {m : Nat} {f : Nat → Nat} (h : FarI w wr m f) : FarI w wr.drew m f := ⟨h.below.drew, h.row.drew⟩

theorem byte_eq (a b : ByteArray) (i j : Nat) (hi : i < a.size) (hj : j < b.size) : ((a[i].toNat : Int) = (b[j].toNat : Int)) ↔ a[i] = b[j] := by
  refine ⟨fun e => UInt8.toNat_inj.1 (by omega), fun e => by rw [e]⟩

set_option maxRecDepth 100000 in
set_option maxHeartbeats 8000000 in
theorem farOf_ok (a b : ByteArray) (w : World) (ha : a.size ≤ 300) (hb : b.size ≤ 300) :
    Calls Try.prog 20 #[.string a, .string b] w fun e w' => e = .returned (.int .i64 (far a.data.toList b.data.toList : Nat)) ∧ Below w.heap.size w w' := by
  have hw2 : IntKind.i64.wrap ((b.size : Int) + 1) = (b.size : Int) + 1 := by rw [IntKind.wrap_i64] <;> omega
  have hmk := run_make_row' (P := Try.prog) 50 3 (.int .i64 0) 8 Try.underlying50 Try.infoInt rfl .i64 .i64 (b.size + 1) (by omega) (by omega)
  have eb : ((b.size + 1 : Nat) : Int) = (b.size : Int) + 1 := by omega
  simp only [eb] at hmk
  clear eb
  have hI0 : FarI w (w.alloc (.cells (madeCells #[.int .i64 0] (b.size + 1)) 3)) b.size (fun _ => 0) :=
    ⟨(Below.refl _ _).alloc (Nat.le_refl _) _, (World.rowIs_made w (.int .i64 0) (b.size + 1) 3).congr fun j _ => rfl⟩
  have HFF := hidE (fr_full a b)
  generalize far a.data.toList b.data.toList = ff at *
  go_enter Try.func20, Try.ntmps20
  go_upto_region 2 with fail
  generalize w.alloc (.cells (madeCells #[.int .i64 0] (b.size + 1)) 3) = W at *
  clear hmk hw2
  go_wp2_with fail
  have HI0 := hidE hI0
  clear hI0
  go_loopw [6] (fun v wr => ∃ k : Nat, k ≤ b.size + 1 ∧ v = .int .i64 (k : Int) ∧ FarI w wr b.size (fun j => if j < k then j else 0)) (fun v _ => b.size + 1 - (intOf v).toNat)
  case atStart => exact ⟨0, Nat.zero_le _, rfl, HI0.out.congr fun j _ => by rw [if_neg (Nat.not_lt_zero _)]⟩
  case round =>
    clear HI0
    obtain ⟨k, hk, rfl, hI⟩ := hrel
    rcases Nat.lt_or_ge k (b.size + 1) with hlt | hge
    · have hle : (k : Int) ≤ (b.size : Int) := by omega
      have hk1 : (k : Int) < (b.size : Int) + 1 := by omega
      have c0 := hI.row.cell (i := k) (by omega)
      have f0 := hI.row.frozen k
      have hwk : IntKind.i64.wrap ((k : Int) + 1) = ((k + 1 : Nat) : Int) := by rw [IntKind.wrap_i64] <;> omega
      have HS := hidE (hI.set k k)
      clear hI
      go_wp2_with fail
      go_roundw
      case rel => exact ⟨k + 1, by omega, rfl, HS.out.congr fun j _ => by
        by_cases e : j = k
        · subst e; rw [if_pos rfl, if_pos (by omega)]
        · rw [if_neg e]
          by_cases e2 : j < k
          · rw [if_pos e2, if_pos (by omega)]
          · rw [if_neg e2, if_neg (by omega)]⟩
      case measure => simp [intOf]; omega
    · have hle : ¬ (k : Int) ≤ (b.size : Int) := by omega
      have hI1 : FarI w wr b.size (fun j => fr a b 0 j) := hI.congr fun j hj => by rw [if_pos (by omega), fr_left a b j hj]
      have HI1 := hidE hI1
      clear hI hI1
      go_wp2_with fail
      go_loopw [7] (fun v wr => ∃ i : Nat, i ≤ a.size ∧ v = .int .i64 ((i + 1 : Nat) : Int) ∧ FarI w wr b.size (fun j => fr a b i j)) (fun v _ => a.size + 1 - (intOf v).toNat)
      case atStart => exact ⟨0, Nat.zero_le _, rfl, HI1.out⟩
      case round =>
        clear HI1 hk hge hle
        obtain ⟨i, hi, rfl, hI⟩ := hrel
        rcases Nat.lt_or_ge i a.size with hia | hia
        · have hle : ((i + 1 : Nat) : Int) ≤ (a.size : Int) := by omega
          have c0 := hI.row.cell (i := 0) (by omega)
          have f0 := hI.row.frozen 0
          have hz : (0 : Int) < (b.size : Int) + 1 := by omega
          have hwi : IntKind.i64.wrap (((i + 1 : Nat) : Int) + 1) = ((i + 1 + 1 : Nat) : Int) := by rw [IntKind.wrap_i64] <;> omega
          have HS := hidE ((hI.set 0 (i + 1)).congr (g := fun j => if j ≤ 0 then fr a b (i + 1) j else fr a b i j) fun j _ => by
            by_cases e : j = 0
            · subst e; rw [if_pos rfl, if_pos (Nat.le_refl _), fr_right a b (i + 1) (by omega)]
            · rw [if_neg e, if_neg (by omega)])
          clear hI
          go_wp2_with fail
          go_loopw [8, 9] (fun u v wr => ∃ k : Nat, k ≤ b.size ∧ u = .int .i64 (fr a b i k : Nat) ∧ v = .int .i64 ((k + 1 : Nat) : Int) ∧ FarI w wr b.size (fun j => if j ≤ k then fr a b (i + 1) j else fr a b i j)) (fun u v _ => b.size + 1 - (intOf v).toNat)
          case atStart => exact ⟨0, Nat.zero_le _, rfl, rfl, HS.out⟩
          case round =>
            clear HS c0 f0 hz hle
            obtain ⟨k, hk, rfl, rfl, hI⟩ := hrel
            rcases Nat.lt_or_ge k b.size with hkb | hkb
            · have hle : ((k + 1 : Nat) : Int) ≤ (b.size : Int) := by omega
              have c1 := hI.row.cell (i := k + 1) (by omega)
              have c0 := hI.row.cell (i := k) (by omega)
              have f1 := hI.row.frozen (k + 1)
              simp only [if_neg (show ¬ k + 1 ≤ k by omega)] at c1
              simp only [if_pos (Nat.le_refl k)] at c0
              have hk1 : ((k + 1 : Nat) : Int) < (b.size : Int) + 1 := by omega
              have hk0 : (k : Int) < (b.size : Int) + 1 := by omega
              have hwm : IntKind.i64.wrap (((k + 1 : Nat) : Int) - 1) = (k : Int) := by rw [IntKind.wrap_i64] <;> omega
              have hwmi : IntKind.i64.wrap (((i + 1 : Nat) : Int) - 1) = (i : Int) := by rw [IntKind.wrap_i64] <;> omega
              have hwk : IntKind.i64.wrap (((k + 1 : Nat) : Int) + 1) = ((k + 1 + 1 : Nat) : Int) := by rw [IntKind.wrap_i64] <;> omega
              have l1 := fr_le a b i (k + 1)
              have l0 := fr_le a b (i + 1) k
              have hwx : IntKind.i64.wrap (((fr a b i (k + 1) : Nat) : Int) + 1) = ((fr a b i (k + 1) + 1 : Nat) : Int) := by rw [IntKind.wrap_i64] <;> omega
              have hwy : IntKind.i64.wrap (((fr a b (i + 1) k : Nat) : Int) + 1) = ((fr a b (i + 1) k + 1 : Nat) : Int) := by rw [IntKind.wrap_i64] <;> omega
              have hiA : (i : Int) < (a.size : Int) := by omega
              have hkB : (k : Int) < (b.size : Int) := by omega
              have HST := hidE (fun x (hx : x = fr a b (i + 1) (k + 1)) => (hI.drew.set (k + 1) x).congr (g := fun j => if j ≤ k + 1 then fr a b (i + 1) j else fr a b i j) fun j _ => by
                by_cases e : j = k + 1
                · subst e; rw [if_pos rfl, if_pos (Nat.le_refl _), hx]
                · rw [if_neg e]
                  by_cases e2 : j ≤ k
                  · rw [if_pos e2, if_pos (by omega)]
                  · rw [if_neg e2, if_neg (by omega)])
              clear hI l1 l0
              by_cases hab : a[i] = b[k]
              · have HE := hidE (fr_same a b i k hia hkb hab)
                have heq : ((a[i].toNat : Int) == (b[k].toNat : Int)) = true := by rw [hab]; simp
                have heq2 : decide ((a[i].toNat : Int) = (b[k].toNat : Int)) = true := by rw [hab]; simp
                have HST' := hidE (HST.out _ HE.out.symm)
                clear HST HE
                generalize hx1 : fr a b i (k + 1) = x1 at c1 hwx
                have HX := hidE hx1
                generalize fr a b (i + 1) k = y1 at c0 hwy
                generalize fr a b i k = z1 at *
                clear hx1
                by_cases hxy : (y1 : Int) + 1 < (x1 : Int) + 1
                · go_upto_region 17 with fail
                  go_region
                  all_goals
                    replace c1 : wr.drew.cell? ⟨w.heap.size, k + 1, none⟩ = some (.int .i64 (x1 : Nat)) := c1
                    replace f1 : wr.drew.frozen? ⟨w.heap.size, k + 1, none⟩ = false := f1
                    clear c0
                    generalize wr.drew = wd at *
                    go_wp2_with fail
                    go_roundw
                    case rel => exact ⟨k + 1, hkb, by rw [HX.out], rfl, HST'.out⟩
                    case measure => simp [intOf]; omega
                · go_upto_region 17 with fail
                  go_region
                  all_goals
                    replace c1 : wr.drew.cell? ⟨w.heap.size, k + 1, none⟩ = some (.int .i64 (x1 : Nat)) := c1
                    replace f1 : wr.drew.frozen? ⟨w.heap.size, k + 1, none⟩ = false := f1
                    clear c0
                    generalize wr.drew = wd at *
                    go_wp2_with fail
                    go_roundw
                    case rel => exact ⟨k + 1, hkb, by rw [HX.out], rfl, HST'.out⟩
                    case measure => simp [intOf]; omega
              · have HE := hidE (fr_other a b i k hia hkb hab)
                have hne : a[i].toNat ≠ b[k].toNat := fun e => hab (UInt8.toNat_inj.1 e)
                have heq : ((a[i].toNat : Int) == (b[k].toNat : Int)) = false := by rw [beq_eq_false_iff_ne]; omega
                have heq2 : decide ((a[i].toNat : Int) = (b[k].toNat : Int)) = false := decide_eq_false (by omega)
                generalize hx1 : fr a b i (k + 1) = x1 at c1 hwx HE
                have HX := hidE hx1
                generalize fr a b (i + 1) k = y1 at c0 hwy HE
                generalize fr a b i k = z1 at *
                clear hx1
                by_cases hxy : (y1 : Int) + 1 < (x1 : Int) + 1
                · have HST' := hidE (HST.out (y1 + 1) (by rw [HE.out]; omega))
                  clear HST HE
                  go_upto_region 17 with fail
                  go_region
                  all_goals
                    replace c1 : wr.drew.cell? ⟨w.heap.size, k + 1, none⟩ = some (.int .i64 (x1 : Nat)) := c1
                    replace f1 : wr.drew.frozen? ⟨w.heap.size, k + 1, none⟩ = false := f1
                    clear c0
                    generalize wr.drew = wd at *
                    go_wp2_with fail
                    go_roundw
                    case rel => exact ⟨k + 1, hkb, by rw [HX.out], rfl, HST'.out⟩
                    case measure => simp [intOf]; omega
                · have HST' := hidE (HST.out (x1 + 1) (by rw [HE.out]; omega))
                  clear HST HE
                  go_upto_region 17 with fail
                  go_region
                  all_goals
                    replace c1 : wr.drew.cell? ⟨w.heap.size, k + 1, none⟩ = some (.int .i64 (x1 : Nat)) := c1
                    replace f1 : wr.drew.frozen? ⟨w.heap.size, k + 1, none⟩ = false := f1
                    clear c0
                    generalize wr.drew = wd at *
                    go_wp2_with fail
                    go_roundw
                    case rel => exact ⟨k + 1, hkb, by rw [HX.out], rfl, HST'.out⟩
                    case measure => simp [intOf]; omega
            · have hkk : k = b.size := by omega
              subst hkk
              have hle : ¬ ((b.size + 1 : Nat) : Int) ≤ (b.size : Int) := by omega
              have HI := hidE (hI.congr (g := fun j => fr a b (i + 1) j) fun j hj => if_pos hj)
              clear hI
              go_wp2_with fail
              go_roundw
              case rel => exact ⟨i + 1, hia, rfl, HI.out⟩
              case measure => simp [intOf]; omega
        · have hii : i = a.size := by omega
          subst hii
          have hle : ¬ ((a.size + 1 : Nat) : Int) ≤ (a.size : Int) := by omega
          have c0 := hI.row.cell (i := b.size) (by omega)
          have hb1 : (b.size : Int) < (b.size : Int) + 1 := by omega
          have HB := hidE hI.below
          rw [HFF.out] at c0
          clear hI
          go_wp2_with fail
          go_ret
          exact ⟨rfl, HB.out⟩
end Go.Proofs.Ytnhjebdlcbhkcad
