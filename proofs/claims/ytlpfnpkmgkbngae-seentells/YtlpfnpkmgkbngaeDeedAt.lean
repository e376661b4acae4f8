/- Deeds that lie somewhere. -/
import Derived.Test.YtlpfnpkmgkbngaeDeedC
namespace Go.Proofs.Ytlpfnpkmgkbngae
open Go.RowKit

/-- deeds lie there, seven cells each -/
def DeedsAt (w : World) (r : Option Addr) (ds : List Dd) : Prop :=
  ds = [] ∨ ∃ b o, r = some ⟨b, o, none⟩ ∧ b < w.heap.size ∧ ∀ i (h : i < ds.length), ∃ p cp q cq, w.cell? ⟨b, o + i * 7, none⟩ = some (.int .i64 ds[i].kind) ∧ w.cell? ⟨b, o + i * 7 + 1, none⟩ = some (.slice p ds[i].rp.length cp) ∧ w.cell? ⟨b, o + i * 7 + 2, none⟩ = some (.int .i64 ds[i].rc) ∧ w.cell? ⟨b, o + i * 7 + 3, none⟩ = some (.string ds[i].rt) ∧ w.cell? ⟨b, o + i * 7 + 4, none⟩ = some (.slice q ds[i].mp.length cq) ∧ w.cell? ⟨b, o + i * 7 + 5, none⟩ = some (.int .i64 ds[i].mc) ∧ w.cell? ⟨b, o + i * 7 + 6, none⟩ = some (.int .i64 ds[i].many) ∧ DdAt w ds[i] p q ∧ -9223372036854775808 ≤ ds[i].many ∧ ds[i].many ≤ 9223372036854775807

theorem DeedsAt.below {w w' : World} {r : Option Addr} {ds : List Dd} (h : DeedsAt w r ds) (hb : Below w.heap.size w w') : DeedsAt w' r ds := by
  rcases h with h | ⟨b, o, rfl, hlt, hc⟩
  · exact Or.inl h
  · refine Or.inr ⟨b, o, rfl, Nat.lt_of_lt_of_le hlt hb.size, fun i hi => ?_⟩
    obtain ⟨p, cp, q, cq, h0, h1, h2, h3, h4, h5, h6, h7, h8⟩ := hc i hi
    exact ⟨p, cp, q, cq, (hb.cell (p := ⟨b, o + i * 7, none⟩) hlt).trans h0, (hb.cell (p := ⟨b, o + i * 7 + 1, none⟩) hlt).trans h1, (hb.cell (p := ⟨b, o + i * 7 + 2, none⟩) hlt).trans h2, (hb.cell (p := ⟨b, o + i * 7 + 3, none⟩) hlt).trans h3, (hb.cell (p := ⟨b, o + i * 7 + 4, none⟩) hlt).trans h4, (hb.cell (p := ⟨b, o + i * 7 + 5, none⟩) hlt).trans h5, (hb.cell (p := ⟨b, o + i * 7 + 6, none⟩) hlt).trans h6, h7.below hb, h8⟩
end Go.Proofs.Ytlpfnpkmgkbngae
