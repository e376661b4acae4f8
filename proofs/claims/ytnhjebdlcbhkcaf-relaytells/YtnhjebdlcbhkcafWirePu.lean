/- Pure: notes as bytes. -/
import Derived.Test.YtnhjebdlcbhkcafNoteC
import Derived.Laws.BytesArg
namespace Go.Proofs.Ytnhjebdlcbhkcaf

/-- two bytes -/
def e2 (x : Int) : List Int := [x % 256, x / 256]
def eSteps (p : List (Int × Int)) : List Int := p.flatMap fun s => [s.1, s.2]
def encM (p : List (Int × Int)) (c : Int) : List Int := ((p.length : Int) :: eSteps p) ++ e2 c
def txtN (t : ByteArray) : List Int := t.data.toList.map fun b => (b.toNat : Int)
def encD (d : Dd) : List Int := d.kind :: if d.kind = 1 then encM d.rp d.rc ++ ((d.rt.size : Int) :: txtN d.rt) else encM d.mp d.mc ++ [d.many]
def eDeeds (l : List Dd) : List Int := l.flatMap encD
def eNeeds (l : List Int) : List Int := l.flatMap e2
/-- a note's bytes -/
def encN (n : Nt) : List Int := (n.site :: e2 n.number) ++ eNeeds n.needs ++ ((n.deeds.length : Int) :: eDeeds n.deeds)

/-- bytes of numbers -/
def byt (l : List Int) : List UInt8 := l.map fun n => UInt8.ofNat n.toNat
theorem byt_append (l m : List Int) : byt (l ++ m) = byt l ++ byt m := List.map_append ..
theorem byt_cons (x : Int) (m : List Int) : byt (x :: m) = UInt8.ofNat x.toNat :: byt m := rfl
theorem byt_str (l : List Int) : (strOfNums l).data.toList = byt l := rfl

def p1 : List UInt8 → Option (Int × List UInt8)
  | [] => none
  | b :: r => some (b.toNat, r)
def p2 (s : List UInt8) : Option (Int × List UInt8) :=
  match p1 s with
  | none => none
  | some (a, r) => match p1 r with
    | none => none
    | some (b, r) => some (a + 256 * b, r)
def pStep (s : List UInt8) : Option ((Int × Int) × List UInt8) :=
  match p1 s with
  | none => none
  | some (a, r) => match p1 r with
    | none => none
    | some (b, r) => some ((a, b), r)
def pMany {α : Type} (p : List UInt8 → Option (α × List UInt8)) : Nat → List UInt8 → Option (List α × List UInt8)
  | 0, s => some ([], s)
  | k + 1, s => match p s with
    | none => none
    | some (x, r) => match pMany p k r with
      | none => none
      | some (l, r) => some (x :: l, r)
def pM (s : List UInt8) : Option ((List (Int × Int) × Int) × List UInt8) :=
  match p1 s with
  | none => none
  | some (n, r) => match pMany pStep n.toNat r with
    | none => none
    | some (l, r) => match p2 r with
      | none => none
      | some (c, r) => some ((l, c), r)
def pT (s : List UInt8) : Option (ByteArray × List UInt8) :=
  match p1 s with
  | none => none
  | some (n, r) => if n.toNat ≤ r.length then some (⟨(r.take n.toNat).toArray⟩, r.drop n.toNat) else none
def pD (s : List UInt8) : Option (Dd × List UInt8) :=
  match p1 s with
  | none => none
  | some (k, r) =>
    if k = 1 then match pM r with
      | none => none
      | some ((p, c), r) => match pT r with
        | none => none
        | some (t, r) => some (⟨1, p, c, t, [], 0, 0⟩, r)
    else if k = 2 then match pM r with
      | none => none
      | some ((p, c), r) => match p1 r with
        | none => none
        | some (m, r) => some (⟨2, [], 0, ⟨#[]⟩, p, c, m⟩, r)
    else none
def pN (s : List UInt8) : Option (Nt × List UInt8) :=
  match p1 s with
  | none => none
  | some (site, r) => match p2 r with
    | none => none
    | some (number, r) => match pMany p2 5 r with
      | none => none
      | some (needs, r) => match p1 r with
        | none => none
        | some (many, r) => match pMany pD many.toNat r with
          | none => none
          | some (deeds, r) => some (⟨site, number, needs, deeds⟩, r)

def noNt : Nt := ⟨0, 0, [], []⟩
/-- what Decode answers -/
def decE (s : List UInt8) : Int := match pN s with
  | some (n, []) => chkN n
  | _ => 1
def decN (s : List UInt8) : Nt := match pN s with
  | some (n, []) => if chkN n = 0 then n else noNt
  | _ => noNt

/-! ### back from what was written -/
theorem p1_back {s r : List UInt8} {x : Int} (h : p1 s = some (x, r)) : s = byt [x] ++ r ∧ 0 ≤ x ∧ x ≤ 255 := by
  cases s with
  | nil => simp [p1] at h
  | cons b t =>
    simp only [p1, Option.some.injEq, Prod.mk.injEq] at h
    obtain ⟨rfl, rfl⟩ := h
    have := b.toNat_lt
    refine ⟨?_, by omega, by omega⟩
    show b :: t = UInt8.ofNat ((b.toNat : Int).toNat) :: t
    rw [Int.toNat_natCast, UInt8.ofNat_toNat]
theorem p2_back {s r : List UInt8} {x : Int} (h : p2 s = some (x, r)) : s = byt (e2 x) ++ r ∧ 0 ≤ x ∧ x ≤ 65535 := by
  unfold p2 at h
  split at h
  · cases h
  rename_i a r1 h1
  split at h
  · cases h
  rename_i b r2 h2
  simp only [Option.some.injEq, Prod.mk.injEq] at h
  obtain ⟨rfl, rfl⟩ := h
  obtain ⟨e1, a0, a1⟩ := p1_back h1
  obtain ⟨e2', b0, b1⟩ := p1_back h2
  refine ⟨?_, by omega, by omega⟩
  have m1 : (a + 256 * b) % 256 = a := by omega
  have m2 : (a + 256 * b) / 256 = b := by omega
  unfold e2
  rw [m1, m2, e1, e2']
  rfl
theorem pStep_back {s r : List UInt8} {x : Int × Int} (h : pStep s = some (x, r)) : s = byt [x.1, x.2] ++ r := by
  unfold pStep at h
  split at h
  · cases h
  rename_i a r1 h1
  split at h
  · cases h
  rename_i b r2 h2
  simp only [Option.some.injEq, Prod.mk.injEq] at h
  obtain ⟨rfl, rfl⟩ := h
  obtain ⟨e1, _⟩ := p1_back h1
  obtain ⟨e2', _⟩ := p1_back h2
  rw [e1, e2']
  rfl
theorem pMany_back {α : Type} {p : List UInt8 → Option (α × List UInt8)} {enc : α → List Int} (hp : ∀ s r x, p s = some (x, r) → s = byt (enc x) ++ r) :
    ∀ {k : Nat} {s r : List UInt8} {l : List α}, pMany p k s = some (l, r) → s = byt (l.flatMap enc) ++ r ∧ l.length = k
  | 0, s, r, l, h => by
    simp only [pMany, Option.some.injEq, Prod.mk.injEq] at h
    obtain ⟨rfl, rfl⟩ := h
    exact ⟨rfl, rfl⟩
  | k + 1, s, r, l, h => by
    unfold pMany at h
    split at h
    · cases h
    rename_i x r1 h1
    split at h
    · cases h
    rename_i l' r2 h2
    simp only [Option.some.injEq, Prod.mk.injEq] at h
    obtain ⟨rfl, rfl⟩ := h
    obtain ⟨e, hl⟩ := pMany_back hp h2
    refine ⟨?_, by rw [List.length_cons, hl]⟩
    rw [List.flatMap_cons, byt_append, List.append_assoc, ← e]
    exact hp _ _ _ h1
theorem pM_back {s r : List UInt8} {p : List (Int × Int)} {c : Int} (h : pM s = some ((p, c), r)) : s = byt (encM p c) ++ r := by
  unfold pM at h
  split at h
  · cases h
  rename_i n r1 h1
  split at h
  · cases h
  rename_i l r2 h2
  split at h
  · cases h
  rename_i c' r3 h3
  simp only [Option.some.injEq, Prod.mk.injEq] at h
  obtain ⟨⟨rfl, rfl⟩, rfl⟩ := h
  obtain ⟨a1, n0, _⟩ := p1_back h1
  obtain ⟨a2, hl⟩ := pMany_back (enc := fun s : Int × Int => [s.1, s.2]) (fun s r x h => pStep_back h) h2
  obtain ⟨a3, _⟩ := p2_back h3
  have hn : (l.length : Int) = n := by rw [hl]; omega
  unfold encM eSteps
  rw [hn, a1, a2, a3, byt_append, byt_cons]
  show _ = ([UInt8.ofNat n.toNat] ++ _ ++ _) ++ _
  rw [List.append_assoc, List.append_assoc]
  rfl
theorem pT_back {s r : List UInt8} {t : ByteArray} (h : pT s = some (t, r)) : s = byt ((t.size : Int) :: txtN t) ++ r := by
  unfold pT at h
  split at h
  · cases h
  rename_i n r1 h1
  split at h
  · rename_i hle
    simp only [Option.some.injEq, Prod.mk.injEq] at h
    obtain ⟨rfl, rfl⟩ := h
    obtain ⟨a1, n0, _⟩ := p1_back h1
    have hs : ByteArray.size ⟨(r1.take n.toNat).toArray⟩ = n.toNat := by
      simp [ByteArray.size]; omega
    have e : byt (txtN ⟨(r1.take n.toNat).toArray⟩) = r1.take n.toNat := by
      unfold byt txtN
      rw [List.map_map]
      refine (List.map_congr_left fun b _ => ?_).trans (List.map_id _)
      show UInt8.ofNat ((b.toNat : Int).toNat) = b
      rw [Int.toNat_natCast, UInt8.ofNat_toNat]
    rw [hs, a1]
    show UInt8.ofNat n.toNat :: r1 = UInt8.ofNat ((n.toNat : Int).toNat) :: (byt (txtN ⟨(r1.take n.toNat).toArray⟩) ++ r1.drop n.toNat)
    rw [e, Int.toNat_natCast, List.take_append_drop]
  · cases h
theorem pD_back {s r : List UInt8} {d : Dd} (h : pD s = some (d, r)) : s = byt (encD d) ++ r := by
  unfold pD at h
  split at h
  · cases h
  rename_i k r1 h1
  obtain ⟨a1, _⟩ := p1_back h1
  split at h
  · rename_i hk
    subst hk
    split at h
    · cases h
    rename_i p c r2 h2
    split at h
    · cases h
    rename_i t r3 h3
    simp only [Option.some.injEq, Prod.mk.injEq] at h
    obtain ⟨rfl, rfl⟩ := h
    have a2 := pM_back h2
    have a3 := pT_back h3
    rw [a1, a2, a3]
    unfold encD
    simp only [if_pos, byt_cons, byt_append]
    simp [byt]
  · split at h
    · rename_i hk hk2
      subst hk2
      split at h
      · cases h
      rename_i p c r2 h2
      split at h
      · cases h
      rename_i m r3 h3
      simp only [Option.some.injEq, Prod.mk.injEq] at h
      obtain ⟨rfl, rfl⟩ := h
      have a2 := pM_back h2
      obtain ⟨a3, _⟩ := p1_back h3
      rw [a1, a2, a3]
      unfold encD
      simp only [byt_cons]
      rw [if_neg (by decide)]
      simp [byt]
    · cases h
theorem pN_back {s r : List UInt8} {n : Nt} (h : pN s = some (n, r)) : s = byt (encN n) ++ r := by
  unfold pN at h
  split at h
  · cases h
  rename_i site r1 h1
  split at h
  · cases h
  rename_i number r2 h2
  split at h
  · cases h
  rename_i needs r3 h3
  split at h
  · cases h
  rename_i many r4 h4
  split at h
  · cases h
  rename_i deeds r5 h5
  simp only [Option.some.injEq, Prod.mk.injEq] at h
  obtain ⟨rfl, rfl⟩ := h
  obtain ⟨a1, _⟩ := p1_back h1
  obtain ⟨a2, _⟩ := p2_back h2
  obtain ⟨a3, _⟩ := pMany_back (enc := e2) (fun s r x h => (p2_back h).1) h3
  obtain ⟨a4, m0, _⟩ := p1_back h4
  obtain ⟨a5, hl⟩ := pMany_back (enc := encD) (fun s r x h => pD_back h) h5
  have hm : (deeds.length : Int) = many := by rw [hl]; omega
  unfold encN eNeeds eDeeds
  simp only [hm]
  rw [a1, a2, a3, a4, a5]
  simp only [byt_append, byt_cons, List.append_assoc, List.cons_append]
  rfl

/-! ### what was written is read -/
theorem p1_of {x : Int} (h0 : 0 ≤ x) (h1 : x ≤ 255) (r : List UInt8) : p1 (UInt8.ofNat x.toNat :: r) = some (x, r) := by
  have : (UInt8.ofNat x.toNat).toNat = x.toNat := by rw [UInt8.toNat_ofNat_of_lt']; show _ < 256; omega
  show some (((UInt8.ofNat x.toNat).toNat : Int), r) = _
  rw [this]
  simp only [Option.some.injEq, Prod.mk.injEq, and_true]
  omega
theorem p2_of {x : Int} (h0 : 0 ≤ x) (h1 : x ≤ 65535) (r : List UInt8) : p2 (byt (e2 x) ++ r) = some (x, r) := by
  show p2 (UInt8.ofNat (x % 256).toNat :: UInt8.ofNat (x / 256).toNat :: r) = _
  unfold p2
  rw [p1_of (by omega) (by omega)]
  simp only
  rw [p1_of (by omega) (by omega)]
  simp only [Option.some.injEq, Prod.mk.injEq, and_true]
  omega
theorem pMany_of {α : Type} {p : List UInt8 → Option (α × List UInt8)} {enc : α → List Int} :
    ∀ {l : List α}, (∀ x ∈ l, ∀ r, p (byt (enc x) ++ r) = some (x, r)) → ∀ r, pMany p l.length (byt (l.flatMap enc) ++ r) = some (l, r)
  | [], _, r => rfl
  | x :: l, h, r => by
    rw [List.flatMap_cons, byt_append, List.append_assoc, List.length_cons]
    unfold pMany
    rw [h x (List.mem_cons_self ..)]
    simp only
    rw [pMany_of (fun y hy => h y (List.mem_cons_of_mem _ hy))]
/-- numbers that have room in their bytes -/
structure RoomM (p : List (Int × Int)) (c : Int) : Prop where
  len : p.length ≤ 255
  steps : ∀ s ∈ p, 0 ≤ s.1 ∧ s.1 ≤ 255 ∧ 0 ≤ s.2 ∧ s.2 ≤ 255
  c0 : 0 ≤ c
  c1 : c ≤ 65535
theorem pM_of {p : List (Int × Int)} {c : Int} (h : RoomM p c) (r : List UInt8) : pM (byt (encM p c) ++ r) = some ((p, c), r) := by
  have h255 := h.len
  unfold encM eSteps
  rw [byt_append, byt_cons, List.append_assoc, List.cons_append]
  unfold pM
  rw [p1_of (by omega) (by omega)]
  simp only [Int.toNat_natCast]
  rw [pMany_of (enc := fun s : Int × Int => [s.1, s.2]) (fun s hs r => by
    obtain ⟨a, b, c, d⟩ := h.steps s hs
    show pStep (UInt8.ofNat s.1.toNat :: UInt8.ofNat s.2.toNat :: r) = _
    unfold pStep
    rw [p1_of a b]
    simp only
    rw [p1_of c d])]
  simp only
  rw [p2_of h.c0 h.c1]
theorem txtN_len (t : ByteArray) : (byt (txtN t)) = t.data.toList := by
  unfold byt txtN
  rw [List.map_map]
  refine (List.map_congr_left fun b _ => ?_).trans (List.map_id _)
  show UInt8.ofNat ((b.toNat : Int).toNat) = b
  rw [Int.toNat_natCast, UInt8.ofNat_toNat]
theorem pT_of {t : ByteArray} (h : t.size ≤ 255) (r : List UInt8) : pT (byt ((t.size : Int) :: txtN t) ++ r) = some (t, r) := by
  rw [byt_cons, txtN_len]
  show pT (UInt8.ofNat ((t.size : Int).toNat) :: (t.data.toList ++ r)) = _
  unfold pT
  rw [p1_of (by omega) (by omega)]
  have hl : t.data.toList.length = t.size := by simp
  simp only [Int.toNat_natCast]
  rw [if_pos (by rw [List.length_append]; omega), List.take_append_of_le_length (by omega), List.drop_append_of_le_length (by omega), List.take_of_length_le (by omega), List.drop_eq_nil_of_le (by omega)]
  rfl
/-- a deed that has room in its bytes, and no more than its kind names -/
def RoomD (d : Dd) : Prop :=
  (d.kind = 1 ∧ RoomM d.rp d.rc ∧ d.rt.size ≤ 255 ∧ d.mp = [] ∧ d.mc = 0 ∧ d.many = 0) ∨ (d.kind = 2 ∧ RoomM d.mp d.mc ∧ 0 ≤ d.many ∧ d.many ≤ 255 ∧ d.rp = [] ∧ d.rc = 0 ∧ d.rt = ⟨#[]⟩)
theorem pD_of {d : Dd} (h : RoomD d) (r : List UInt8) : pD (byt (encD d) ++ r) = some (d, r) := by
  obtain ⟨kind, rp, rc, rt, mp, mc, many⟩ := d
  rcases h with ⟨h1, h2, h3, h4, h5, h6⟩ | ⟨h1, h2, h3, h4, h5, h6, h7⟩
  · simp only at h1 h2 h3 h4 h5 h6
    subst h1 h4 h5 h6
    unfold encD
    simp only [if_pos]
    rw [byt_cons, byt_append, List.cons_append, List.append_assoc]
    unfold pD
    rw [p1_of (by decide) (by decide)]
    simp only [if_pos]
    rw [pM_of h2]
    simp only
    rw [pT_of h3]
  · simp only at h1 h2 h3 h4 h5 h6 h7
    subst h1 h5 h6 h7
    unfold encD
    rw [if_neg (show ¬ ((2 : Int) = 1) by decide)]
    simp only
    rw [byt_cons, byt_append, List.cons_append, List.append_assoc]
    unfold pD
    rw [p1_of (by decide) (by decide)]
    simp only
    rw [if_neg (show ¬ ((2 : Int) = 1) by decide), if_pos trivial, pM_of h2]
    simp only
    rw [show byt [many] ++ r = UInt8.ofNat many.toNat :: r from rfl, p1_of h3 h4]
/-- a note that has room in its bytes -/
structure RoomN (n : Nt) : Prop where
  s0 : 0 ≤ n.site
  s1 : n.site ≤ 255
  n0 : 0 ≤ n.number
  n1 : n.number ≤ 65535
  nl : n.needs.length = 5
  needs : ∀ x ∈ n.needs, 0 ≤ x ∧ x ≤ 65535
  dl : n.deeds.length ≤ 255
  deeds : ∀ d ∈ n.deeds, RoomD d
theorem pN_of {n : Nt} (h : RoomN n) : pN (byt (encN n)) = some (n, []) := by
  have h255 := h.dl
  have e : byt (encN n) = UInt8.ofNat n.site.toNat :: (byt (e2 n.number) ++ (byt (eNeeds n.needs) ++ (UInt8.ofNat ((n.deeds.length : Int).toNat) :: (byt (eDeeds n.deeds) ++ [])))) := by
    unfold encN
    simp only [byt_append, byt_cons, List.append_assoc, List.cons_append, List.append_nil]
  rw [e]
  unfold pN
  rw [p1_of h.s0 h.s1]
  simp only
  rw [p2_of h.n0 h.n1]
  simp only
  have h5 := pMany_of (p := p2) (enc := e2) (l := n.needs) (fun x hx r => p2_of (h.needs x hx).1 (h.needs x hx).2 r)
  rw [h.nl] at h5
  unfold eNeeds
  rw [h5]
  simp only
  rw [p1_of (by omega) (by omega)]
  simp only [Int.toNat_natCast]
  unfold eDeeds
  rw [pMany_of (p := pD) (enc := encD) (fun d hd r => pD_of (h.deeds d hd) r)]
end Go.Proofs.Ytnhjebdlcbhkcaf
