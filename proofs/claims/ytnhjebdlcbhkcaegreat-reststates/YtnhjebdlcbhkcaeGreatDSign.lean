/- Contracts of diff.takeSign, diff.putSign. -/
import Derived.Test.YtnhjebdlcbhkcaeGreatDiffPl
import Derived.Test.YtnhjebdlcbhkcaeGreatPutA
import Derived.Deep.AppendLies
import Derived.Lib.QuietBelow
namespace Go.Proofs.YtnhjebdlcbhkcaeGreat
open Go.RowKit Go.Lib

theorem run_append_ownE {P : Program} (w : World) (base : Nat) (t ty e : TypeId) (i : TypeInfo) (z : Value) (size bytes : Nat) (ht : P.underlying t = some (.slice e)) (hi : P.info? e = some i) (hz : i.zero = some z)
    (hsize : i.size = size) (hby : i.bytes = bytes) (hzs : z.cells.size = size) (hsz : 0 < size) (v : Value) (n : Nat) (xs : List Value) (hown : w.ownsRow base e size v n xs)
    (a : Addr) (c : Nat) (news : List Value) (hl : news.length = 1 * size) (hnews : ∀ j u, news[j]? = some u → w.cell? (a.add j) = some u) (h1 : ∀ u ∈ news, u.oneCell' = true)
    (h63 : n + 1 ≤ maxLen) (hbytes : (n + 1) * bytes ≤ 140737488355328) (hbase : base ≤ w.heap.size) :
    ∃ v' w', (Builtin.append_ #[t, t] ty #[v, .slice (some a) 1 c]).run P w = .ok v' w' ∧ w'.ownsRow base e size v' (n + 1) (xs ++ news) ∧ w.grownBy w' v.ownBlock ∧ (v'.ownBlock = v.ownBlock ∨ v'.ownBlock = some w.heap.size) := by
  obtain ⟨v', w', hrun, r1, r2, _⟩ := run_append_own (P := P) w base t ty e i z size bytes ht hi hz hsize hby hzs hsz v n xs hown a 1 c news hl hnews h1 h63 hbytes hbase
  refine ⟨v', w', hrun, r1, r2, ?_⟩
  unfold maxLen at h63
  subst hsize hby
  rcases hown.2 with ⟨rfl, rfl⟩ | ⟨g, cap, cur, rfl, hbg, hg, hnc, hcm, hcs, htake⟩
  · have hr := run_append_nil (P := P) w t ty e i z ht hi hz a 1 c news hl hnews (by omega) (by omega) (by omega)
    rw [hrun] at hr
    injection hr with e1 e2
    right; rw [e1]; rfl
  · by_cases hroom : n + 1 ≤ cap
    · have hfit : n * i.size + news.length ≤ cur.size := by rw [hl, hcs, ← Nat.add_mul]; exact Nat.mul_le_mul_right _ hroom
      have hr := run_append_room (P := P) w t ty e i ht hi g n cap cur hg a 1 c news hl hnews h1 hroom hfit
      rw [hrun] at hr
      injection hr with e1 e2
      left; rw [e1]; rfl
    · have holds : ∀ j u, xs[j]? = some u → w.cell? ((⟨g, 0, none⟩ : Addr).add j) = some u := hown.cells (g := g) rfl
      have hr := run_append_grow (P := P) w t ty e i z ht hi hz ⟨g, 0, none⟩ n cap xs hown.1 holds a 1 c news hl hnews (by omega) (by omega) (growslice_fits (by omega) hbytes)
      rw [hrun] at hr
      injection hr with e1 e2
      right; rw [e1]; rfl

theorem wpList_append_ownE {P : Program} {w : World} {ops : Array Oper} {rest : List Oper} {o : Oper} {a : Act} {Q : Exit → Act → World → Prop} (hgd : o.guard = none) (s x : Operand) (t : TypeId)
    (ho : o.op = .call { callee := .builtin .append, args := #[s, x], argTypes := #[t, t] })
    (base : Nat) (e : TypeId) (i : TypeInfo) (z : Value) (size bytes : Nat) (ht : P.underlying t = some (.slice e)) (hi : P.info? e = some i) (hz : i.zero = some z)
    (hsize : i.size = size) (hby : i.bytes = bytes) (hzs : z.cells.size = size) (hsz : 0 < size)
    (v : Value) (n : Nat) (xs : List Value) (hs : a.eval s = v) (hown : w.ownsRow base e size v n xs)
    (ad : Addr) (c : Nat) (news : List Value) (hx : a.eval x = .slice (some ad) 1 c) (hl : news.length = 1 * size) (hnews : ∀ j u, news[j]? = some u → w.cell? (ad.add j) = some u) (h1 : ∀ u ∈ news, u.oneCell' = true)
    (h63 : n + 1 ≤ maxLen) (hbytes : (n + 1) * bytes ≤ 140737488355328) (hbase : base ≤ w.heap.size)
    (h : ∀ v' w', w'.ownsRow base e size v' (n + 1) (xs ++ news) → w.grownBy w' v.ownBlock → (v'.ownBlock = v.ownBlock ∨ v'.ownBlock = some w.heap.size) → wpList P ops Q rest (a.put o.dst v') w') : wpList P ops Q (o :: rest) a w := by
  refine wpList_plain hgd fun K hK => ?_
  obtain ⟨v', w', hrun, r1, r2, r3⟩ := run_append_ownE (P := P) w base t o.type e i z size bytes ht hi hz hsize hby hzs hsz v n xs hown ad c news hl hnews h1 h63 hbytes hbase
  unfold Oper.wp
  simp [execOp, ho, resolve, invoke, builtin, hs, hx, hrun, Result.andThen]
  exact hK _ _ (h v' w' r1 r2 r3)

theorem below_grownE {W W' : World} {r : Option Nat} (hb : Below W.heap.size W W') : W.grownBy W' r := ⟨hb.os, hb.tape, hb.output, hb.size, fun k hk _ => hb.block k hk⟩

def edCells (e : Ed) : List Value := [.int .i64 e.kind, .int .i64 e.at', .int .i64 e.many, .string e.text]
def flatE (l : List Ed) : List Value := l.flatMap edCells
theorem flatE_len (l : List Ed) : (flatE l).length = l.length * 4 := by
  unfold flatE; induction l with
  | nil => rfl
  | cons s l ih => simp only [List.flatMap_cons, List.length_append, ih, List.length_cons, edCells, List.length_nil]; omega
theorem flatE_append (l m : List Ed) : flatE (l ++ m) = flatE l ++ flatE m := by unfold flatE; simp
theorem flatE_single (e : Ed) : flatE [e] = edCells e := by unfold flatE; simp
theorem flatE_one (l : List Ed) : ∀ u ∈ flatE l, u.oneCell' = true := by
  intro u hu
  unfold flatE at hu
  rw [List.mem_flatMap] at hu
  obtain ⟨s, _, hs⟩ := hu
  simp only [edCells, List.mem_cons, List.not_mem_nil, or_false] at hs
  rcases hs with rfl | rfl | rfl | rfl <;> rfl
theorem flatE_last (l : List Ed) (e : Ed) (j : Nat) : (flatE (l ++ [e]))[l.length * 4 + j]? = (edCells e)[j]? := by
  rw [flatE_append, flatE_single, List.getElem?_append_right (by rw [flatE_len]; omega), flatE_len]
  congr 1; omega
theorem flatE_many (l : List Ed) (e : Ed) (m : Int) : (flatE (l ++ [e])).set (l.length * 4 + 2) (.int .i64 m) = flatE (l ++ [{ e with many := m }]) := by
  rw [flatE_append, flatE_single, flatE_append, flatE_single, List.set_append_right _ _ (by rw [flatE_len]; omega), flatE_len, show l.length * 4 + 2 - l.length * 4 = 2 by omega]
  rfl
theorem flatE_text (l : List Ed) (e : Ed) (t : ByteArray) : (flatE (l ++ [e])).set (l.length * 4 + 3) (.string t) = flatE (l ++ [{ e with text := t }]) := by
  rw [flatE_append, flatE_single, flatE_append, flatE_single, List.set_append_right _ _ (by rw [flatE_len]; omega), flatE_len, show l.length * 4 + 3 - l.length * 4 = 3 by omega]
  rfl

def tkEd (g : Nat × Nat) : Ed := ⟨2, (g.1 : Int), (g.2 : Int), ⟨#[]⟩⟩
def ptEd (g : Nat × List UInt8) : Ed := ⟨1, (g.1 : Int), 0, ⟨g.2.toArray⟩⟩

def OwnsE (w : World) (base : Nat) (v : Value) (l : List Ed) : Prop := w.ownsRow base 66 4 v l.length (flatE l)

theorem owns_sliceE {w : World} {base : Nat} {e : TypeId} {size : Nat} {v : Value} {n : Nat} {xs : List Value} (h : w.ownsRow base e size v n xs) : ∃ p cap, v = .slice p n cap := by
  rcases h.2 with ⟨rfl, rfl⟩ | ⟨g, cap, cur, rfl, _⟩
  · exact ⟨none, 0, rfl⟩
  · exact ⟨_, cap, rfl⟩

theorem owns_formE {w : World} {base : Nat} {e : TypeId} {size : Nat} {v : Value} {n : Nat} {xs : List Value} (h : w.ownsRow base e size v n xs) (hn : 0 < n) : ∃ g cap, v = .slice (some ⟨g, 0, none⟩) n cap ∧ base ≤ g ∧ ∀ o, w.frozen? ⟨g, o, none⟩ = false := by
  rcases h.2 with ⟨_, h0⟩ | ⟨g, cap, cur, rfl, hb, hh, _⟩
  · omega
  · exact ⟨g, cap, rfl, hb, fun o => by simp [World.frozen?, hh]⟩

theorem Tryz.info66 : ∃ i, Tryz.prog.info? 66 = some i ∧ i.zero = some (.agg #[.int .i64 0, .int .i64 0, .int .i64 0, .string ⟨#[]⟩]) ∧ i.size = 4 ∧ i.bytes = 40 := by
  have h : (Tryz.prog.info? 66).map (fun i => (i.zero, i.size, i.bytes)) = some (some (.agg #[.int .i64 0, .int .i64 0, .int .i64 0, .string ⟨#[]⟩]), 4, 40) := by kernel_rfl
  rw [Option.map_eq_some_iff] at h
  obtain ⟨i, hi, he⟩ := h
  simp only [Prod.mk.injEq] at he
  exact ⟨i, hi, he⟩

theorem ed_new (w : World) (e : Ed) : ∀ j u, (edCells e)[j]? = some u → (w.alloc (.cells #[.int .i64 e.kind, .int .i64 e.at', .int .i64 e.many, .string e.text] 66)).cell? ⟨w.heap.size, j, none⟩ = some u := by
  intro j u hj
  rw [World.cell?_alloc_new]
  simpa [edCells] using hj

set_option maxRecDepth 100000 in
set_option maxHeartbeats 4000000 in
theorem takeSign_ok (base : Nat) (v : Value) (R : List (Nat × Nat)) (p : Nat) (w : World) (_hp : p ≤ 1000) (hR : ∀ g ∈ R, g.1 + g.2 ≤ 1000) (hl : R.length ≤ 1000) (hbase : base ≤ w.heap.size) (h : OwnsE w base v (R.map tkEd).reverse) :
    Calls Tryz.prog 91 #[v, .int .i64 p] w fun e w' => ∃ v', e = .returned v' ∧ OwnsE w' base v' ((tkR R p).map tkEd).reverse ∧ w.grownBy w' v.ownBlock ∧ (v'.ownBlock = v.ownBlock ∨ ∃ g, v'.ownBlock = some g ∧ w.heap.size ≤ g) := by
  obtain ⟨i0, hi0, hz0, hz1, hz2⟩ := Tryz.info66
  unfold OwnsE at h
  rcases R with _ | ⟨⟨q, m⟩, R⟩
  · have HNE : Hid ((tkR [] p).map tkEd = [tkEd (p, 1)]) := rfl
    replace h : w.ownsRow base 66 4 v 0 [] := h
    obtain ⟨pp, c, rfl⟩ := owns_sliceE h
    go_enter Tryz.func91, Tryz.ntmps91
    go_upto_region 2 with fail
    refine wp_region_quiet_below (by kernel_rfl) (by kernel_rfl) ?_
    repeat (first | go_big_quiet_step (fail) | quiet_step (fail))
    refine wpQuiet_nil ?_
    intro _ hw'
    obtain ⟨⟨dq, osq⟩, hw''⟩ := hw'
    subst hw''
    have hbR := below_regrown w dq osq
    replace h := owns_below h hbR
    have hG1 : ∀ r, w.grownBy («Sort».grow (redrawn w dq) osq) r := fun r => below_grownE hbR
    have hsz1 := hbR.size
    have hbase1 := Nat.le_trans hbase hbR.size
    generalize «Sort».grow (redrawn w dq) osq = w1 at *
    have hown2 := h.alloc (Obj.cells #[.int .i64 2, .int .i64 (p : Int), .int .i64 1, .string ⟨#[]⟩] 66)
    have hG2 := fun r => (hG1 r).trans (World.grownBy_alloc w1 (Obj.cells #[.int .i64 2, .int .i64 (p : Int), .int .i64 1, .string ⟨#[]⟩] 66) r)
    have hRN := ed_new w1 (tkEd (p, 1))
    go_wp2_with (at_builtin; refine wpList_append_ownE rfl _ _ 52 rfl base 66 i0 (.agg #[.int .i64 0, .int .i64 0, .int .i64 0, .string ⟨#[]⟩]) 4 40 Tryz.underlying52 hi0 hz0 hz1 hz2 rfl (by decide) _ _ _ rfl hown2 ⟨w1.heap.size, 0, none⟩ 1 (edCells (tkEd (p, 1))) rfl rfl ?qa3 ?qa2 ?qa4 ?qa5 ?qa6 ?_)
    case qa3 => intro j u hj; first | (rw [Addr.add_lit, Nat.zero_add]; exact hRN j u hj) | exact hj
    case qa2 => exact fun u hu => flatE_one [(tkEd (p, 1))] u (by simpa [flatE] using hu)
    case qa4 => unfold maxLen; omega
    case qa5 => omega
    case qa6 => first | omega | (simp; omega)
    intro v' w5 hown5 hgrow hloc
    have HG := hidE ((hG2 _).trans hgrow)
    have HLOC := hidE (hloc.imp id (fun e => (⟨_, e, by first | omega | (simp; omega)⟩ : ∃ g, v'.ownBlock = some g ∧ w.heap.size ≤ g)))
    have HOW : Hid (OwnsE w5 base v' ((tkR [] p).map tkEd).reverse) := by
      show w5.ownsRow base 66 4 v' _ (flatE _)
      rw [HNE.out]
      exact hown5
    clear hown5 hgrow hown2 hRN h hloc hG2 hG1
    go_wp2_with fail
    go_ret
    exact ⟨v', rfl, HOW.out, HG.out, HLOC.out⟩
  · have el : ((((q, m) :: R).map tkEd).reverse) = (R.map tkEd).reverse ++ [tkEd (q, m)] := by simp
    rw [el] at h
    have hlen : ((R.map tkEd).reverse ++ [tkEd (q, m)]).length = R.length + 1 := by simp
    have hl0 : ((R.map tkEd).reverse).length = R.length := by simp
    have hq := hR (q, m) (by simp)
    dsimp only at hq
    have hl1 : R.length ≤ 1000 := by simp at hl; omega
    have k1 := flatE_last (R.map tkEd).reverse (tkEd (q, m)) 1
    have k2 := flatE_last (R.map tkEd).reverse (tkEd (q, m)) 2
    have HSM := hidE (flatE_many (R.map tkEd).reverse (tkEd (q, m)) ((m : Int) + 1))
    rw [hl0] at k1 k2 HSM
    rw [hlen] at h
    obtain ⟨g, c, rfl, hg, hfz⟩ := owns_formE h (by omega)
    have c1 : w.cell? ⟨g, R.length * 4 + 1, none⟩ = some (.int .i64 (q : Int)) := (h.cellAt (R.length * 4 + 1) (by omega)).trans k1
    have c2 : w.cell? ⟨g, R.length * 4 + 2, none⟩ = some (.int .i64 (m : Int)) := (h.cellAt (R.length * 4 + 2) (by omega)).trans k2
    have hgl : g < w.heap.size := block_lt_of_cell c1
    have r1 := cell_regrown c1
    have r2 := cell_regrown c2
    have hwn : IntKind.i64.wrap (((R.length + 1 : Nat) : Int) - 1) = (R.length : Int) := by rw [IntKind.wrap_i64] <;> omega
    have hws : IntKind.i64.wrap ((q : Int) + m) = (q : Int) + m := by rw [IntKind.wrap_i64] <;> omega
    have hwm : IntKind.i64.wrap ((m : Int) + 1) = (m : Int) + 1 := by rw [IntKind.wrap_i64] <;> omega
    have hix : (R.length : Int) < ((R.length + 1 : Nat) : Int) := by omega
    have hn0 : ((R.length + 1 : Nat) : Int) > 0 := by omega
    by_cases he : q + m = p
    · have heq : ((q : Int) + m == (p : Int)) = true := by rw [beq_iff_eq]; omega
      have HTK : Hid (((tkR ((q, m) :: R) p).map tkEd).reverse = (R.map tkEd).reverse ++ [{ tkEd (q, m) with many := (m : Int) + 1 }]) := by
        show _ = _
        rw [tkR_cons, if_pos he]
        simp [tkEd]
      clear el hlen hl0 hR k1 k2
      generalize (R.map tkEd).reverse = L at *
      go_enter Tryz.func91, Tryz.ntmps91
      go_upto_region 2 with fail
      refine wp_region_quiet_below (by kernel_rfl) (by kernel_rfl) ?_
      repeat (first | go_big_quiet_step (fail) | quiet_step (fail))
      refine wpQuiet_nil ?_
      intro _ hw'
      obtain ⟨⟨dq, osq⟩, hw''⟩ := hw'
      subst hw''
      have hbR := below_regrown w dq osq
      replace h := owns_below h hbR
      have hG1 : ∀ r, w.grownBy («Sort».grow (redrawn w dq) osq) r := fun r => below_grownE hbR
      have hsz1 := hbR.size
      have hbase1 := Nat.le_trans hbase hbR.size
      have s2 := r2 dq osq
      have sf : ∀ o, («Sort».grow (redrawn w dq) osq).frozen? ⟨g, o, none⟩ = false := fun o => (hbR.frozen (p := ⟨g, o, none⟩) hgl).trans (hfz o)
      clear r1 r2 c1 c2 hfz
      generalize «Sort».grow (redrawn w dq) osq = w1 at *
      obtain ⟨hset, hgs⟩ := h.stored (R.length * 4 + 2) (.int .i64 ((m : Int) + 1))
      rw [HSM.out] at hset
      have HOW : Hid (OwnsE (w1.setCell ⟨g, R.length * 4 + 2, none⟩ (.int .i64 ((m : Int) + 1))) base (.slice (some ⟨g, 0, none⟩) (R.length + 1) c) ((tkR ((q, m) :: R) p).map tkEd).reverse) := by
        show World.ownsRow _ base 66 4 _ _ (flatE _)
        rw [HTK.out]
        have e2 : (L ++ [{ tkEd (q, m) with many := (m : Int) + 1 }]).length = R.length + 1 := by
          have := congrArg List.length HTK.out
          rw [tkR_cons, if_pos he] at this
          simp at this
          simp [← this]
        rw [e2]; exact hset
      have HG := hidE ((hG1 (some g)).trans hgs)
      clear hset hgs h HSM hG1
      go_wp2_with fail
      go_ret
      exact ⟨_, rfl, HOW.out, HG.out, Or.inl rfl⟩
    · have heq : ((q : Int) + m == (p : Int)) = false := by rw [beq_eq_false_iff_ne]; omega
      have HTK : Hid (((tkR ((q, m) :: R) p).map tkEd).reverse = ((R.map tkEd).reverse ++ [tkEd (q, m)]) ++ [tkEd (p, 1)]) := by
        show _ = _
        rw [tkR_cons, if_neg he]
        simp
      have HLL : Hid (((R.map tkEd).reverse ++ [tkEd (q, m)]).length = R.length + 1) := hlen
      clear el hlen hl0 hR k1 k2 HSM hfz c1 c2
      generalize (R.map tkEd).reverse ++ [tkEd (q, m)] = L at *
      go_enter Tryz.func91, Tryz.ntmps91
      go_upto_region 2 with fail
      refine wp_region_quiet_below (by kernel_rfl) (by kernel_rfl) ?_
      repeat (first | go_big_quiet_step (fail) | quiet_step (fail))
      refine wpQuiet_nil ?_
      intro _ hw'
      obtain ⟨⟨dq, osq⟩, hw''⟩ := hw'
      subst hw''
      have hbR := below_regrown w dq osq
      replace h := owns_below h hbR
      have hG1 : ∀ r, w.grownBy («Sort».grow (redrawn w dq) osq) r := fun r => below_grownE hbR
      have hsz1 := hbR.size
      have hbase1 := Nat.le_trans hbase hbR.size
      generalize «Sort».grow (redrawn w dq) osq = w1 at *
      have hown2 := h.alloc (Obj.cells #[.int .i64 2, .int .i64 (p : Int), .int .i64 1, .string ⟨#[]⟩] 66)
      have hG2 := fun r => (hG1 r).trans (World.grownBy_alloc w1 (Obj.cells #[.int .i64 2, .int .i64 (p : Int), .int .i64 1, .string ⟨#[]⟩] 66) r)
      have hRN := ed_new w1 (tkEd (p, 1))
      go_wp2_with (at_builtin; refine wpList_append_ownE rfl _ _ 52 rfl base 66 i0 (.agg #[.int .i64 0, .int .i64 0, .int .i64 0, .string ⟨#[]⟩]) 4 40 Tryz.underlying52 hi0 hz0 hz1 hz2 rfl (by decide) _ _ _ rfl hown2 ⟨w1.heap.size, 0, none⟩ 1 (edCells (tkEd (p, 1))) rfl rfl ?qa3 ?qa2 ?qa4 ?qa5 ?qa6 ?_)
      case qa3 => intro j u hj; first | (rw [Addr.add_lit, Nat.zero_add]; exact hRN j u hj) | exact hj
      case qa2 => exact fun u hu => flatE_one [(tkEd (p, 1))] u (by simpa [flatE] using hu)
      case qa4 => unfold maxLen; omega
      case qa5 => omega
      case qa6 => first | omega | (simp; omega)
      intro v' w5 hown5 hgrow hloc
      have HG := hidE ((hG2 _).trans hgrow)
      have HLOC := hidE (hloc.imp id (fun e => (⟨_, e, by first | omega | (simp; omega)⟩ : ∃ g, v'.ownBlock = some g ∧ w.heap.size ≤ g)))
      have HOW : Hid (OwnsE w5 base v' ((tkR ((q, m) :: R) p).map tkEd).reverse) := by
        show w5.ownsRow base 66 4 v' _ (flatE _)
        rw [HTK.out, List.length_append, flatE_append, HLL.out]
        exact hown5
      clear hown5 hgrow hown2 hRN h hloc hG2 hG1
      go_wp2_with fail
      go_ret
      exact ⟨v', rfl, HOW.out, HG.out, HLOC.out⟩
set_option maxRecDepth 100000 in
set_option maxHeartbeats 4000000 in
theorem putSign_ok (base : Nat) (v : Value) (R : List (Nat × List UInt8)) (p : Nat) (cc : UInt8) (w : World) (_hp : p ≤ 1000) (hR : ∀ g ∈ R, g.1 ≤ 1000 ∧ g.2.length ≤ 60) (hl : R.length ≤ 1000) (hbase : base ≤ w.heap.size) (h : OwnsE w base v (R.map ptEd).reverse) :
    Calls Tryz.prog 93 #[v, .int .i64 p, .string ⟨#[cc]⟩] w fun e w' => ∃ v', e = .returned v' ∧ OwnsE w' base v' ((ptR R p cc).map ptEd).reverse ∧ w.grownBy w' v.ownBlock ∧ (v'.ownBlock = v.ownBlock ∨ ∃ g, v'.ownBlock = some g ∧ w.heap.size ≤ g) := by
  obtain ⟨i0, hi0, hz0, hz1, hz2⟩ := Tryz.info66
  unfold OwnsE at h
  rcases R with _ | ⟨⟨q, t⟩, R⟩
  · have HNE : Hid ((ptR [] p cc).map ptEd = [ptEd (p, [cc])]) := rfl
    replace h : w.ownsRow base 66 4 v 0 [] := h
    obtain ⟨pp, c, rfl⟩ := owns_sliceE h
    go_enter Tryz.func93, Tryz.ntmps93
    go_upto_region 2 with fail
    refine wp_region_quiet_below (by kernel_rfl) (by kernel_rfl) ?_
    repeat (first | go_big_quiet_step (fail) | quiet_step (fail))
    refine wpQuiet_nil ?_
    intro _ hw'
    obtain ⟨⟨dq, osq⟩, hw''⟩ := hw'
    subst hw''
    have hbR := below_regrown w dq osq
    replace h := owns_below h hbR
    have hG1 : ∀ r, w.grownBy («Sort».grow (redrawn w dq) osq) r := fun r => below_grownE hbR
    have hsz1 := hbR.size
    have hbase1 := Nat.le_trans hbase hbR.size
    generalize «Sort».grow (redrawn w dq) osq = w1 at *
    have hown2 := h.alloc (Obj.cells #[.int .i64 1, .int .i64 (p : Int), .int .i64 0, .string ⟨#[cc]⟩] 66)
    have hG2 := fun r => (hG1 r).trans (World.grownBy_alloc w1 (Obj.cells #[.int .i64 1, .int .i64 (p : Int), .int .i64 0, .string ⟨#[cc]⟩] 66) r)
    have hRN := ed_new w1 (ptEd (p, [cc]))
    go_wp2_with (at_builtin; refine wpList_append_ownE rfl _ _ 52 rfl base 66 i0 (.agg #[.int .i64 0, .int .i64 0, .int .i64 0, .string ⟨#[]⟩]) 4 40 Tryz.underlying52 hi0 hz0 hz1 hz2 rfl (by decide) _ _ _ rfl hown2 ⟨w1.heap.size, 0, none⟩ 1 (edCells (ptEd (p, [cc]))) rfl rfl ?qa3 ?qa2 ?qa4 ?qa5 ?qa6 ?_)
    case qa3 => intro j u hj; first | (rw [Addr.add_lit, Nat.zero_add]; exact hRN j u hj) | exact hj
    case qa2 => exact fun u hu => flatE_one [(ptEd (p, [cc]))] u (by simpa [flatE] using hu)
    case qa4 => unfold maxLen; omega
    case qa5 => omega
    case qa6 => first | omega | (simp; omega)
    intro v' w5 hown5 hgrow hloc
    have HG := hidE ((hG2 _).trans hgrow)
    have HLOC := hidE (hloc.imp id (fun e => (⟨_, e, by first | omega | (simp; omega)⟩ : ∃ g, v'.ownBlock = some g ∧ w.heap.size ≤ g)))
    have HOW : Hid (OwnsE w5 base v' ((ptR [] p cc).map ptEd).reverse) := by
      show w5.ownsRow base 66 4 v' _ (flatE _)
      rw [HNE.out]
      exact hown5
    clear hown5 hgrow hown2 hRN h hloc hG2 hG1
    go_wp2_with fail
    go_ret
    exact ⟨v', rfl, HOW.out, HG.out, HLOC.out⟩
  · have el : ((((q, t) :: R).map ptEd).reverse) = (R.map ptEd).reverse ++ [ptEd (q, t)] := by simp
    rw [el] at h
    have hlen : ((R.map ptEd).reverse ++ [ptEd (q, t)]).length = R.length + 1 := by simp
    have hl0 : ((R.map ptEd).reverse).length = R.length := by simp
    have hq := hR (q, t) (by simp)
    dsimp only at hq
    have hl1 : R.length ≤ 1000 := by simp at hl; omega
    have k1 := flatE_last (R.map ptEd).reverse (ptEd (q, t)) 1
    have k3 := flatE_last (R.map ptEd).reverse (ptEd (q, t)) 3
    have HSM := hidE (flatE_text (R.map ptEd).reverse (ptEd (q, t)) ((⟨t.toArray⟩ : ByteArray) ++ ⟨#[cc]⟩))
    rw [hl0] at k1 k3 HSM
    rw [hlen] at h
    obtain ⟨g, c, rfl, hg, hfz⟩ := owns_formE h (by omega)
    have c1 : w.cell? ⟨g, R.length * 4 + 1, none⟩ = some (.int .i64 (q : Int)) := (h.cellAt (R.length * 4 + 1) (by omega)).trans k1
    have c3 : w.cell? ⟨g, R.length * 4 + 3, none⟩ = some (.string ⟨t.toArray⟩) := (h.cellAt (R.length * 4 + 3) (by omega)).trans k3
    have hgl : g < w.heap.size := block_lt_of_cell c1
    have HTE : Hid ((⟨t.toArray⟩ : ByteArray) ++ ⟨#[cc]⟩ = ⟨(t ++ [cc]).toArray⟩) := by
      show _ = _
      apply ba_ext; rw [ba_append_list]
    have hts : (⟨t.toArray⟩ : ByteArray).size = t.length := by simp [ByteArray.size]
    generalize (⟨t.toArray⟩ : ByteArray) = tb at *
    have r1 := cell_regrown c1
    have r3 := cell_regrown c3
    have hwn : IntKind.i64.wrap (((R.length + 1 : Nat) : Int) - 1) = (R.length : Int) := by rw [IntKind.wrap_i64] <;> omega
    have hws : IntKind.i64.wrap ((q : Int) + tb.size) = (q : Int) + tb.size := by rw [IntKind.wrap_i64] <;> omega
    have hix : (R.length : Int) < ((R.length + 1 : Nat) : Int) := by omega
    have hn0 : ((R.length + 1 : Nat) : Int) > 0 := by omega
    have HTS := hidE hts
    have htb : tb.size ≤ 60 := by omega
    clear hts
    by_cases he : q + t.length = p
    · have heq : ((q : Int) + tb.size == (p : Int)) = true := by have := HTS.out; rw [beq_iff_eq]; omega
      by_cases h6 : t.length < 60
      · have h6b : (tb.size : Int) < 60 := by have := HTS.out; omega
        have HTK : Hid (((ptR ((q, t) :: R) p cc).map ptEd).reverse = (R.map ptEd).reverse ++ [{ ptEd (q, t) with text := tb ++ (⟨#[cc]⟩ : ByteArray) }]) := by
          show _ = _
          rw [ptR_cons, if_pos ⟨he, h6⟩, HTE.out]
          simp [ptEd]
        have HLL : Hid (((R.map ptEd).reverse ++ [{ ptEd (q, t) with text := tb ++ (⟨#[cc]⟩ : ByteArray) }]).length = R.length + 1) := by show _ = _; simp
        clear el hlen hl0 hR k1 k3 HTE
        generalize (R.map ptEd).reverse = L at *
        go_enter Tryz.func93, Tryz.ntmps93
        go_upto_region 2 with fail
        refine wp_region_quiet_below (by kernel_rfl) (by kernel_rfl) ?_
        repeat (first | go_big_quiet_step (fail) | quiet_step (fail))
        refine wpQuiet_nil ?_
        intro _ hw'
        obtain ⟨⟨dq, osq⟩, hw''⟩ := hw'
        subst hw''
        have hbR := below_regrown w dq osq
        replace h := owns_below h hbR
        have hG1 : ∀ r, w.grownBy («Sort».grow (redrawn w dq) osq) r := fun r => below_grownE hbR
        have hsz1 := hbR.size
        have hbase1 := Nat.le_trans hbase hbR.size
        have s2 := r3 dq osq
        have sf : ∀ o, («Sort».grow (redrawn w dq) osq).frozen? ⟨g, o, none⟩ = false := fun o => (hbR.frozen (p := ⟨g, o, none⟩) hgl).trans (hfz o)
        clear r1 r3 c1 c3 hfz
        generalize «Sort».grow (redrawn w dq) osq = w1 at *
        obtain ⟨hset, hgs⟩ := h.stored (R.length * 4 + 3) (.string (tb ++ ⟨#[cc]⟩))
        rw [HSM.out] at hset
        have HOW : Hid (OwnsE (w1.setCell ⟨g, R.length * 4 + 3, none⟩ (.string (tb ++ ⟨#[cc]⟩))) base (.slice (some ⟨g, 0, none⟩) (R.length + 1) c) ((ptR ((q, t) :: R) p cc).map ptEd).reverse) := by
          show World.ownsRow _ base 66 4 _ _ (flatE _)
          rw [HTK.out, HLL.out]; exact hset
        have HG := hidE ((hG1 (some g)).trans hgs)
        clear hset hgs h HSM hG1
        go_wp2_with fail
        go_ret
        exact ⟨_, rfl, HOW.out, HG.out, Or.inl rfl⟩
      · have h6b : ¬ ((tb.size : Int) < 60) := by have := HTS.out; omega
        have h6c : decide ((tb.size : Int) < 60) = false := decide_eq_false h6b
        have HTK : Hid (((ptR ((q, t) :: R) p cc).map ptEd).reverse = ((R.map ptEd).reverse ++ [ptEd (q, t)]) ++ [ptEd (p, [cc])]) := by
          show _ = _
          rw [ptR_cons, if_neg (by omega)]
          simp
        have HLL : Hid (((R.map ptEd).reverse ++ [ptEd (q, t)]).length = R.length + 1) := hlen
        clear el hlen hl0 hR k1 k3 HSM hfz c1 c3
        generalize (R.map ptEd).reverse ++ [ptEd (q, t)] = L at *
        go_enter Tryz.func93, Tryz.ntmps93
        go_upto_region 2 with fail
        refine wp_region_quiet_below (by kernel_rfl) (by kernel_rfl) ?_
        repeat (first | go_big_quiet_step (fail) | quiet_step (fail))
        refine wpQuiet_nil ?_
        intro _ hw'
        obtain ⟨⟨dq, osq⟩, hw''⟩ := hw'
        subst hw''
        have hbR := below_regrown w dq osq
        replace h := owns_below h hbR
        have hG1 : ∀ r, w.grownBy («Sort».grow (redrawn w dq) osq) r := fun r => below_grownE hbR
        have hsz1 := hbR.size
        have hbase1 := Nat.le_trans hbase hbR.size
        generalize «Sort».grow (redrawn w dq) osq = w1 at *
        have hown2 := h.alloc (Obj.cells #[.int .i64 1, .int .i64 (p : Int), .int .i64 0, .string ⟨#[cc]⟩] 66)
        have hG2 := fun r => (hG1 r).trans (World.grownBy_alloc w1 (Obj.cells #[.int .i64 1, .int .i64 (p : Int), .int .i64 0, .string ⟨#[cc]⟩] 66) r)
        have hRN := ed_new w1 (ptEd (p, [cc]))
        go_wp2_with (at_builtin; refine wpList_append_ownE rfl _ _ 52 rfl base 66 i0 (.agg #[.int .i64 0, .int .i64 0, .int .i64 0, .string ⟨#[]⟩]) 4 40 Tryz.underlying52 hi0 hz0 hz1 hz2 rfl (by decide) _ _ _ rfl hown2 ⟨w1.heap.size, 0, none⟩ 1 (edCells (ptEd (p, [cc]))) rfl rfl ?qa3 ?qa2 ?qa4 ?qa5 ?qa6 ?_)
        case qa3 => intro j u hj; first | (rw [Addr.add_lit, Nat.zero_add]; exact hRN j u hj) | exact hj
        case qa2 => exact fun u hu => flatE_one [(ptEd (p, [cc]))] u (by simpa [flatE] using hu)
        case qa4 => unfold maxLen; omega
        case qa5 => omega
        case qa6 => first | omega | (simp; omega)
        intro v' w5 hown5 hgrow hloc
        have HG := hidE ((hG2 _).trans hgrow)
        have HLOC := hidE (hloc.imp id (fun e => (⟨_, e, by first | omega | (simp; omega)⟩ : ∃ g, v'.ownBlock = some g ∧ w.heap.size ≤ g)))
        have HOW : Hid (OwnsE w5 base v' ((ptR ((q, t) :: R) p cc).map ptEd).reverse) := by
          show w5.ownsRow base 66 4 v' _ (flatE _)
          rw [HTK.out, List.length_append, flatE_append, HLL.out]
          exact hown5
        clear hown5 hgrow hown2 hRN h hloc hG2 hG1
        go_wp2_with fail
        go_ret
        exact ⟨v', rfl, HOW.out, HG.out, HLOC.out⟩
    · have heq : ((q : Int) + tb.size == (p : Int)) = false := by have := HTS.out; rw [beq_eq_false_iff_ne]; omega
      have HTK : Hid (((ptR ((q, t) :: R) p cc).map ptEd).reverse = ((R.map ptEd).reverse ++ [ptEd (q, t)]) ++ [ptEd (p, [cc])]) := by
        show _ = _
        rw [ptR_cons, if_neg (by omega)]
        simp
      have HLL : Hid (((R.map ptEd).reverse ++ [ptEd (q, t)]).length = R.length + 1) := hlen
      clear el hlen hl0 hR k1 k3 HSM hfz c1 c3
      generalize (R.map ptEd).reverse ++ [ptEd (q, t)] = L at *
      go_enter Tryz.func93, Tryz.ntmps93
      go_upto_region 2 with fail
      refine wp_region_quiet_below (by kernel_rfl) (by kernel_rfl) ?_
      repeat (first | go_big_quiet_step (fail) | quiet_step (fail))
      refine wpQuiet_nil ?_
      intro _ hw'
      obtain ⟨⟨dq, osq⟩, hw''⟩ := hw'
      subst hw''
      have hbR := below_regrown w dq osq
      replace h := owns_below h hbR
      have hG1 : ∀ r, w.grownBy («Sort».grow (redrawn w dq) osq) r := fun r => below_grownE hbR
      have hsz1 := hbR.size
      have hbase1 := Nat.le_trans hbase hbR.size
      generalize «Sort».grow (redrawn w dq) osq = w1 at *
      have hown2 := h.alloc (Obj.cells #[.int .i64 1, .int .i64 (p : Int), .int .i64 0, .string ⟨#[cc]⟩] 66)
      have hG2 := fun r => (hG1 r).trans (World.grownBy_alloc w1 (Obj.cells #[.int .i64 1, .int .i64 (p : Int), .int .i64 0, .string ⟨#[cc]⟩] 66) r)
      have hRN := ed_new w1 (ptEd (p, [cc]))
      go_wp2_with (at_builtin; refine wpList_append_ownE rfl _ _ 52 rfl base 66 i0 (.agg #[.int .i64 0, .int .i64 0, .int .i64 0, .string ⟨#[]⟩]) 4 40 Tryz.underlying52 hi0 hz0 hz1 hz2 rfl (by decide) _ _ _ rfl hown2 ⟨w1.heap.size, 0, none⟩ 1 (edCells (ptEd (p, [cc]))) rfl rfl ?qa3 ?qa2 ?qa4 ?qa5 ?qa6 ?_)
      case qa3 => intro j u hj; first | (rw [Addr.add_lit, Nat.zero_add]; exact hRN j u hj) | exact hj
      case qa2 => exact fun u hu => flatE_one [(ptEd (p, [cc]))] u (by simpa [flatE] using hu)
      case qa4 => unfold maxLen; omega
      case qa5 => omega
      case qa6 => first | omega | (simp; omega)
      intro v' w5 hown5 hgrow hloc
      have HG := hidE ((hG2 _).trans hgrow)
      have HLOC := hidE (hloc.imp id (fun e => (⟨_, e, by first | omega | (simp; omega)⟩ : ∃ g, v'.ownBlock = some g ∧ w.heap.size ≤ g)))
      have HOW : Hid (OwnsE w5 base v' ((ptR ((q, t) :: R) p cc).map ptEd).reverse) := by
        show w5.ownsRow base 66 4 v' _ (flatE _)
        rw [HTK.out, List.length_append, flatE_append, HLL.out]
        exact hown5
      clear hown5 hgrow hown2 hRN h hloc hG2 hG1
      go_wp2_with fail
      go_ret
      exact ⟨v', rfl, HOW.out, HG.out, HLOC.out⟩
end Go.Proofs.YtnhjebdlcbhkcaeGreat
