/-
  Join: the bytes of all parts, in new memory.
-/
import Derived.Test.YtaldhnionkacmabSum
namespace Go.Proofs.Ytaldhnionkacmab
open Go.RowKit
set_option maxRecDepth 100000

theorem info22 : (Try.prog.info? 22).map (fun i => (i.zero, i.size, i.bytes)) = some (some (.int .u32 0), 1, 4) := by kernel_rfl

/-- One list of bytes among many: where it lies, its capacity, its bytes. -/
structure Part where
  ao : Option Addr
  cap : Nat
  bs : List UInt8

def Part.v (p : Part) : Value := .slice p.ao p.bs.length p.cap

/-- It can be read. -/
def Part.ok (p : Part) (w : World) : Prop := Cells w p.ao p.bs ∧ (p.ao = none → p.cap = 0)

def joinS (ps : List Part) : List UInt8 := ps.flatMap (·.bs)

theorem joinS_succ (ps : List Part) (k : Nat) (hk : k < ps.length) : joinS (ps.take (k + 1)) = joinS (ps.take k) ++ ps[k].bs := by
  rw [List.take_succ_eq_append_getElem hk]; simp only [joinS, List.flatMap_append, List.flatMap_cons, List.flatMap_nil, List.append_nil]

theorem joinS_append (ps qs : List Part) : joinS (ps ++ qs) = joinS ps ++ joinS qs := by simp only [joinS, List.flatMap_append]

theorem joinS_le (ps : List Part) (k : Nat) : (joinS (ps.take k)).length ≤ (joinS ps).length := by
  have h := joinS_append (ps.take k) (ps.drop k)
  rw [List.take_append_drop] at h
  rw [h, List.length_append]
  omega

theorem CV.parts {w : World} {ao : Option Addr} {ps : List Part} (h : CV w ao (ps.map Part.v)) {k : Nat} (hk : k < ps.length) :
    ∃ b off, ao = some ⟨b, off, none⟩ ∧ ∀ i (hi : i < ps.length), w.cell? ⟨b, off + i, none⟩ = some (.slice ps[i].ao ps[i].bs.length ps[i].cap) := by
  obtain ⟨b, off, hao, hc⟩ := h.addr (k := k) (by simpa using hk)
  refine ⟨b, off, hao, fun i hi => ?_⟩
  rw [hc i (by simpa using hi)]
  simp [Part.v]

/-- The list of sizes while it is filled. -/
def SizesRel (w : World) (g n : Nat) (wr : World) : Prop :=
  ∃ xs : List UInt32, xs.length = n ∧ wr.ownsRow w.heap.size 22 1 (.slice (some ⟨g, 0, none⟩) n n) n (xs.map wv) ∧ w.grownBy wr none

theorem SizesRel.store {w wr : World} {g n : Nat} (h : SizesRel w g n wr) (i : Nat) (m : Nat) : SizesRel w g n (wr.setCell ⟨g, i, none⟩ (.int .u32 ((m : Int) % 4294967296))) := by
  obtain ⟨xs, hx, ho, hg⟩ := h
  refine ⟨xs.set i (UInt32.ofNat m), by simpa using hx, ?_, ?_⟩
  · have := ho.stored i (.int .u32 ((m : Int) % 4294967296))
    rw [List.map_set]
    have e : wv (UInt32.ofNat m) = .int .u32 ((m : Int) % 4294967296) := by simp [wv]
    rw [e]
    exact this.1
  · exact grown_setCell hg _ _ (.inr (ho.lt g rfl).1)

theorem SizesRel.cell {w wr : World} {g n : Nat} (h : SizesRel w g n wr) {i : Nat} (hi : i < n) : ∃ u, wr.cell? ⟨g, i, none⟩ = some u := by
  obtain ⟨xs, hx, ho, hg⟩ := h
  have := ho.cellAt i (by omega)
  refine ⟨wv (xs[i]'(by omega)), ?_⟩
  rw [this]
  simp [show i < xs.length by omega]

theorem SizesRel.free {w wr : World} {g n : Nat} (h : SizesRel w g n wr) (i : Nat) : wr.frozen? ⟨g, i, none⟩ = false := by
  obtain ⟨xs, hx, ho, hg⟩ := h
  exact ho.frozenAt i

theorem Part.ok.kept {p : Part} {w w' : World} (h : p.ok w) (hg : w.grownBy w' none) : p.ok w' := ⟨h.1.keptNone hg, h.2⟩

set_option maxHeartbeats 1000000 in
theorem wjoin_any (a : Option Addr) (ca : Nat) (ps : List Part) (w : World) (ha : CV w a (ps.map Part.v)) (hp : ∀ p ∈ ps, p.ok w) (hn : ps.length ≤ 1099511627776) (hm : (joinS ps).length ≤ 140737488355328) :
    Calls Try.prog 10 #[.slice a ps.length ca] w fun e w' => ∃ v, e = .returned v ∧ Owns w' w.heap.size v (joinS ps) ∧ w.grownBy w' none := by
  obtain ⟨i0, hi, hz0, hz1, hz2⟩ := info_parts info5
  obtain ⟨i1, ji, jz0, jz1, jz2⟩ := info_parts info22
  have HA : Hid (CV w a (ps.map Part.v)) := ha
  have HP : Hid (∀ p ∈ ps, p.ok w) := hp
  clear ha hp
  go_enter Try.func10, Try.ntmps10
  go_wp2_with (at_make; refine wpList_make_full _ rfl (.tmp 10) (.tmp 10) 51 rfl w.heap.size 22 i1 (.int .u32 0) 1 Try.underlying51 ji jz0 jz1 .i64 .i64 (ps.length : Int) (ps.length : Int) ps.length rfl rfl rfl rfl ?q1 ?q2 ?q3 ?q4)
  case q1 => rw [jz2]; omega
  case q2 => unfold maxLen; omega
  case q3 => exact Nat.le_refl _
  case q4 =>
    intro w1 h1 h2
    have R : SizesRel w w.heap.size ps.length w1 := by
      refine ⟨List.replicate ps.length 0, by simp, ?_, h2⟩
      rw [toList_madeCells_one] at h1
      simpa [wv] using h1
    clear h1 h2
    go_wp2
    go_loopw [14] (fun i wr => ∃ k : Nat, k ≤ ps.length ∧ i = .int .i64 k ∧ SizesRel w w.heap.size ps.length wr) (fun i _ => ps.length - (intOf i).toNat)
    case atStart => exact ⟨0, Nat.zero_le _, rfl, R⟩
    case round =>
      clear R
      obtain ⟨k, hk, rfl, R⟩ := hrel
      by_cases hlt : k < ps.length
      · obtain ⟨b, o, rfl, hc⟩ := HA.out.parts hlt
        have c0 := hc k hlt
        have hbl : b < w.heap.size := World.block_lt_of_cell? w _ c0
        have c1 : wr.cell? ⟨b, o + k, none⟩ = some (.slice ps[k].ao ps[k].bs.length ps[k].cap) := by
          obtain ⟨_, _, _, hg⟩ := R
          exact hg.cell c0 (by simp)
        obtain ⟨u, hu⟩ := R.cell hlt
        have hf := R.free k
        have R' := R.store k ps[k].bs.length
        have hlk : ps[k].bs.length ≤ (joinS ps).length := by
          have h1 := joinS_le ps (k + 1)
          rw [joinS_succ ps k hlt, List.length_append] at h1
          omega
        clear R hc c0
        go_wp2
        go_roundw
        case rel => exact ⟨k + 1, by omega, by go_num, R'⟩
        case measure => simp [intOf]; omega
      · obtain ⟨xs, hx, ho, hg⟩ := R
        obtain ⟨ao, cap, hv, hcv, _⟩ := CV.ofRow ho
        simp only [Value.slice.injEq] at hv
        obtain ⟨rfl, _, rfl⟩ := hv
        have HX : Hid (xs.length = ps.length) := hx
        have hxl : xs.length ≤ 140737488355328 := by omega
        have hsum : sumS xs ≤ 4294967295 := by unfold sumS; omega
        obtain rfl : k = ps.length := by omega
        clear hx ho
        go_wp2_with fail
        refine (sum_len _ _ _ xs HX.out _ hcv hxl).mono ?_
        rintro e w2 ⟨rfl, rfl⟩
        go_wp2_with (at_make; refine wpList_make_own _ rfl (.const (.int .i64 0)) (.tmp 28) 36 rfl w.heap.size 5 i0 (.int .u8 0) 1 Try.underlying36 hi hz0 hz1 .i64 .i64 _ (sumS xs) rfl rfl ?r1 ?r2 ?r3 ?r4 ?r5)
        case r1 => rfl
        case r2 => rw [hz2]; omega
        case r3 => unfold maxLen; omega
        case r4 => exact hg.size
        case r5 =>
          intro w3 h3 h4
          have G3 : w.grownBy w3 none := grown_trans hg h4
          clear hg h4 hcv hxl hlt hk
          have O3 : Owns w3 w.heap.size (.slice (some ⟨wr.heap.size, 0, none⟩) 0 (sumS xs)) (joinS (ps.take 0)) := h3
          clear h3
          go_wp2
          go_loopw [6, 32] (fun v i wr => ∃ k : Nat, k ≤ ps.length ∧ i = .int .i64 k ∧ Owns wr w.heap.size v (joinS (ps.take k)) ∧ w.grownBy wr none) (fun _ i _ => ps.length - (intOf i).toNat)
          case atStart => exact ⟨0, Nat.zero_le _, rfl, O3, G3⟩
          case round =>
            clear O3 G3
            obtain ⟨k, hk, rfl, O, G⟩ := hrel
            by_cases hlt : k < ps.length
            · obtain ⟨b, o, rfl, hc⟩ := HA.out.parts hlt
              have c0 := hc k hlt
              have c1 : wr.cell? ⟨b, o + k, none⟩ = some (.slice ps[k].ao ps[k].bs.length ps[k].cap) := G.cell c0 (by simp)
              have hok := (HP.out ps[k] (List.getElem_mem hlt)).kept G
              have hlk : (joinS (ps.take k)).length + ps[k].bs.length ≤ (joinS ps).length := by
                have h1 := joinS_le ps (k + 1)
                rw [joinS_succ ps k hlt, List.length_append] at h1
                exact h1
              have HJ : Hid (joinS (ps.take (k + 1)) = joinS (ps.take k) ++ ps[k].bs) := joinS_succ ps k hlt
              have HO := O
              clear hc c0
              go_wp2_with (at_builtin; refine wpList_append_rd rfl (.tmp 36) (.tmp 37) 36 rfl i0 Try.underlying36 hi hz0 hz1 hz2 w.heap.size _ (joinS (ps.take k)) rfl ?s1 ps[k].ao ps[k].cap ps[k].bs rfl hok.2 hok.1 ?s3 ?s4 ?s5)
              case s1 => exact HO
              case s3 => omega
              case s4 => exact G.size
              case s5 =>
                intro v' w' h1 h2
                have G' : w.grownBy w' none := grown_trans_new G h2 (fun x hx => (HO.lt x hx).1)
                rw [← HJ.out] at h1
                clear h2 G HO O hok
                go_wp2
                go_roundw
                case rel => exact ⟨k + 1, by omega, by go_num, h1, G'⟩
                case measure => simp [intOf]; omega
            · obtain rfl : k = ps.length := by omega
              rw [List.take_length] at O
              go_wp2
              go_ret
              exact ⟨_, rfl, O, G⟩

end Go.Proofs.Ytaldhnionkacmab
