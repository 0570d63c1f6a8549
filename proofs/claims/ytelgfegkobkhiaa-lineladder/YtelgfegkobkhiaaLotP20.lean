/-
  What a call leaves that may write several blocks. Package line as landed: the writer in memory; end, lay.
-/
import Derived.Test.YtelgfegkobkhiaaLotP2
import Derived.Test.YtelgfegkobkhiaaLotP19
import Derived.Test.YtelgfegkobkhiaaLnA
import Derived.Maps.OwnOps
import Derived.Maps.AppendAt
import Derived.Laws.AppendOwnNone
namespace Go.Proofs.Ytelgfegkobkhiaa
open Go.RowKit
set_option maxRecDepth 100000

/-- Nothing is written but new memory, and the blocks of S. -/
structure GB (w w' : World) (S : Nat → Prop) : Prop where
  os : w'.os = w.os
  tape : w'.tape = w.tape
  output : w'.output = w.output
  size : w.heap.size ≤ w'.heap.size
  block : ∀ i, i < w.heap.size → ¬ S i → w'.heap[i]? = w.heap[i]?

theorem GB.of {w w' : World} {row : Option Nat} {S : Nat → Prop} (h : w.grownBy w' row) (hs : ∀ x, row = some x → S x) : GB w w' S :=
  ⟨h.os, h.tape, h.output, h.size, fun i hi hn => h.block i hi (fun e => hn (hs i e.symm))⟩
theorem GB.non {w w' : World} {S : Nat → Prop} (h : w.grownBy w' none) : GB w w' S := GB.of h (fun x hx => by cases hx)
theorem GB.refl (w : World) (S : Nat → Prop) : GB w w S := ⟨rfl, rfl, rfl, Nat.le_refl _, fun _ _ _ => rfl⟩
theorem GB.trans {w w1 w2 : World} {S S' : Nat → Prop} (h : GB w w1 S) (k : GB w1 w2 S') (hs : ∀ x, x < w.heap.size → S' x → S x) : GB w w2 S :=
  ⟨k.os.trans h.os, k.tape.trans h.tape, k.output.trans h.output, Nat.le_trans h.size k.size, fun i hi hn => (k.block i (Nat.lt_of_lt_of_le hi h.size) (fun e => hn (hs i hi e))).trans (h.block i hi hn)⟩
theorem GB.mono {w w' : World} {S S' : Nat → Prop} (h : GB w w' S) (hs : ∀ x, S x → S' x) : GB w w' S' := ⟨h.os, h.tape, h.output, h.size, fun i hi hn => h.block i hi (fun e => hn (hs i e))⟩
/-- Where S lies in new memory alone. -/
theorem GB.grown {w w' : World} {S : Nat → Prop} (h : GB w w' S) (hs : ∀ x, x < w.heap.size → ¬ S x) : w.grownBy w' none := ⟨h.os, h.tape, h.output, h.size, fun i hi _ => h.block i hi (hs i hi)⟩
theorem GB.one {w w' : World} {S : Nat → Prop} {g : Nat} (h : GB w w' S) (hs : ∀ x, x < w.heap.size → S x → x = g) : w.grownBy w' (some g) := ⟨h.os, h.tape, h.output, h.size, fun i hi hn => h.block i hi (fun e => hn (congrArg some (hs i hi e)))⟩

theorem GB.vat {w w' : World} {S : Nat → Prop} {g t : Nat} {cs : Array Value} (h : GB w w' S) (A : VAt w g t cs) (hg : ¬ S g) : VAt w' g t cs := by
  have := h.block g A.lt hg
  unfold VAt at *
  rw [this, A]
theorem GB.owns {w w' : World} {S : Nat → Prop} {base e size n : Nat} {v : Value} {vs : List Value} (h : GB w w' S) (O : w.ownsRow base e size v n vs) (hv : ∀ x, v.ownBlock = some x → ¬ S x) : w'.ownsRow base e size v n vs := by
  refine ⟨O.1, ?_⟩
  rcases O.2 with h0 | ⟨g, cap, cur, hv', hb, hg, r⟩
  · exact .inl h0
  · right
    refine ⟨g, cap, cur, hv', hb, ?_, r⟩
    have hlt : g < w.heap.size := by
      by_cases hh : g < w.heap.size
      · exact hh
      · rw [Array.getElem?_eq_none (by omega)] at hg; cases hg
    rw [h.block g hlt (hv g (by rw [hv']; rfl)), hg]
theorem GB.cell {w w' : World} {S : Nat → Prop} {ad : Addr} {v : Value} (h : GB w w' S) (hc : w.cell? ad = some v) (ha : ¬ S ad.block) (hlt : ad.block < w.heap.size) : w'.cell? ad = some v := by
  have := h.block ad.block hlt ha
  unfold World.cell? at *
  rw [this]
  exact hc
theorem GB.cells {w w' : World} {S : Nat → Prop} {ao : Option Addr} {xs : List UInt8} (h : GB w w' S) (hc : Cells w ao xs) (ha : ∀ ad, ao = some ad → xs ≠ [] → ¬ S ad.block) : Cells w' ao xs := by
  have hu := hc.under
  refine hc.same fun b off i hb hi => ?_
  have hne : xs ≠ [] := by
    intro e
    rw [e] at hi
    simp at hi
  have h1 := ha _ hb hne
  have h2 := hu _ hb hne
  have := h.block b h2 h1
  unfold World.cell?
  simp only [this]

end Go.Proofs.Ytelgfegkobkhiaa

namespace Go.Proofs.Ytelgfegkobkhiaa
open Go.RowKit
open Go.Maps
set_option maxRecDepth 100000

theorem append_two {P : Program} {w : World} {t t' e : TypeId} (ht : P.underlying t = some (.slice e)) (ht' : P.underlying t' = some (.slice e)) (ty : TypeId) (v x : Value) : (Builtin.append_ #[t, t'] ty #[v, x]).run P w = (Builtin.append_ #[t, t] ty #[v, x]).run P w := by
  unfold Builtin.append_
  simp only [List.getElem?_toArray, List.getElem?_cons_zero, List.getElem?_cons_succ, Sem.run_bind, run_underlying ht, Result.andThen_ok]
  cases v with
  | slice base l c => simp only [Sem.run_bind, run_underlying ht, run_underlying ht', Result.andThen_ok]
  | _ => rfl

/-- Elements appended to a list of a named type, and where they lie. -/
theorem wpList_append_own2 {P : Program} {w : World} {ops : Array Oper} {rest : List Oper} {o : Oper} {a : Act} {Q : Exit → Act → World → Prop} (hgd : o.guard = none) (s x : Operand) (t t' : TypeId)
    (ho : o.op = .call { callee := .builtin .append, args := #[s, x], argTypes := #[t, t'] })
    (e : TypeId) (i : TypeInfo) (z : Value) (size bytes : Nat) (ht : P.underlying t = some (.slice e)) (ht' : P.underlying t' = some (.slice e)) (hi : P.info? e = some i) (hz : i.zero = some z) (hsize : i.size = size) (hby : i.bytes = bytes) (hzs : z.cells.size = size) (hsz : 0 < size)
    (base : Nat) (v : Value) (n : Nat) (vs : List Value) (hs : a.eval s = v) (hown : w.ownsRow base e size v n vs)
    (ad : Addr) (m c : Nat) (us : List Value) (hx : a.eval x = .slice (some ad) m c) (hl : us.length = m * size) (hus : CV w (some ad) us) (h1 : ∀ u ∈ us, u.oneCell' = true)
    (h63 : n + m ≤ maxLen) (hbytes : (n + m) * bytes ≤ 140737488355328) (hbase : base ≤ w.heap.size)
    (h : ∀ v' w', w'.ownsRow base e size v' (n + m) (vs ++ us) → w.grownBy w' v.ownBlock → (v'.ownBlock = v.ownBlock ∨ v'.ownBlock = some w.heap.size) → wpList P ops Q rest (a.put o.dst v') w') : wpList P ops Q (o :: rest) a w :=
  wpList_plain hgd fun _ hK => by
    obtain ⟨v', w', hr, h2, h3, _, h5⟩ := run_append_own_at (P := P) w base t o.type e i z size bytes ht hi hz hsize hby hzs hsz v n vs hown ad m c us hl (by
      intro j u hj
      obtain ⟨hlt, e⟩ := List.getElem?_eq_some_iff.1 hj
      rw [hus.2 ad rfl j hlt, e]) h1 h63 hbytes hbase
    unfold Oper.wp execOp
    simp only [ho, resolve, invoke, builtin, append_two ht ht', Sem.run_bind, Sem.run_pure, Result.andThen_ok, List.map_toArray, List.map_cons, List.map_nil, hs, hx, hr]
    exact hK _ _ (h v' w' h2 h3 h5)
theorem wpList_append_none2 {P : Program} {w : World} {ops : Array Oper} {rest : List Oper} {o : Oper} {a : Act} {Q : Exit → Act → World → Prop} (hgd : o.guard = none) (s x : Operand) (t t' : TypeId)
    (ho : o.op = .call { callee := .builtin .append, args := #[s, x], argTypes := #[t, t'] })
    (base : Nat) (e : TypeId) (i : TypeInfo) (size : Nat) (ht : P.underlying t = some (.slice e)) (ht' : P.underlying t' = some (.slice e)) (hi : P.info? e = some i)
    (v : Value) (n : Nat) (xs : List Value) (hs : a.eval s = v) (hown : w.ownsRow base e size v n xs) (hx : a.eval x = .slice none 0 0)
    (h : wpList P ops Q rest (a.put o.dst v) w) : wpList P ops Q (o :: rest) a w := by
  refine wpList_plain hgd fun K hK => ?_
  have hrun := run_append_owned_none (P := P) (w := w) base t o.type e i size ht hi v n xs hown
  unfold Oper.wp
  simp [execOp, ho, resolve, invoke, builtin, append_two ht ht', hs, hx, hrun, Result.andThen]
  exact hK _ _ h

theorem info_insn18 : ∃ i, Try.prog.info? 45 = some i ∧ i.zero = some (.agg #[.int .u16 0, .int .u8 0, .int .u8 0, .int .u32 0]) ∧ i.size = 4 ∧ i.bytes = 8 := by
  have h : (Try.prog.info? 45).map (fun i => (i.zero, i.size, i.bytes)) = some (some (.agg #[.int .u16 0, .int .u8 0, .int .u8 0, .int .u32 0]), 4, 8) := by kernel_rfl
  cases e : Try.prog.info? 45 with
  | none => rw [e] at h; cases h
  | some i =>
    rw [e] at h
    have h2 := Option.some.inj h
    exact ⟨i, rfl, congrArg Prod.fst h2, congrArg (fun p => p.2.1) h2, congrArg (fun p => p.2.2) h2⟩

theorem pend_any (w : World) (W n ca : Nat) (a : Option Addr) (hc : w.cell? ⟨W, 0, none⟩ = some (.slice a n ca)) :
    Calls Try.prog 37 #[.pointer (some ⟨W, 0, none⟩)] w fun e w' => e = .returned (.int .i64 (n : Int)) ∧ w = w' := by
  go_enter Try.func37, Try.ntmps37
  go_wp2
  go_ret
  exact ⟨rfl, rfl⟩

/-- What is left of a writer whose program grew. -/
structure LayW (w w' : World) (base W : Nat) (pv mv jv : Value) (prog : List In) : Prop where
  out : ∃ pv', VAt w' W 55 #[pv', mv, jv] ∧ IOwns w' base pv' prog
  fr : GB w w' (fun x => x = W ∨ pv.ownBlock = some x)

theorem own_slice {w : World} {base e size n : Nat} {v : Value} {vs : List Value} (h : w.ownsRow base e size v n vs) : ∃ a ca, v = .slice a n ca := by
  rcases h.2 with ⟨rfl, rfl⟩ | ⟨g, cap, cur, rfl, -⟩
  · exact ⟨_, _, rfl⟩
  · exact ⟨_, _, rfl⟩

set_option maxHeartbeats 2000000 in
theorem play_any (w : World) (base W : Nat) (pv mv jv : Value) (prog code : List In) (a : Option Addr) (ca : Nat) (V : VAt w W 55 #[pv, mv, jv]) (O : IOwns w base pv prog) (hc : CV w a (flat code)) (hn : a = none → code.length = 0 ∧ ca = 0) (hb : base ≤ w.heap.size) (hl : prog.length + code.length ≤ 1000000) :
    Calls Try.prog 38 #[.pointer (some ⟨W, 0, none⟩), .slice a code.length ca] w fun e w' => e = .returned (.tuple #[]) ∧ LayW w w' base W pv mv jv (prog ++ code) := by
  obtain ⟨i0, hi, hz0, hz1, hz2⟩ := info_insn18
  have hne : (45 : Nat) ≠ 55 := by decide
  have c0 : w.cell? ⟨W, 0, none⟩ = some pv := V.cell 0
  have f0 : w.frozen? ⟨W, 0, none⟩ = false := V.free 0
  have HV : Hid (VAt w W 55 #[pv, mv, jv]) := V
  have HO : Hid (IOwns w base pv prog) := O
  have HC : Hid (CV w a (flat code)) := hc
  have HL : Hid (prog.length + code.length ≤ 1000000) := hl
  have HB : Hid (base ≤ w.heap.size) := hb
  clear V O hc hl hb
  cases a with
  | none =>
    obtain ⟨h0, rfl⟩ := hn rfl
    have hcode : code = [] := List.eq_nil_of_length_eq_zero h0
    subst hcode
    clear hn h0
    rw [List.append_nil]
    show Calls Try.prog 38 #[.pointer (some ⟨W, 0, none⟩), .slice none 0 0] w _
    obtain ⟨a1, k1, rfl⟩ := own_slice HO.out
    go_enter Try.func38, Try.ntmps38
    go_wp2_with (at_builtin; refine wpList_append_none2 rfl (.tmp 7) (.tmp 8) 52 26 rfl base 45 i0 4 Try.underlying52 Try.underlying26 hi _ prog.length (flat prog) rfl HO.out rfl ?_)
    have V2 := HV.out.set 0 (.slice a1 prog.length k1)
    have G2 : w.grownBy (w.setCell ⟨W, 0, none⟩ (.slice a1 prog.length k1)) (some W) := grown_setCell (World.grownBy.refl _ _) _ _ (.inl rfl)
    go_end0
    exact ⟨rfl, ⟨⟨_, V2, own_kept HO.out G2 (own_vat HO.out HV.out hne)⟩, GB.of G2 (fun x hx => .inl (Option.some.inj hx).symm)⟩⟩
  | some ad =>
    clear hn
    obtain ⟨a1, k1, rfl⟩ := own_slice HO.out
    go_enter Try.func38, Try.ntmps38
    go_wp2_with (at_builtin; refine wpList_append_own2 rfl (.tmp 7) (.tmp 8) 52 26 rfl 45 i0 _ 4 8 Try.underlying52 Try.underlying26 hi hz0 hz1 hz2 rfl (by decide) base _ prog.length (flat prog) rfl HO.out ad code.length ca (flat code) rfl ?q1 HC.out ?q2 ?q3 ?q4 HB.out ?q5)
    case q1 => exact flat_len code
    case q2 => exact flat_one code
    case q3 => unfold maxLen; have := HL.out; omega
    case q4 => have := HL.out; omega
    case q5 =>
      intro v2 w2 O2 K2 B2
      have hW : ¬ (Value.slice a1 prog.length k1).ownBlock = some W := own_vat HO.out HV.out hne
      have V1 : VAt w2 W 55 #[.slice a1 prog.length k1, mv, jv] := HV.out.grown K2 hW
      have O3 : IOwns w2 base v2 (prog ++ code) := by
        show w2.ownsRow base _ 4 v2 (prog ++ code).length (flat (prog ++ code))
        rw [List.length_append, flat_append]
        exact O2
      have hv2 : ¬ v2.ownBlock = some W := own_vat O3 V1 hne
      obtain ⟨a2, k2, rfl⟩ := own_slice O2
      have y0 : w2.cell? ⟨W, 0, none⟩ = some (.slice a1 prog.length k1) := V1.cell 0
      have y1 : w2.frozen? ⟨W, 0, none⟩ = false := V1.free 0
      have V2 := V1.set 0 (.slice a2 (prog.length + code.length) k2)
      have G2 : w2.grownBy (w2.setCell ⟨W, 0, none⟩ (.slice a2 (prog.length + code.length) k2)) (some W) := grown_setCell (World.grownBy.refl _ _) _ _ (.inl rfl)
      have F : GB w (w2.setCell ⟨W, 0, none⟩ (.slice a2 (prog.length + code.length) k2)) (fun x => x = W ∨ (Value.slice a1 prog.length k1).ownBlock = some x) := GB.trans (GB.of K2 (fun x hx => .inr hx)) (GB.of (S := fun x => x = W) G2 (fun x hx => (Option.some.inj hx).symm)) (fun x _ hx => .inl hx)
      have HR : Hid (LayW w (w2.setCell ⟨W, 0, none⟩ (.slice a2 (prog.length + code.length) k2)) base W (.slice a1 prog.length k1) mv jv (prog ++ code)) := ⟨⟨_, V2, own_kept O3 G2 hv2⟩, F⟩
      clear V1 O3 hv2 hW O2 K2 B2 V2 G2 F
      go_wp2
      go_end0
      exact ⟨rfl, HR.out⟩

end Go.Proofs.Ytelgfegkobkhiaa
