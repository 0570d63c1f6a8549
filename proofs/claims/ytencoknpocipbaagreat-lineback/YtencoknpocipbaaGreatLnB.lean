/-
  Package line as landed: the writer in memory; end, lay.
-/
import Derived.Test.YtencoknpocipbaaGreatLotP12
import Derived.Test.YtencoknpocipbaaGreatLotP14
import Derived.Maps.OwnOps
import Derived.Maps.AppendAt
import Derived.Laws.AppendOwnNone
namespace Go.Proofs.YtencoknpocipbaaGreat
open Go.RowKit
open Go.Maps
set_option maxRecDepth 100000

theorem append_two {P : Program} {w : World} {t t' e : TypeId} (ht : P.underlying t = some (.slice e)) (ht' : P.underlying t' = some (.slice e)) (ty : TypeId) (v x : Value) : (Builtin.append_ #[t, t'] ty #[v, x]).run P w = (Builtin.append_ #[t, t] ty #[v, x]).run P w := by
  unfold Builtin.append_
  simp only [List.getElem?_toArray, List.getElem?_cons_zero, List.getElem?_cons_succ, Sem.run_bind, run_underlying ht, Result.andThen_ok]
  cases v with
  | slice base l c => simp only [Sem.run_bind, run_underlying ht, run_underlying ht', Result.andThen_ok]
  | _ => rfl

/-- Elements appended to a list of a named type, and where they lie. -/
theorem wpList_append_own2 {P : Program} {w : World} {ops : Array Oper} {rest : List Oper} {o : Oper} {a : Act} {Q : Exit → Act → World → Prop} (hgd : o.guard = none) (s x : Operand) (t t' : TypeId)
    (ho : o.op = .call { callee := .builtin .append, args := #[s, x], argTypes := #[t, t'] })
    (e : TypeId) (i : TypeInfo) (z : Value) (size bytes : Nat) (ht : P.underlying t = some (.slice e)) (ht' : P.underlying t' = some (.slice e)) (hi : P.info? e = some i) (hz : i.zero = some z) (hsize : i.size = size) (hby : i.bytes = bytes) (hzs : z.cells.size = size) (hsz : 0 < size)
    (base : Nat) (v : Value) (n : Nat) (vs : List Value) (hs : a.eval s = v) (hown : w.ownsRow base e size v n vs)
    (ad : Addr) (m c : Nat) (us : List Value) (hx : a.eval x = .slice (some ad) m c) (hl : us.length = m * size) (hus : CV w (some ad) us) (h1 : ∀ u ∈ us, u.oneCell' = true)
    (h63 : n + m ≤ maxLen) (hbytes : (n + m) * bytes ≤ 140737488355328) (hbase : base ≤ w.heap.size)
    (h : ∀ v' w', w'.ownsRow base e size v' (n + m) (vs ++ us) → w.grownBy w' v.ownBlock → (v'.ownBlock = v.ownBlock ∨ v'.ownBlock = some w.heap.size) → wpList P ops Q rest (a.put o.dst v') w') : wpList P ops Q (o :: rest) a w :=
  wpList_plain hgd fun _ hK => by
    obtain ⟨v', w', hr, h2, h3, _, h5⟩ := run_append_own_at (P := P) w base t o.type e i z size bytes ht hi hz hsize hby hzs hsz v n vs hown ad m c us hl (by
      intro j u hj
      obtain ⟨hlt, e⟩ := List.getElem?_eq_some_iff.1 hj
      rw [hus.2 ad rfl j hlt, e]) h1 h63 hbytes hbase
    unfold Oper.wp execOp
    simp only [ho, resolve, invoke, builtin, append_two ht ht', Sem.run_bind, Sem.run_pure, Result.andThen_ok, List.map_toArray, List.map_cons, List.map_nil, hs, hx, hr]
    exact hK _ _ (h v' w' h2 h3 h5)
theorem wpList_append_none2 {P : Program} {w : World} {ops : Array Oper} {rest : List Oper} {o : Oper} {a : Act} {Q : Exit → Act → World → Prop} (hgd : o.guard = none) (s x : Operand) (t t' : TypeId)
    (ho : o.op = .call { callee := .builtin .append, args := #[s, x], argTypes := #[t, t'] })
    (base : Nat) (e : TypeId) (i : TypeInfo) (size : Nat) (ht : P.underlying t = some (.slice e)) (ht' : P.underlying t' = some (.slice e)) (hi : P.info? e = some i)
    (v : Value) (n : Nat) (xs : List Value) (hs : a.eval s = v) (hown : w.ownsRow base e size v n xs) (hx : a.eval x = .slice none 0 0)
    (h : wpList P ops Q rest (a.put o.dst v) w) : wpList P ops Q (o :: rest) a w := by
  refine wpList_plain hgd fun K hK => ?_
  have hrun := run_append_owned_none (P := P) (w := w) base t o.type e i size ht hi v n xs hown
  unfold Oper.wp
  simp [execOp, ho, resolve, invoke, builtin, append_two ht ht', hs, hx, hrun, Result.andThen]
  exact hK _ _ h

theorem info_insn18 : ∃ i, Tryz.prog.info? 54 = some i ∧ i.zero = some (.agg #[.int .u16 0, .int .u8 0, .int .u8 0, .int .u32 0]) ∧ i.size = 4 ∧ i.bytes = 8 := by
  have h : (Tryz.prog.info? 54).map (fun i => (i.zero, i.size, i.bytes)) = some (some (.agg #[.int .u16 0, .int .u8 0, .int .u8 0, .int .u32 0]), 4, 8) := by kernel_rfl
  cases e : Tryz.prog.info? 54 with
  | none => rw [e] at h; cases h
  | some i =>
    rw [e] at h
    have h2 := Option.some.inj h
    exact ⟨i, rfl, congrArg Prod.fst h2, congrArg (fun p => p.2.1) h2, congrArg (fun p => p.2.2) h2⟩

theorem pend_any (w : World) (W n ca : Nat) (a : Option Addr) (hc : w.cell? ⟨W, 0, none⟩ = some (.slice a n ca)) :
    Calls Tryz.prog 27 #[.pointer (some ⟨W, 0, none⟩)] w fun e w' => e = .returned (.int .i64 (n : Int)) ∧ w = w' := by
  go_enter Tryz.func27, Tryz.ntmps27
  go_wp2
  go_ret
  exact ⟨rfl, rfl⟩

/-- What is left of a writer whose program grew. -/
structure LayW (w w' : World) (base W : Nat) (pv mv jv : Value) (prog : List In) : Prop where
  out : ∃ pv', VAt w' W 47 #[pv', mv, jv] ∧ IOwns w' base pv' prog
  fr : GB w w' (fun x => x = W ∨ pv.ownBlock = some x)

theorem own_slice {w : World} {base e size n : Nat} {v : Value} {vs : List Value} (h : w.ownsRow base e size v n vs) : ∃ a ca, v = .slice a n ca := by
  rcases h.2 with ⟨rfl, rfl⟩ | ⟨g, cap, cur, rfl, -⟩
  · exact ⟨_, _, rfl⟩
  · exact ⟨_, _, rfl⟩

set_option maxHeartbeats 2000000 in
theorem play_any (w : World) (base W : Nat) (pv mv jv : Value) (prog code : List In) (a : Option Addr) (ca : Nat) (V : VAt w W 47 #[pv, mv, jv]) (O : IOwns w base pv prog) (hc : CV w a (flat code)) (hn : a = none → code.length = 0 ∧ ca = 0) (hb : base ≤ w.heap.size) (hl : prog.length + code.length ≤ 1000000) :
    Calls Tryz.prog 28 #[.pointer (some ⟨W, 0, none⟩), .slice a code.length ca] w fun e w' => e = .returned (.tuple #[]) ∧ LayW w w' base W pv mv jv (prog ++ code) := by
  obtain ⟨i0, hi, hz0, hz1, hz2⟩ := info_insn18
  have hne : (54 : Nat) ≠ 47 := by decide
  have c0 : w.cell? ⟨W, 0, none⟩ = some pv := V.cell 0
  have f0 : w.frozen? ⟨W, 0, none⟩ = false := V.free 0
  have HV : Hid (VAt w W 47 #[pv, mv, jv]) := V
  have HO : Hid (IOwns w base pv prog) := O
  have HC : Hid (CV w a (flat code)) := hc
  have HL : Hid (prog.length + code.length ≤ 1000000) := hl
  have HB : Hid (base ≤ w.heap.size) := hb
  clear V O hc hl hb
  cases a with
  | none =>
    obtain ⟨h0, rfl⟩ := hn rfl
    have hcode : code = [] := List.eq_nil_of_length_eq_zero h0
    subst hcode
    clear hn h0
    rw [List.append_nil]
    show Calls Tryz.prog 28 #[.pointer (some ⟨W, 0, none⟩), .slice none 0 0] w _
    obtain ⟨a1, k1, rfl⟩ := own_slice HO.out
    go_enter Tryz.func28, Tryz.ntmps28
    go_wp2_with (at_builtin; refine wpList_append_none2 rfl (.tmp 7) (.tmp 8) 44 24 rfl base 54 i0 4 Tryz.underlying44 Tryz.underlying24 hi _ prog.length (flat prog) rfl HO.out rfl ?_)
    have V2 := HV.out.set 0 (.slice a1 prog.length k1)
    have G2 : w.grownBy (w.setCell ⟨W, 0, none⟩ (.slice a1 prog.length k1)) (some W) := grown_setCell (World.grownBy.refl _ _) _ _ (.inl rfl)
    go_end0
    exact ⟨rfl, ⟨⟨_, V2, own_kept HO.out G2 (own_vat HO.out HV.out hne)⟩, GB.of G2 (fun x hx => .inl (Option.some.inj hx).symm)⟩⟩
  | some ad =>
    clear hn
    obtain ⟨a1, k1, rfl⟩ := own_slice HO.out
    go_enter Tryz.func28, Tryz.ntmps28
    go_wp2_with (at_builtin; refine wpList_append_own2 rfl (.tmp 7) (.tmp 8) 44 24 rfl 54 i0 _ 4 8 Tryz.underlying44 Tryz.underlying24 hi hz0 hz1 hz2 rfl (by decide) base _ prog.length (flat prog) rfl HO.out ad code.length ca (flat code) rfl ?q1 HC.out ?q2 ?q3 ?q4 HB.out ?q5)
    case q1 => exact flat_len code
    case q2 => exact flat_one code
    case q3 => unfold maxLen; have := HL.out; omega
    case q4 => have := HL.out; omega
    case q5 =>
      intro v2 w2 O2 K2 B2
      have hW : ¬ (Value.slice a1 prog.length k1).ownBlock = some W := own_vat HO.out HV.out hne
      have V1 : VAt w2 W 47 #[.slice a1 prog.length k1, mv, jv] := HV.out.grown K2 hW
      have O3 : IOwns w2 base v2 (prog ++ code) := by
        show w2.ownsRow base _ 4 v2 (prog ++ code).length (flat (prog ++ code))
        rw [List.length_append, flat_append]
        exact O2
      have hv2 : ¬ v2.ownBlock = some W := own_vat O3 V1 hne
      obtain ⟨a2, k2, rfl⟩ := own_slice O2
      have y0 : w2.cell? ⟨W, 0, none⟩ = some (.slice a1 prog.length k1) := V1.cell 0
      have y1 : w2.frozen? ⟨W, 0, none⟩ = false := V1.free 0
      have V2 := V1.set 0 (.slice a2 (prog.length + code.length) k2)
      have G2 : w2.grownBy (w2.setCell ⟨W, 0, none⟩ (.slice a2 (prog.length + code.length) k2)) (some W) := grown_setCell (World.grownBy.refl _ _) _ _ (.inl rfl)
      have F : GB w (w2.setCell ⟨W, 0, none⟩ (.slice a2 (prog.length + code.length) k2)) (fun x => x = W ∨ (Value.slice a1 prog.length k1).ownBlock = some x) := GB.trans (GB.of K2 (fun x hx => .inr hx)) (GB.of (S := fun x => x = W) G2 (fun x hx => (Option.some.inj hx).symm)) (fun x _ hx => .inl hx)
      have HR : Hid (LayW w (w2.setCell ⟨W, 0, none⟩ (.slice a2 (prog.length + code.length) k2)) base W (.slice a1 prog.length k1) mv jv (prog ++ code)) := ⟨⟨_, V2, own_kept O3 G2 hv2⟩, F⟩
      clear V1 O3 hv2 hW O2 K2 B2 V2 G2 F
      go_wp2
      go_end0
      exact ⟨rfl, HR.out⟩

end Go.Proofs.YtencoknpocipbaaGreat
