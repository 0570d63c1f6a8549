/-
  Programs of one load: what they come to. No Go text here.
-/
import Derived.Test.YtaldhnionkacmaaVmX
namespace Go.Proofs.Ytaldhnionkacmaa
open Go.RowKit
set_option maxRecDepth 100000

def loadP (x c k : Nat) : List In := [mkV 1 0 0 x, mkV c 0 0 k, mkV 22 0 0 0]
def mshP (k : Nat) : List In := [mkV 177 0 0 k, mkV 135 0 0 0, mkV 22 0 0 0]
def lenP : List In := [mkV 128 0 0 0, mkV 22 0 0 0]

theorem fault_txa : faultV 135 0 = 0 ∧ faultV 128 0 = 0 := by decide

theorem three_E {p : List In} {pk : List UInt8} {c0 c1 k0 k1 : Nat} (hp : p = [mkV c0 0 0 k0, mkV c1 0 0 k1, mkV 22 0 0 0]) (hl : pk.length ≤ 65536) (hc0 : c0 ≤ 65535) (hk0 : k0 ≤ 4294967295) (hc1 : c1 ≤ 65535) (hk1 : k1 ≤ 4294967295)
    (f0 : faultV c0 k0 = 0) (a0 : ((c0 : Int) == 5) = false) (b0 : jumpB c0 = false) (f1 : faultV c1 k1 = 0) (a1 : ((c1 : Int) == 5) = false) (b1 : jumpB c1 = false) : runE p pk = 0 := by
  subst hp
  rw [runE, taken_of (by simp) (by simp) (fun j hj => ?_) (by rfl), if_pos rfl, if_neg (by omega)]
  simp only [List.length_cons, List.length_nil] at hj
  rcases (show j = 0 ∨ j = 1 ∨ j = 2 by omega) with rfl | rfl | rfl
  · exact plain_good hc0 hk0 f0 a0 b0
  · exact plain_good hc1 hk1 f1 a1 b1
  · exact plain_good (by omega) (by omega) fault_retA (by decide) (by decide)

theorem load_run {x c k S p : Nat} {pk : List UInt8} (hl : pk.length ≤ 5000) (hx : x ≤ 4294967295) (hk : k ≤ 4294967295) (hc : c ≤ 255) (hf : faultV c k = 0) (h5 : ((c : Int) == 5) = false) (hj : jumpB c = false) (hr : retB c = false)
    (hst : ∀ a m, stepV c k pk ⟨a, x, m⟩ = (⟨(readAtV pk p S).1, x, m⟩, (readAtV pk p S).2)) :
    runE (loadP x c k) pk = 0 ∧ runV (loadP x c k) pk = if okB pk.length p S = true then (numAt pk p S, 0, [0, 1, 2]) else (0, 1, [0, 1]) := by
  have hE : runE (loadP x c k) pk = 0 := three_E rfl (by omega) (by omega) hx (by omega) hk (fault_imm x).2.1 (by decide) (by decide) hf h5 hj
  refine ⟨hE, ?_⟩
  rw [runV, if_pos hE, show (loadP x c k).length = 3 by rfl]
  have e0 : stepV ((1 : Nat) : Int) x pk mc0 = (⟨0, x, mc0.m⟩, 0) := by simp [stepV, mc0]
  rw [runF_mk (c := 1) (k := x) rfl (by omega) hx (by decide) (by decide) (by decide) e0, if_pos rfl,
    runF_mk (c := c) (k := k) rfl (by omega) hk hr h5 hj (hst _ _)]
  by_cases hok : okB pk.length p S = true
  · rw [if_pos hok]
    have e : readAtV pk p S = (numAt pk p S, 0) := by rw [readAtV, if_pos hok]
    rw [e, if_pos rfl, runF_mkA (t := 0) (f := 0) (k := 0) rfl]
    rfl
  · rw [if_neg hok]
    have e : readAtV pk p S = (0, 1) := by rw [readAtV, if_neg hok]
    rw [e, if_neg (by decide)]
    rfl

theorem abs_run {x k : Nat} {pk : List UInt8} (hl : pk.length ≤ 5000) (hx : x ≤ 4294967295) (hk : k ≤ 4294967295) :
    (runE (loadP x 48 k) pk = 0 ∧ runV (loadP x 48 k) pk = if okB pk.length k (1 : Nat) = true then (numAt pk k 1, 0, [0, 1, 2]) else (0, 1, [0, 1])) ∧
    (runE (loadP x 40 k) pk = 0 ∧ runV (loadP x 40 k) pk = if okB pk.length k (2 : Nat) = true then (numAt pk k 2, 0, [0, 1, 2]) else (0, 1, [0, 1])) ∧
    (runE (loadP x 32 k) pk = 0 ∧ runV (loadP x 32 k) pk = if okB pk.length k (4 : Nat) = true then (numAt pk k 4, 0, [0, 1, 2]) else (0, 1, [0, 1])) := by
  obtain ⟨f1, f2, f3, f4, f5, f6, f7⟩ := fault_abs k
  exact ⟨load_run hl hx hk (by omega) f3 (by decide) (by decide) (by decide) (fun a m => by simp [stepV, sizeV]),
    load_run hl hx hk (by omega) f2 (by decide) (by decide) (by decide) (fun a m => by simp [stepV, sizeV]),
    load_run hl hx hk (by omega) f1 (by decide) (by decide) (by decide) (fun a m => by simp [stepV, sizeV])⟩

theorem ind_run {x k : Nat} {pk : List UInt8} (hl : pk.length ≤ 5000) (hx : x ≤ 4294967295) (hk : k ≤ 4294967295) :
    (runE (loadP x 80 k) pk = 0 ∧ runV (loadP x 80 k) pk = if okB pk.length ((k + x : Nat) : Int) (1 : Nat) = true then (numAt pk (k + x) 1, 0, [0, 1, 2]) else (0, 1, [0, 1])) ∧
    (runE (loadP x 72 k) pk = 0 ∧ runV (loadP x 72 k) pk = if okB pk.length ((k + x : Nat) : Int) (2 : Nat) = true then (numAt pk (k + x) 2, 0, [0, 1, 2]) else (0, 1, [0, 1])) ∧
    (runE (loadP x 64 k) pk = 0 ∧ runV (loadP x 64 k) pk = if okB pk.length ((k + x : Nat) : Int) (4 : Nat) = true then (numAt pk (k + x) 4, 0, [0, 1, 2]) else (0, 1, [0, 1])) := by
  obtain ⟨f1, f2, f3, f4, f5, f6, f7⟩ := fault_abs k
  exact ⟨load_run hl hx hk (by omega) f6 (by decide) (by decide) (by decide) (fun a m => by simp [stepV, sizeV]),
    load_run hl hx hk (by omega) f5 (by decide) (by decide) (by decide) (fun a m => by simp [stepV, sizeV]),
    load_run hl hx hk (by omega) f4 (by decide) (by decide) (by decide) (fun a m => by simp [stepV, sizeV])⟩

theorem msh_run {k : Nat} {pk : List UInt8} (hl : pk.length ≤ 5000) (hk : k ≤ 4294967295) :
    runE (mshP k) pk = 0 ∧ runV (mshP k) pk = if okB pk.length k (1 : Nat) = true then (4 * (numAt pk k 1 % 16), 0, [0, 1, 2]) else (0, 1, [0]) := by
  have hE : runE (mshP k) pk = 0 := three_E rfl (by omega) (by omega) hk (by omega) (by omega) (fault_abs k).2.2.2.2.2.2 (by decide) (by decide) fault_txa.1 (by decide) (by decide)
  refine ⟨hE, ?_⟩
  rw [runV, if_pos hE, show (mshP k).length = 3 by rfl]
  have e0 : stepV ((177 : Nat) : Int) k pk mc0 = (⟨0, 4 * ((readAtV pk k 1).1 % 16), mc0.m⟩, (readAtV pk k 1).2) := by simp [stepV, mc0]
  rw [runF_mk (c := 177) (k := k) rfl (by omega) hk (by decide) (by decide) (by decide) e0]
  by_cases hok : okB pk.length k (1 : Nat) = true
  · have e : readAtV pk k 1 = (numAt pk k 1, 0) := by rw [readAtV, if_pos hok]
    have e1 : ∀ v m, stepV ((135 : Nat) : Int) 0 pk ⟨0, v, m⟩ = (⟨v, v, m⟩, 0) := fun v m => by simp [stepV]
    rw [if_pos hok, e, if_pos rfl, runF_mk (c := 135) (k := 0) rfl (by omega) (by omega) (by decide) (by decide) (by decide) (e1 _ _), if_pos rfl, runF_mkA (t := 0) (f := 0) (k := 0) rfl]
    rfl
  · have e : readAtV pk k 1 = (0, 1) := by rw [readAtV, if_neg hok]
    rw [if_neg hok, e, if_neg (by decide)]

theorem len_run {pk : List UInt8} (hl : pk.length ≤ 5000) : runE lenP pk = 0 ∧ runV lenP pk = (pk.length, 0, [0, 1]) := by
  have hE : runE lenP pk = 0 := by
    rw [runE, show (checkV lenP).2 = 0 by decide +kernel, if_pos rfl, if_neg (by omega)]
  refine ⟨hE, ?_⟩
  rw [runV, if_pos hE, show lenP.length = 2 by rfl]
  have e0 : stepV ((128 : Nat) : Int) 0 pk mc0 = (⟨pk.length, 0, mc0.m⟩, 0) := by simp [stepV, mc0]
  rw [runF_mk (c := 128) (k := 0) rfl (by omega) (by omega) (by decide) (by decide) (by decide) e0, if_pos rfl, runF_mkA (t := 0) (f := 0) (k := 0) rfl]
  rfl

end Go.Proofs.Ytaldhnionkacmaa
