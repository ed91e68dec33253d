import Derived.Test.YtpbcplfpjcacfaaRows
import Derived.WalkKit
namespace Go.Proofs.Ytpbcplfpjcacfaa
def sessZ : List Value := ([Value.slice none 0 0] ++ ((List.replicate 16 [Value.bool false]).flatten ++ ((List.replicate 16 ([Value.bool false] ++ [Value.int .i64 0])).flatten) ++ (List.replicate 16 [Value.bool false]).flatten) ++ ((([Value.int .i64 0] ++ [Value.int .i64 0]) ++ [Value.int .i64 0]) ++ [Value.int .i64 0] ++ ([Value.int .i64 0] ++ [Value.int .i64 0]) ++ [Value.int .i64 0] ++ [Value.int .i64 0] ++ [Value.int .i64 0]) ++ [Value.bool false] ++ ([Value.int .i64 0] ++ [Value.int .i64 0] ++ [Value.slice none 0 0]) ++ [Value.int .i64 0])
def tableZ : List Value := ((List.replicate 16 ([Value.bool false] ++ [Value.int .i64 0])).flatten)
def tierZ : List Value := (((List.replicate 16 ([Value.bool false] ++ [Value.int .i64 0])).flatten) ++ (List.replicate 4 ([Value.slice none 0 0] ++ ((List.replicate 16 [Value.bool false]).flatten ++ ((List.replicate 16 ([Value.bool false] ++ [Value.int .i64 0])).flatten) ++ (List.replicate 16 [Value.bool false]).flatten) ++ ((([Value.int .i64 0] ++ [Value.int .i64 0]) ++ [Value.int .i64 0]) ++ [Value.int .i64 0] ++ ([Value.int .i64 0] ++ [Value.int .i64 0]) ++ [Value.int .i64 0] ++ [Value.int .i64 0] ++ [Value.int .i64 0]) ++ [Value.bool false] ++ ([Value.int .i64 0] ++ [Value.int .i64 0] ++ [Value.slice none 0 0]) ++ [Value.int .i64 0])).flatten ++ [Value.slice none 0 0] ++ [Value.slice none 0 0])
def tiersZ : List Value := (List.replicate 32 tierZ).flatten
def veq : Value → Value → Bool
  | .bool x, .bool y => x == y
  | .int .i64 x, .int .i64 y => x == y
  | .slice none n c, .slice none n' c' => n == n' && c == c'
  | _, _ => false
theorem veq_sound : ∀ a b : Value, veq a b = true → a = b := by
  intro a b h
  unfold veq at h
  split at h <;> simp_all
def chk : List Value → List Value → Bool
  | [], [] => true
  | a :: l, b :: m => if veq a b then chk l m else false
  | _, _ => false
theorem chk_sound : ∀ a b : List Value, chk a b = true → a = b
  | [], [], _ => rfl
  | a :: l, b :: m, h => by
    unfold chk at h
    by_cases hv : veq a b = true
    · rw [if_pos hv] at h
      rw [veq_sound a b hv, chk_sound l m h]
    · rw [if_neg hv] at h; cases h
  | [], _ :: _, h => by cases h
  | _ :: _, [], h => by cases h
def cellsAt (P : Program) (t : TypeId) : List Value := match (P.info? t).bind (·.zero) with | some z => z.cells.toList | none => []
theorem cells136_chk : chk (cellsAt Try.prog 138) ([.int .i64 0, .int .i64 0, .int .i64 0] ++ tiersZ) = true := by kernel_rfl
theorem cells136_eq : cellsAt Try.prog 138 = [.int .i64 0, .int .i64 0, .int .i64 0] ++ tiersZ := chk_sound _ _ cells136_chk
def storeZ (k v c : Int) : List Value := [.int .i64 k, .int .i64 v, .int .i64 c] ++ tiersZ
theorem len_sessZ : sessZ.length = 79 := by decide +kernel
theorem len_tableZ : tableZ.length = 32 := by decide +kernel
theorem len_tierZ : tierZ.length = 350 := by decide +kernel
theorem len_flat {x : List Value} : ∀ n : Nat, (List.replicate n x).flatten.length = n * x.length := by
  intro n; simp
theorem len_tiersZ : tiersZ.length = 11200 := by
  unfold tiersZ; rw [len_flat, len_tierZ]
theorem len_storeZ (k v c : Int) : (storeZ k v c).length = 11203 := by
  simp [storeZ, len_tiersZ]
theorem info136 : ∃ i z, Try.prog.info? 138 = some i ∧ i.zero = some z ∧ z.cells.toList = [.int .i64 0, .int .i64 0, .int .i64 0] ++ tiersZ := by
  have h := cells136_eq
  unfold cellsAt at h
  cases hi : Try.prog.info? 138 with
  | none => rw [hi] at h; simp at h
  | some i =>
    cases hz : i.zero with
    | none => rw [hi] at h; simp [hz] at h
    | some z => rw [hi] at h; simp only [Option.bind_some, hz] at h; exact ⟨i, z, rfl, hz, h⟩
theorem info_of {t : TypeId} {n : Nat} (h : (Try.prog.info? t).map (·.size) = some n) : ∃ i, Try.prog.info? t = some i ∧ i.size = n := by
  cases hi : Try.prog.info? t with
  | none => rw [hi] at h; cases h
  | some i => rw [hi] at h; exact ⟨i, rfl, by simpa using h⟩
theorem size23 : (Try.prog.info? 23).map (·.size) = some 3 := by kernel_rfl
theorem size134 : (Try.prog.info? 136).map (·.size) = some 11200 := by kernel_rfl
theorem built136 (k v c : Int) : Try.prog.built 138 [(0, .agg #[.int .i64 k, .int .i64 v, .int .i64 c])] = some ⟨storeZ k v c⟩ := by
  obtain ⟨i, z, hi, hz, hc⟩ := info136
  have hs : z.cells.size = 11203 := by rw [← Array.length_toList, hc]; simp [len_tiersZ]
  have hz' : z.cells = ⟨[.int .i64 0, .int .i64 0, .int .i64 0] ++ tiersZ⟩ := by rw [← hc]
  unfold Program.built
  rw [hi, Try.underlying138]
  simp only [hz]
  obtain ⟨i1, h1, s1⟩ := info_of size23
  obtain ⟨i2, h2, s2⟩ := info_of size134
  simp only [List.mapM_cons, List.mapM_nil, h1, h2, s1, s2, Option.map_some, Option.bind_eq_bind, Option.bind_some, Option.pure_def]
  rw [hz']
  have e3 : (Value.agg #[.int .i64 k, .int .i64 v, .int .i64 c]).cells = #[.int .i64 k, .int .i64 v, .int .i64 c] := rfl
  simp [Instr.fill, e3, len_tiersZ, storeZ, Array.zipIdx]
theorem flat_get (x : List Value) : ∀ (n p j : Nat), p < n → j < x.length → (List.replicate n x).flatten[p * x.length + j]? = x[j]?
  | 0, p, j, hp, _ => absurd hp (Nat.not_lt_zero p)
  | n + 1, 0, j, _, hj => by
    rw [List.replicate_succ, List.flatten_cons, List.getElem?_append_left (by omega)]
    simp
  | n + 1, p + 1, j, hp, hj => by
    rw [List.replicate_succ, List.flatten_cons, List.getElem?_append_right (by rw [Nat.add_mul]; omega)]
    rw [show (p + 1) * x.length + j - x.length = p * x.length + j from by rw [Nat.add_mul]; omega]
    exact flat_get x n p j (by omega) hj
theorem storeZ_tier (k v c : Int) (p j : Nat) (hp : p < 32) (hj : j < 350) : (storeZ k v c)[3 + p * 350 + j]? = tierZ[j]? := by
  unfold storeZ
  rw [List.getElem?_append_right (by simp; omega)]
  have := flat_get tierZ 32 p j hp (by rw [len_tierZ]; exact hj)
  rw [len_tierZ] at this
  unfold tiersZ
  rw [← this]
  congr 1
  simp
  omega
theorem tierZ_slot (j : Nat) (hj : j < 16) : tierZ[2 * j]? = some (.bool false) ∧ tierZ[2 * j + 1]? = some (.int .i64 0) := by
  have : ∀ j : Fin 16, veq (tierZ[2 * j.val]?.getD undef) (.bool false) = true ∧ veq (tierZ[2 * j.val + 1]?.getD undef) (.int .i64 0) = true := by decide +kernel
  obtain ⟨a, b⟩ := this ⟨j, hj⟩
  have ha := veq_sound _ _ a
  have hb := veq_sound _ _ b
  have l := len_tierZ
  have e1 : tierZ[2 * j]? = some tierZ[2 * j] := List.getElem?_eq_getElem (by omega)
  have e2 : tierZ[2 * j + 1]? = some tierZ[2 * j + 1] := List.getElem?_eq_getElem (by omega)
  simp only [e1, e2, Option.getD_some] at ha hb
  exact ⟨by rw [e1, ha], by rw [e2, hb]⟩
theorem storeZ_slot (k v c : Int) (p j : Nat) (hp : p < 32) (hj : j < 16) : (storeZ k v c)[3 + p * 350 + 2 * j]? = some (.bool false) ∧ (storeZ k v c)[3 + p * 350 + 2 * j + 1]? = some (.int .i64 0) := by
  obtain ⟨a, b⟩ := tierZ_slot j hj
  exact ⟨by rw [storeZ_tier k v c p (2 * j) hp (by omega), a], by rw [Nat.add_assoc, storeZ_tier k v c p (2 * j + 1) hp (by omega), b]⟩
end Go.Proofs.Ytpbcplfpjcacfaa
