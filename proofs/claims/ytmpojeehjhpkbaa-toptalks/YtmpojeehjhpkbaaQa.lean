/- Contracts of the program's step, mix, Weigh, Hash. -/
import Derived.Test.YtmpojeehjhpkbaaHr
import Derived.Laws.BitsAllLaws
namespace Go.Proofs.Ytmpojeehjhpkbaa
open Go.RowKit Go.PlainAid

/-- Bytes in a row, as cells. -/
def Bts (w : World) (b o : Nat) (l : List Nat) : Prop := ∀ (j y : Nat), l[j]? = some y → w.cell? ⟨b, o + j, none⟩ = some (.int .u8 (y : Int))
theorem stps_take_at {h : Nat} {l : List Nat} {q y : Nat} (hy : l[q]? = some y) : stps h (l.take (q + 1)) = stp (stps h (l.take q)) y := by
  rw [List.take_add_one, hy, Option.toList_some, stps_snoc]
theorem xor_u32 (x y : Nat) (hx : x < 4294967296) (hy : y < 4294967296) : bits .xor .u32 (x : Int) (y : Int) = ((x ^^^ y : Nat) : Int) := u32_xor_nat x y hx hy
set_option maxRecDepth 100000 in
set_option maxHeartbeats 1000000 in
theorem stepQ (x : Nat) (b o n c : Nat) (l : List Nat) (w : World) (hx : x < 4294967296) (hl : l.length = n) (hn : n ≤ 1000000) (hr : ∀ y ∈ l, y < 256) (hc : Bts w b o l) :
    Calls Try.prog 19 #[.int .u32 x, .slice (some ⟨b, o, none⟩) n c] w fun e w' => e = .returned (.int .u32 (stps x l)) ∧ w' = w := by
  have HX := hide hx
  have HL := hide hl
  have HN := hide hn
  have HR := hide hr
  have HC := hide hc
  clear hx hl hn hr hc
  go_enter Try.func19, Try.ntmps19
  go_wp2
  go_loopg [0, 6, 9] n (fun r v _ i wr => ∃ q : Nat, q ≤ n ∧ r = n - q ∧ i = .int .i64 q ∧ v = .int .u32 (stps x (l.take q)) ∧ wr = w)
  case atStart => exact ⟨0, by omega, rfl, rfl, rfl, rfl⟩
  case round =>
    obtain ⟨q, hq, hr, rfl, rfl, rfl⟩ := hrel
    have HQ := hide hr
    clear hr
    by_cases hcq : q < n
    · obtain ⟨y, hy⟩ : ∃ y, l[q]? = some y := ⟨_, List.getElem?_eq_getElem (by rw [HL.out]; exact hcq)⟩
      have cq := HC.out q y hy
      have hy2 := HR.out y (List.mem_of_getElem? hy)
      have HT := hide (stps_take_at (h := x) hy)
      have HU := stps_lt (l.take q) HX.out
      obtain ⟨u, hu⟩ : ∃ u, u = stps x (l.take q) := ⟨_, rfl⟩
      rw [← hu] at HT HU
      rw [← hu]
      have hq2 : (q : Int) < (n : Int) := by omega
      have n0 : (0 : Int) ≤ (q : Int) := by omega
      have hn := HN.out
      have e2 : IntKind.i64.wrap ((q : Int) + 1) = (q : Int) + 1 := IntWalk.i64_in _ (by omega)
      have e3 : IntKind.u32.wrap (y : Int) = (y : Int) := by rw [wrap_u32]; omega
      have e4 := xor_u32 u y HU (by omega)
      have hs : stp u y = ((u ^^^ y) * 16777619) % 4294967296 := rfl
      obtain ⟨z, hz⟩ : ∃ z, z = u ^^^ y := ⟨_, rfl⟩
      rw [← hz] at e4 hs
      have e5 : IntKind.u32.wrap ((z : Int) * 16777619) = ((stp u y : Nat) : Int) := by rw [wrap_u32, hs]; omega
      obtain ⟨s, hs2⟩ : ∃ s, s = stp u y := ⟨_, rfl⟩
      rw [← hs2] at e5 HT
      clear hy hu hz hs hs2 hn HU hy2
      go_wp2
      go_roundg (n - (q + 1))
      case measure => rw [HQ.out]; omega
      case rel => exact ⟨q + 1, by omega, rfl, by go_num, by rw [HT.out], rfl⟩
    · obtain rfl : q = n := by omega
      have hq2 : ¬ (q : Int) < (q : Int) := by omega
      have HF : Hid (stps x (l.take q) = stps x l) := hide (by rw [List.take_of_length_le (by rw [HL.out]; exact Nat.le_refl _)])
      clear hcq
      go_wp2
      go_ret
      exact ⟨by rw [HF.out]; rfl, rfl⟩
set_option maxRecDepth 100000 in
set_option maxHeartbeats 1000000 in
theorem mixQ (x : Nat) (w : World) (hx : x < 4294967296) :
    Calls Try.prog 21 #[.int .u32 x] w fun e w' => e = .returned (.int .u32 (fin (mix x))) ∧ w' = w := by
  have e1 : ((x : Int)).tdiv 32768 = ((x / 32768 : Nat) : Int) := by rw [Int.tdiv_eq_ediv_of_nonneg (by omega)]; omega
  have e1' : ((x : Int)) / 32768 = ((x / 32768 : Nat) : Int) := by omega
  have e0 : IntKind.u32.wrap ((x / 32768 : Nat) : Int) = ((x / 32768 : Nat) : Int) := by rw [wrap_u32]; omega
  have e2 := xor_u32 x (x / 32768) hx (by omega)
  have hm : mix x = ((x ^^^ x / 32768) * 739982445) % 4294967296 := rfl
  have hl := mix_lt x
  obtain ⟨y, hy⟩ : ∃ y, y = x / 32768 := ⟨_, rfl⟩
  rw [← hy] at e0 e1 e1' e2 hm
  obtain ⟨z, hz⟩ : ∃ z, z = x ^^^ y := ⟨_, rfl⟩
  rw [← hz] at e2 hm
  have e3 : IntKind.u32.wrap ((z : Int) * 739982445) = ((mix x : Nat) : Int) := by rw [wrap_u32, hm]; omega
  obtain ⟨m, hm2⟩ : ∃ m, m = mix x := ⟨_, rfl⟩
  rw [← hm2] at e3 hl ⊢
  have e4 : ((m : Int)).tdiv 4096 = ((m / 4096 : Nat) : Int) := by rw [Int.tdiv_eq_ediv_of_nonneg (by omega)]; omega
  have e4' : ((m : Int)) / 4096 = ((m / 4096 : Nat) : Int) := by omega
  have e5 := xor_u32 m (m / 4096) hl (by omega)
  have e7 : IntKind.u32.wrap ((m / 4096 : Nat) : Int) = ((m / 4096 : Nat) : Int) := by rw [wrap_u32]; omega
  have hf : fin m = m ^^^ m / 4096 := rfl
  obtain ⟨v, hv⟩ : ∃ v, v = m / 4096 := ⟨_, rfl⟩
  rw [← hv] at e4 e4' e5 e7 hf
  rw [← hf] at e5
  obtain ⟨f, hf2⟩ : ∃ f, f = fin m := ⟨_, rfl⟩
  rw [← hf2] at e5 ⊢
  clear hx hm hl hy hz hm2 hf hv hf2
  go_enter Try.func21, Try.ntmps21
  go_wp2
  go_ret
  exact ⟨by first | rfl | simp, by first | rfl | trivial⟩
theorem bts_one (w : World) (y : Nat) : Bts (w.alloc (.cells #[.int .u8 (y : Int)] 5)) w.heap.size 0 [y] := by
  intro j z hj
  match j, hj with
  | 0, hj => obtain rfl : y = z := by simpa using hj
             simp
theorem bts_two (w : World) (y z : Nat) : Bts (w.alloc (.cells #[.int .u8 (y : Int), .int .u8 (z : Int)] 5)) w.heap.size 0 [y, z] := by
  intro j u hj
  match j, hj with
  | 0, hj => obtain rfl : y = u := by simpa using hj
             simp
  | 1, hj => obtain rfl : z = u := by simpa using hj
             simp
theorem stps_one (x y : Nat) : stps x [y] = stp x y := by unfold stps; rw [List.foldl_cons, List.foldl_nil]
end Go.Proofs.Ytmpojeehjhpkbaa
