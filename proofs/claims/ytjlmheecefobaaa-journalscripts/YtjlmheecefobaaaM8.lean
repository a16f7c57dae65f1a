/- Contract of the document's Replay. -/
import Derived.Test.YtjlmheecefobaaaM7
import Derived.Test.YtjlmheecefobaaaM5
namespace Go.Proofs.Ytjlmheecefobaaa
open Go.RowKit Go.PlainAid

set_option maxRecDepth 100000 in
set_option maxHeartbeats 8000000 in
theorem replay22 (ao : Option Addr) (n c : Nat) (l : List En) (ao2 : Option Addr) (n2 c2 : Nat) (cs : List Ch) (w : World) (hl : Sl ecl 10 w w.heap.size ao n c l) (hc : Sl ccl 12 w w.heap.size ao2 n2 c2 cs) (ho : Ok l) (hco : ∀ c ∈ cs, Eok c.x) (hn : n + n2 ≤ 30000) :
    Calls Try.prog 22 #[.slice ao n c, .slice ao2 n2 c2] w fun e w' => ∃ ao' c', e = .returned (.slice ao' (rep l cs).length c') ∧ Ets w' w.heap.size ao' (rep l cs).length c' (rep l cs) ∧ Below w.heap.size w w' := by
  have HL := hide hl
  have HC := hide hc
  have HO1 : Hid (∀ z ∈ l, Mok z.m) := hide (fun z hz => (ho z hz).m)
  have HO2 : Hid (∀ d ∈ cs, Mok d.x.m) := hide (fun d hd => (hco d hd).m)
  have hln' : Hid (l.length = n) := hide hl.len
  have hcn' : Hid (cs.length = n2) := hide hc.len
  clear hl hc ho hco
  go_enter Try.func22, Try.ntmps22
  go_wp2
  go_loopw [5, 6] (fun s i wr => ∃ k : Nat, k ≤ n ∧ i = .int .i64 k ∧ wr.ownsRow w.heap.size 36 10 s ((l.take k).foldl up []).length (es ((l.take k).foldl up [])) ∧ Below w.heap.size w wr) (fun _ i _ => n - (intOf i).toNat)
  case atStart => exact ⟨0, Nat.zero_le _, rfl, World.ownsRow_nil _ _ _ _, Below.refl _ _⟩
  case round =>
    obtain ⟨k, hk, rfl, O1, B1⟩ := hrel
    have HO := hide O1
    have HB := hide B1
    clear O1 B1
    by_cases hkn : k < n
    · obtain ⟨x, hx⟩ : ∃ x, l[k]? = some x := ⟨_, List.getElem?_eq_getElem (by rw [hln'.out]; exact hkn)⟩
      obtain ⟨b0, o0, rfl, hG, hA⟩ := (HL.out.below HB.out).cell k x hx
      have hEx := hide (HO1.out x (List.mem_of_getElem? hx))
      have hk2 : (k : Int) < (n : Int) := by omega
      have e1 : IntKind.i64.wrap ((k : Int) + 1) = (k : Int) + 1 := IntWalk.i64_in _ (by omega)
      have HTK := hide (take_foldl up [] hx)
      have hsl : Hid (((l.take k).foldl up []).length ≤ 40000) := hide (by have := foldl_up_le (l.take k) []; rw [List.length_take] at this; simp at this; omega)
      clear hx hG
      have tk1 : True := trivial
      go_wp2_with (first | (have _t := tk1; refine wpl_ent (.tmp 17) rfl hA ?_ ?_ ?_; rfl; rfl; clear tk1))
      refine (with35 w.heap.size _ ((l.take k).foldl up []) x _ HO.out hsl.out (foldl_up_srt _ srt_nil) (foldl_up_all (p := fun z => Mok z.m) _ [] (fun z hz => by simp at hz) (fun z hz => HO1.out z (List.mem_of_mem_take hz))) hEx.out).mono ?_
      rintro e w4 ⟨lv4, rfl, O4, b4⟩
      have HO4 : Hid (w4.ownsRow w.heap.size 36 10 lv4 ((l.take (k + 1)).foldl up []).length (es ((l.take (k + 1)).foldl up []))) := hide (by rw [HTK.out]; exact row_mono36 HB.out.size O4)
      have HB4 := hide (below_more HB.out b4 HB.out.size)
      clear O4 b4 hA HO HB
      go_wp2
      go_roundw
      case rel => exact ⟨k + 1, by omega, by go_num, HO4.out, HB4.out⟩
      case measure => simp [intOf]; omega
    · have hk2 : ¬ (k : Int) < (n : Int) := by omega
      have hall : l.take k = l := List.take_of_length_le (by rw [hln'.out]; omega)
      rw [hall] at HO
      clear hall
      go_wp2
      have HO0 := hide HO.out
      have HB0 := hide HB.out
      clear HO HB
      go_loopw [5, 7] (fun s i wr => ∃ k : Nat, k ≤ n2 ∧ i = .int .i64 k ∧ wr.ownsRow w.heap.size 36 10 s ((cs.take k).foldl dn (srt l)).length (es ((cs.take k).foldl dn (srt l))) ∧ Below w.heap.size w wr) (fun _ i _ => n2 - (intOf i).toNat)
      case atStart => exact ⟨0, Nat.zero_le _, rfl, HO0.out, HB0.out⟩
      case round =>
        obtain ⟨k, hk, rfl, O1, B1⟩ := hrel
        have HO := hide O1
        have HB := hide B1
        clear O1 B1 HO0 HB0
        by_cases hkn : k < n2
        · obtain ⟨d, hx⟩ : ∃ d, cs[k]? = some d := ⟨_, List.getElem?_eq_getElem (by rw [hcn'.out]; exact hkn)⟩
          obtain ⟨b0, o0, rfl, hG, hA⟩ := (HC.out.below HB.out).cell k d hx
          have hEx := hide (HO2.out d (List.mem_of_getElem? hx))
          have hk2 : (k : Int) < (n2 : Int) := by omega
          have e1 : IntKind.i64.wrap ((k : Int) + 1) = (k : Int) + 1 := IntWalk.i64_in _ (by omega)
          have HTK := hide (take_foldl dn (srt l) hx)
          have c11 := hA 11 _ rfl
          have hA2 := chg_ent hA
          have hsl : Hid (((cs.take k).foldl dn (srt l)).length ≤ 40000) := hide (by
            have h1 := foldl_dn_le (cs.take k) (srt l)
            have h2 := srt_le l
            rw [List.length_take] at h1
            have := hln'.out
            omega)
          have hsr := hide (foldl_dn_srt (cs.take k) (srt_srt l))
          have hmk : Hid (∀ z ∈ (cs.take k).foldl dn (srt l), Mok z.m) := hide (foldl_dn_all (p := fun z => Mok z.m) _ _ (foldl_up_all (p := fun z => Mok z.m) _ [] (fun z hz => by simp at hz) HO1.out) (fun d hd => HO2.out d (List.mem_of_mem_take hd)))
          clear hx hG hA
          have tk1 : True := trivial
          rcases Bool.eq_false_or_eq_true d.g with hg | hg
          · rw [hg] at c11
            have HE : Hid ((cs.take (k + 1)).foldl dn (srt l) = rm ((cs.take k).foldl dn (srt l)) d.x.v d.x.m) := hide (by rw [HTK.out, dn, hg, if_pos rfl])
            clear hg HTK
            go_wp2_with (first | (have _t := tk1; refine wpl_ent (.tmp 35) rfl hA2 ?_ ?_ ?_; rfl; rfl; clear tk1))
            refine (without36 w.heap.size _ ((cs.take k).foldl dn (srt l)) d.x _ HO.out (Nat.le_trans hsl.out (by omega))).mono ?_
            rintro e w4 ⟨lv4, rfl, O4, b4⟩
            have HO4 : Hid (w4.ownsRow w.heap.size 36 10 lv4 ((cs.take (k + 1)).foldl dn (srt l)).length (es ((cs.take (k + 1)).foldl dn (srt l)))) := hide (by rw [HE.out]; exact row_mono36 HB.out.size O4)
            have HB4 := hide (below_more HB.out b4 HB.out.size)
            clear O4 b4 hA2 HO HB c11
            go_wp2
            go_roundw
            case rel => exact ⟨k + 1, by omega, by go_num, HO4.out, HB4.out⟩
            case measure => simp [intOf]; omega
          · rw [hg] at c11
            have HE : Hid ((cs.take (k + 1)).foldl dn (srt l) = up ((cs.take k).foldl dn (srt l)) d.x) := hide (by rw [HTK.out, dn, hg, if_neg (by simp)])
            clear hg HTK
            go_wp2_with (first | (have _t := tk1; refine wpl_ent (.tmp 42) rfl hA2 ?_ ?_ ?_; rfl; rfl; clear tk1))
            refine (with35 w.heap.size _ ((cs.take k).foldl dn (srt l)) d.x _ HO.out hsl.out hsr.out hmk.out hEx.out).mono ?_
            rintro e w4 ⟨lv4, rfl, O4, b4⟩
            have HO4 : Hid (w4.ownsRow w.heap.size 36 10 lv4 ((cs.take (k + 1)).foldl dn (srt l)).length (es ((cs.take (k + 1)).foldl dn (srt l)))) := hide (by rw [HE.out]; exact row_mono36 HB.out.size O4)
            have HB4 := hide (below_more HB.out b4 HB.out.size)
            clear O4 b4 hA2 HO HB c11
            go_wp2
            go_roundw
            case rel => exact ⟨k + 1, by omega, by go_num, HO4.out, HB4.out⟩
            case measure => simp [intOf]; omega
        · have hk2 : ¬ (k : Int) < (n2 : Int) := by omega
          have hall : cs.take k = cs := List.take_of_length_le (by rw [hcn'.out]; omega)
          rw [hall] at HO
          clear hall
          obtain ⟨ao4, c4, rfl, he⟩ := row_ets HO.out
          have HE := hide he
          clear he HO
          go_wp2
          go_ret
          exact ⟨ao4, c4, rfl, HE.out, HB.out⟩
end Go.Proofs.Ytjlmheecefobaaa
