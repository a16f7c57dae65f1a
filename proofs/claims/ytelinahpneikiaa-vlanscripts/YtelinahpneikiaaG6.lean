/- Contract of Vlans, as the document has it. -/
import Derived.Test.YtelinahpneikiaaD1
import Derived.Test.YtelinahpneikiaaG1
namespace Go.Proofs.Ytelinahpneikiaa
open Go.RowKit Go.PlainAid

theorem vls_yes {l : List Mm} {k : Nat} (h : anyv l ((k + 1 : Nat) : Int) = true) : vls l (k + 1) = vls l k ++ [((k + 1 : Nat) : Int)] := by rw [vls, h]; rfl
theorem vls_no {l : List Mm} {k : Nat} (h : anyv l ((k + 1 : Nat) : Int) = false) : vls l (k + 1) = vls l k := by rw [vls, h]; rfl
theorem anyv_drop {l : List Mm} {v : Int} {j : Nat} {m : Mm} (h : l[j]? = some m) (hi : anyv l v = anyv (l.drop j) v) : ((m.v == v) = true → anyv l v = true) ∧ ((m.v == v) = false → anyv l v = anyv (l.drop (j + 1)) v) := by
  have hl : j < l.length := (List.getElem?_eq_some_iff.1 h).1
  have e : l.drop j = m :: l.drop (j + 1) := by
    rw [List.drop_eq_getElem_cons hl]
    congr 1
    rw [List.getElem?_eq_getElem hl] at h
    exact Option.some.inj h
  rw [e] at hi
  have e2 : anyv (m :: l.drop (j + 1)) v = ((m.v == v) || anyv (l.drop (j + 1)) v) := rfl
  rw [e2] at hi
  exact ⟨fun hm => by rw [hi, hm]; rfl, fun hm => by rw [hi, hm]; rfl⟩
set_option maxRecDepth 100000 in
set_option maxHeartbeats 8000000 in
theorem vlans16 (g : Nat) (lv : Value) (T : Tb) (w : World) (R : RT w g lv T) :
    Calls Try.prog 16 #[.pointer (some ⟨g + 1, 0, none⟩)] w fun e w' => ∃ ao c, e = .returned (.slice ao (vls T.l 4094).length c) ∧ Its w' w.heap.size ao (vls T.l 4094).length c (vls T.l 4094) ∧ Below w.heap.size w w' := by
  have HR := hide R
  clear R
  go_enter Try.func16, Try.ntmps16
  go_wp2
  go_loopw [3, 4, 5] (fun s v _ wr => ∃ k : Nat, k ≤ 4094 ∧ v = .int .i64 ((k + 1 : Nat) : Int) ∧ Ms w wr s (vls T.l k)) (fun _ v _ _ => 4095 - (intOf v).toNat)
  case atStart => exact ⟨0, Nat.zero_le _, rfl, ⟨IRow.nil _ _, Below.refl _ _⟩⟩
  case round =>
    obtain ⟨k, hk, rfl, M⟩ := hrel
    have RW := hide (HR.out.on M.B)
    have c1 := RW.out.bx.cell 1 _ rfl
    have HM := hide M
    obtain ⟨ao, c, rfl, hI⟩ := M.row.its
    by_cases hlt : k < 4094
    · have hlt' : ((k + 1 : Nat) : Int) ≤ 4094 := by omega
      have hle := vls_len T.l k
      clear M hI
      generalize hxs : vls T.l k = xs at *
      go_wp2
      rcases RW.out.at with ⟨rfl, hl⟩ | ⟨b, cap, rfl, hb, hn, hmx, hcell⟩
      · have e1 : Hid (vls T.l (k + 1) = vls T.l k) := hide (vls_no (by rw [hl]; rfl))
        go_loopw [3, 5] (fun s i wr' => s = .slice ao xs.length c ∧ i = .int .i64 0 ∧ wr' = wr) (fun _ i _ => 1 - (intOf i).toNat)
        case atStart => exact ⟨rfl, rfl, rfl⟩
        case round =>
          obtain ⟨rfl, rfl, rfl⟩ := hrel
          go_wp2
          exact ⟨⟨k + 1, by omega, by go_num, by rw [e1.out, hxs]; exact HM.out⟩, by simp [intOf]; omega⟩
      · have HC := hide hcell
        unfold maxLen at hmx
        clear hcell
        go_loopw [3, 5] (fun s i wr' => ∃ j : Nat, s = .slice ao xs.length c ∧ j ≤ T.l.length ∧ i = .int .i64 j ∧ anyv T.l ((k + 1 : Nat) : Int) = anyv (T.l.drop j) ((k + 1 : Nat) : Int) ∧ wr' = wr) (fun _ i _ => T.l.length - (intOf i).toNat)
        case atStart => exact ⟨0, rfl, Nat.zero_le _, rfl, rfl, rfl⟩
        case round =>
          obtain ⟨j, rfl, hj, rfl, hE, rfl⟩ := hrel
          by_cases hjl : j < T.l.length
          · obtain ⟨m, hm⟩ : ∃ m, T.l[j]? = some m := ⟨_, List.getElem?_eq_getElem hjl⟩
            have hjl' : (j : Int) < T.l.length := by omega
            have hd := anyv_drop hm hE
            have cc := HC.out j m hm
            rcases Bool.eq_false_or_eq_true (m.v == ((k + 1 : Nat) : Int)) with hv | hv
            · have e1 : Hid (vls T.l (k + 1) = xs ++ [((k + 1 : Nat) : Int)]) := hide (by rw [vls_yes (hd.1 hv), hxs])
              have R2 := hide (HM.out.row.alloc (.cells #[.int .i64 ((k + 1 : Nat) : Int)] 3))
              have B2 := hide (belowOn HM.out.B (below_alloc wr (.cells #[.int .i64 ((k + 1 : Nat) : Int)] 3)))
              have hs2 : Hid (w.heap.size ≤ (wr.alloc (.cells #[.int .i64 ((k + 1 : Nat) : Int)] 3)).heap.size) := hide B2.out.size
              have C2 : Hid ((wr.alloc (.cells #[.int .i64 ((k + 1 : Nat) : Int)] 3)).cell? ⟨wr.heap.size, 0, none⟩ = some (.int .i64 ((k + 1 : Nat) : Int))) := hide (by rw [World.cell?_alloc_at _ _ _ _ rfl]; rfl)
              have hl1 : Hid (xs.length + 1 ≤ 100000) := hide (by omega)
              clear HM hd hE hm
              have tk1 : True := trivial
              go_wp2_with (first | (have _t := tk1; at_builtin; refine wpl_iapp rfl (.tmp 29) (.tmp 31) rfl w.heap.size _ _ _ rfl R2.out _ _ rfl C2.out hl1.out hs2.out ?_; clear tk1))
              intro v3 w3 R3 B3 _
              obtain ⟨ao3, c3, rfl, -⟩ := R3.its
              have M3 : Hid (Ms w w3 (.slice ao3 (xs.length + 1) c3) (xs ++ [((k + 1 : Nat) : Int)])) := hide ⟨by simpa using R3, B2.out.trans B3⟩
              clear R3 B3 R2 B2 C2 hs2 c1
              go_wp2
              exact ⟨⟨k + 1, by omega, by go_num, by rw [e1.out]; exact M3.out⟩, by simp [intOf]; omega⟩
            · have hE2 := hide (hd.2 hv)
              clear hd hE hm
              go_wp2
              go_roundw
              case rel => exact ⟨j + 1, rfl, by omega, by go_num, hE2.out, trivial⟩
              case measure => simp [intOf]; omega
          · obtain rfl : j = T.l.length := by omega
            have e1 : Hid (vls T.l (k + 1) = vls T.l k) := hide (vls_no (by rw [hE, List.drop_length]; rfl))
            clear hE
            go_wp2
            exact ⟨⟨k + 1, by omega, by go_num, by rw [e1.out, hxs]; exact HM.out⟩, by simp [intOf]; omega⟩
    · obtain rfl : k = 4094 := by omega
      have HI := hide hI
      have HB := hide M.B
      clear M hI HM
      go_wp2
      go_ret
      exact ⟨ao, c, rfl, HI.out, HB.out⟩
end Go.Proofs.Ytelinahpneikiaa
