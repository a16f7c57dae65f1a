/- The step that puts bytes down. -/
import Derived.Test.YtdaglmimfkcmeaaWa
import Derived.Deep.RegionLaw
import Derived.Laws.OwnMore
namespace Go.Proofs.Ytdaglmimfkcmeaa
open Go.RowKit

/-- Something is put behind a row that has room, in a region that draws its order. -/
theorem step_fit {ops : Array Oper} {o : Oper} {a : Act} {w : World} {C : Act → World → Prop} {Q : Exit → Act → World → Prop} {E : Prop} (hgd : o.guard = none) (s x : Operand)
    (ho : o.op = .call { callee := .builtin .append, args := #[s, x], argTypes := #[29, 29] })
    (G k K : Nat) (ns : List Int) (hs : a.eval s = .slice (some ⟨G, 0, none⟩) k 36) (hown : Own w G k ns) (ad : Addr) (m c : Nat) (ms : List Int) (hx : a.eval x = .slice (some ad) m c) (hB : Byt w (some ad) m c ms)
    (hK : k + m = K) (h1 : K ≤ 36)
    (h : ∀ w', Own w' G K (ns ++ ms) → w.grownBy w' (some G) → C (a.put o.dst (.slice (some ⟨G, 0, none⟩) K 36)) w') : if Region.wanted o (yielded ops a.tmps) = true then Oper.wp Try.prog o a w C Q else E := by
  subst hK
  obtain ⟨i0, hi, hz0, hz1, hz2⟩ := info_parts Try.info5
  have hw : Region.wanted o (yielded ops a.tmps) = true := by simp [Region.wanted, hgd]
  rw [if_pos hw]
  obtain ⟨w', hr, h2, h3⟩ := run_append_fits (P := Try.prog) w G 29 o.type 5 i0 1 Try.underlying29 hi hz1 G k 36 (ns.map (Value.int .u8)) hown.row ad m c (ms.map (Value.int .u8)) (by simp [hB.len]) hB.src (one_u8 ms) h1
  have hk := h w' ⟨by rw [List.map_append]; exact h2, Nat.lt_of_lt_of_le hown.lt h3.size⟩ h3
  unfold Oper.wp execOp
  simp only [ho, resolve, invoke, builtin, Sem.run_bind, Sem.run_pure, Result.andThen_ok, List.map_toArray, List.map_cons, List.map_nil, hs, hx, hr]
  exact hk
theorem Own.drew {w : World} {G k : Nat} {ns : List Int} (h : Own w G k ns) : Own w.drew G k ns := ⟨h.row.drew, h.lt⟩

/-- The program's slice of room for 36, in a variable. -/
structure Put (G k : Nat) (ns : List Int) (w : World) : Prop where
  at_ : w.cell? ⟨k, 0, none⟩ = some (.slice (some ⟨G, 0, none⟩) ns.length 36)
  fr : w.frozen? ⟨k, 0, none⟩ = false
  own : Own w G ns.length ns
  ne : G < k
  lt : k < w.heap.size
theorem Put.on {G k : Nat} {ns : List Int} {w w1 : World} (h : Put G k ns w) (hb : Below (k + 1) w w1) : Put G k ns w1 := by
  have e : w1.heap[G]? = w.heap[G]? := hb.block G (by have := h.ne; omega)
  refine ⟨(hb.cell (p := ⟨k, 0, none⟩) (Nat.lt_succ_self k)).trans h.at_, (hb.frozen (p := ⟨k, 0, none⟩) (Nat.lt_succ_self k)).trans h.fr, ⟨?_, Nat.lt_of_lt_of_le h.own.lt hb.size⟩, h.ne, Nat.lt_of_lt_of_le h.lt hb.size⟩
  obtain ⟨h1, h2⟩ := h.own.row
  refine ⟨h1, ?_⟩
  rcases h2 with ⟨e1, _⟩ | ⟨g, cap, cur, e1, hbg, hg, rest⟩
  · cases e1
  · refine Or.inr ⟨g, cap, cur, e1, hbg, ?_, rest⟩
    injection e1 with e2 e3 e4
    injection Option.some.inj e2 with e5
    subst e5
    rw [e]
    exact hg
theorem Put.alloc {G k : Nat} {ns : List Int} {w : World} (h : Put G k ns w) (o : Obj) : Put G k ns (w.alloc o) := h.on ((below_alloc w o).mono h.lt)
theorem Put.drew {G k : Nat} {ns : List Int} {w : World} (h : Put G k ns w) : Put G k ns w.drew := ⟨h.at_, h.fr, h.own.drew, h.ne, h.lt⟩
/-- One byte put down, and the variable set. -/
theorem Put.more {G k : Nat} {ns ms : List Int} {w w1 : World} (h : Put G k ns w) (ho : Own w1 G (ns.length + ms.length) (ns ++ ms)) (hg : w.grownBy w1 (some G)) :
    Put G k (ns ++ ms) (w1.setCell ⟨k, 0, none⟩ (.slice (some ⟨G, 0, none⟩) (ns.length + ms.length) 36)) ∧ Mid G (k + 1) w (w1.setCell ⟨k, 0, none⟩ (.slice (some ⟨G, 0, none⟩) (ns.length + ms.length) 36)) := by
  have hne := h.ne
  have g2 := setCell_grown w1 k 0 (.slice (some ⟨G, 0, none⟩) (ns.length + ms.length) 36)
  have c1 := hg.cell h.at_ (fun e => absurd (Option.some.inj e) (Nat.ne_of_gt hne))
  have f1 : w1.frozen? ⟨k, 0, none⟩ = false := (World.frozen?_of_block (a := ⟨k, 0, none⟩) (hg.block k h.lt (fun e => by have := Option.some.inj e; omega))).trans h.fr
  refine ⟨⟨by rw [World.cell?_setCell_same _ _ _ c1, List.length_append], by rw [World.frozen?_setCell]; exact f1, ⟨?_, Nat.lt_of_lt_of_le ho.lt g2.size⟩, hne, Nat.lt_of_lt_of_le (Nat.lt_of_lt_of_le h.lt hg.size) g2.size⟩, ?_⟩
  · rw [List.length_append]
    exact World.ownsRow.kept (row := some k) ho.row g2 (Or.inr (by simp only [Value.ownBlock]; intro e; injection e with e; omega))
  · exact ((Mid.refl G (k + 1) w).grown hg (Or.inr ⟨Nat.le_refl _, by omega⟩)).grown g2 (Or.inr ⟨by omega, by omega⟩)
set_option maxRecDepth 100000 in
set_option maxHeartbeats 4000000 in
theorem put19_1 (G k : Nat) (ns : List Int) (n : Int) (w : World) (h : Put G k ns w) (hl : ns.length + 1 ≤ 36) (f : fit 1 n = true) :
    Calls Try.prog 19 #[.int .i64 n, .int .i64 1, .pointer (some ⟨k, 0, none⟩)] w fun e w' => Mid G (k + 1) w w' ∧ e = .returned (.int .i64 n) ∧ Put G k (ns ++ be 1 n) w' := by
  have fn := fit_and f
  have F := hide f
  clear f fn
  go_enter Try.func19, Try.ntmps19
  go_wp2
  go_loopw [8] (fun i wr => ∃ m : Nat, m ≤ 1 ∧ i = .int .i64 m ∧ Put G k (ns ++ (be 1 n).take m) wr ∧ Mid G (k + 1) w wr) (fun i _ => 1 - (intOf i).toNat)
  case atStart => exact ⟨0, by omega, rfl, by rw [List.take_zero, List.append_nil]; exact h, Mid.refl _ _ _⟩
  case round =>
    obtain ⟨m, hm, rfl, P, M⟩ := hrel
    have hm' : m = 0 ∨ m = 1 := by omega
    rcases hm' with e | e <;> subst e
    · have hx : IntKind.u8.wrap (n) = n % 256 := by rw [u8_mod]
      generalize hL : ns ++ (be 1 n).take 0 = L at P
      have hl2 : L.length + 1 ≤ 36 := by rw [← hL, List.length_append, List.length_take, be_length]; omega
      have hN : Hid (ns ++ (be 1 n).take 1 = L ++ [n % 256]) := by
        rw [← hL, List.append_assoc]
        exact hide rfl
      have c1 := P.at_
      have hlt := P.lt
      have HP := hide ((P.alloc (.cells #[.int .u8 (n % 256)] 5)).drew)
      have HM := hide ((M.on (below_alloc wr (.cells #[.int .u8 (n % 256)] 5))))
      have w0 : IntKind.i64.wrap 0 = 0 := IntWalk.i64_in _ (by omega)
      have w1' : IntKind.i64.wrap 0 = 0 := IntWalk.i64_in _ (by omega)
      have w2' : IntKind.i64.wrap 0 = 0 := IntWalk.i64_in _ (by omega)
      have w3' : IntKind.i64.wrap 0 = 0 := IntWalk.i64_in _ (by omega)
      have hsh : ∀ w : World, (Op.shift .shr .i64 n .i64 0).run Try.prog w = .ok (.int .i64 (n)) w := fun w => by simp [go_sem]
      have BB := hide ((byt1 wr (n % 256) (by omega)).drew)
      clear P hL M h
      go_wp2_with fail
      go_region_law ((refine step_fit (by rfl) _ _ (by rfl) G L.length (L.length + 1) L (by rfl) HP.out.own _ 1 1 _ (by rfl) BB.out rfl hl2 ?_; intro u1 ho hg; have c2 := hg.cell HP.out.at_ (fun e => absurd (Option.some.inj e) (Nat.ne_of_gt HP.out.ne)); have f2 : u1.frozen? ⟨k, 0, none⟩ = false := ((World.frozen?_of_block (a := ⟨k, 0, none⟩) (hg.block k HP.out.lt (fun e => absurd (Option.some.inj e) (Nat.ne_of_gt HP.out.ne)))).trans HP.out.fr)))
      all_goals
        have HQ := hide (Put.more (ms := [n % 256]) HP.out ho hg)
        clear c1 c2 f2 ho hg hlt
        go_wp2
        go_roundw
        case rel => exact ⟨1, by omega, by go_num, by rw [hN.out]; exact HQ.out.1, Mid.trans (w1 := (wr.alloc (.cells #[.int .u8 (n % 256)] 5)).drew) ⟨HM.out.os, HM.out.tape, HM.out.output, HM.out.size, HM.out.block⟩ HQ.out.2⟩
        case measure => simp [intOf]
    · clear h
      go_wp2
      go_ret
      exact ⟨M, rfl, by rw [List.take_of_length_le (Nat.le_of_eq (be_length _ _))] at P; exact P⟩
set_option maxRecDepth 100000 in
set_option maxHeartbeats 4000000 in
theorem put19_2 (G k : Nat) (ns : List Int) (n : Int) (w : World) (h : Put G k ns w) (hl : ns.length + 2 ≤ 36) (f : fit 2 n = true) :
    Calls Try.prog 19 #[.int .i64 n, .int .i64 2, .pointer (some ⟨k, 0, none⟩)] w fun e w' => Mid G (k + 1) w w' ∧ e = .returned (.int .i64 n) ∧ Put G k (ns ++ be 2 n) w' := by
  have fn := fit_and f
  have F := hide f
  clear f fn
  go_enter Try.func19, Try.ntmps19
  go_wp2
  go_loopw [8] (fun i wr => ∃ m : Nat, m ≤ 2 ∧ i = .int .i64 m ∧ Put G k (ns ++ (be 2 n).take m) wr ∧ Mid G (k + 1) w wr) (fun i _ => 2 - (intOf i).toNat)
  case atStart => exact ⟨0, by omega, rfl, by rw [List.take_zero, List.append_nil]; exact h, Mid.refl _ _ _⟩
  case round =>
    obtain ⟨m, hm, rfl, P, M⟩ := hrel
    have hm' : m = 0 ∨ m = 1 ∨ m = 2 := by omega
    rcases hm' with e | e | e <;> subst e
    · have hx : IntKind.u8.wrap (n / 256) = n / 256 % 256 := by rw [u8_mod]
      generalize hL : ns ++ (be 2 n).take 0 = L at P
      have hl2 : L.length + 1 ≤ 36 := by rw [← hL, List.length_append, List.length_take, be_length]; omega
      have hN : Hid (ns ++ (be 2 n).take 1 = L ++ [n / 256 % 256]) := by
        rw [← hL, List.append_assoc]
        exact hide rfl
      have c1 := P.at_
      have hlt := P.lt
      have HP := hide ((P.alloc (.cells #[.int .u8 (n / 256 % 256)] 5)).drew)
      have HM := hide ((M.on (below_alloc wr (.cells #[.int .u8 (n / 256 % 256)] 5))))
      have w0 : IntKind.i64.wrap 0 = 0 := IntWalk.i64_in _ (by omega)
      have w1' : IntKind.i64.wrap 1 = 1 := IntWalk.i64_in _ (by omega)
      have w2' : IntKind.i64.wrap 1 = 1 := IntWalk.i64_in _ (by omega)
      have w3' : IntKind.i64.wrap 8 = 8 := IntWalk.i64_in _ (by omega)
      have hsh : ∀ w : World, (Op.shift .shr .i64 n .i64 8).run Try.prog w = .ok (.int .i64 (n / 256)) w := fun w => by simp [go_sem]
      have BB := hide ((byt1 wr (n / 256 % 256) (by omega)).drew)
      clear P hL M h
      go_wp2_with fail
      go_region_law ((refine step_fit (by rfl) _ _ (by rfl) G L.length (L.length + 1) L (by rfl) HP.out.own _ 1 1 _ (by rfl) BB.out rfl hl2 ?_; intro u1 ho hg; have c2 := hg.cell HP.out.at_ (fun e => absurd (Option.some.inj e) (Nat.ne_of_gt HP.out.ne)); have f2 : u1.frozen? ⟨k, 0, none⟩ = false := ((World.frozen?_of_block (a := ⟨k, 0, none⟩) (hg.block k HP.out.lt (fun e => absurd (Option.some.inj e) (Nat.ne_of_gt HP.out.ne)))).trans HP.out.fr)))
      all_goals
        have HQ := hide (Put.more (ms := [n / 256 % 256]) HP.out ho hg)
        clear c1 c2 f2 ho hg hlt
        go_wp2
        go_roundw
        case rel => exact ⟨1, by omega, by go_num, by rw [hN.out]; exact HQ.out.1, Mid.trans (w1 := (wr.alloc (.cells #[.int .u8 (n / 256 % 256)] 5)).drew) ⟨HM.out.os, HM.out.tape, HM.out.output, HM.out.size, HM.out.block⟩ HQ.out.2⟩
        case measure => simp [intOf]
    · have hx : IntKind.u8.wrap (n) = n % 256 := by rw [u8_mod]
      generalize hL : ns ++ (be 2 n).take 1 = L at P
      have hl2 : L.length + 1 ≤ 36 := by rw [← hL, List.length_append, List.length_take, be_length]; omega
      have hN : Hid (ns ++ (be 2 n).take 2 = L ++ [n % 256]) := by
        rw [← hL, List.append_assoc]
        exact hide rfl
      have c1 := P.at_
      have hlt := P.lt
      have HP := hide ((P.alloc (.cells #[.int .u8 (n % 256)] 5)).drew)
      have HM := hide ((M.on (below_alloc wr (.cells #[.int .u8 (n % 256)] 5))))
      have w0 : IntKind.i64.wrap 0 = 0 := IntWalk.i64_in _ (by omega)
      have w1' : IntKind.i64.wrap 1 = 1 := IntWalk.i64_in _ (by omega)
      have w2' : IntKind.i64.wrap 0 = 0 := IntWalk.i64_in _ (by omega)
      have w3' : IntKind.i64.wrap 0 = 0 := IntWalk.i64_in _ (by omega)
      have hsh : ∀ w : World, (Op.shift .shr .i64 n .i64 0).run Try.prog w = .ok (.int .i64 (n)) w := fun w => by simp [go_sem]
      have BB := hide ((byt1 wr (n % 256) (by omega)).drew)
      clear P hL M h
      go_wp2_with fail
      go_region_law ((refine step_fit (by rfl) _ _ (by rfl) G L.length (L.length + 1) L (by rfl) HP.out.own _ 1 1 _ (by rfl) BB.out rfl hl2 ?_; intro u1 ho hg; have c2 := hg.cell HP.out.at_ (fun e => absurd (Option.some.inj e) (Nat.ne_of_gt HP.out.ne)); have f2 : u1.frozen? ⟨k, 0, none⟩ = false := ((World.frozen?_of_block (a := ⟨k, 0, none⟩) (hg.block k HP.out.lt (fun e => absurd (Option.some.inj e) (Nat.ne_of_gt HP.out.ne)))).trans HP.out.fr)))
      all_goals
        have HQ := hide (Put.more (ms := [n % 256]) HP.out ho hg)
        clear c1 c2 f2 ho hg hlt
        go_wp2
        go_roundw
        case rel => exact ⟨2, by omega, by go_num, by rw [hN.out]; exact HQ.out.1, Mid.trans (w1 := (wr.alloc (.cells #[.int .u8 (n % 256)] 5)).drew) ⟨HM.out.os, HM.out.tape, HM.out.output, HM.out.size, HM.out.block⟩ HQ.out.2⟩
        case measure => simp [intOf]
    · clear h
      go_wp2
      go_ret
      exact ⟨M, rfl, by rw [List.take_of_length_le (Nat.le_of_eq (be_length _ _))] at P; exact P⟩
set_option maxRecDepth 100000 in
set_option maxHeartbeats 4000000 in
theorem put19_4 (G k : Nat) (ns : List Int) (n : Int) (w : World) (h : Put G k ns w) (hl : ns.length + 4 ≤ 36) (f : fit 4 n = true) :
    Calls Try.prog 19 #[.int .i64 n, .int .i64 4, .pointer (some ⟨k, 0, none⟩)] w fun e w' => Mid G (k + 1) w w' ∧ e = .returned (.int .i64 n) ∧ Put G k (ns ++ be 4 n) w' := by
  have fn := fit_and f
  have F := hide f
  clear f fn
  go_enter Try.func19, Try.ntmps19
  go_wp2
  go_loopw [8] (fun i wr => ∃ m : Nat, m ≤ 4 ∧ i = .int .i64 m ∧ Put G k (ns ++ (be 4 n).take m) wr ∧ Mid G (k + 1) w wr) (fun i _ => 4 - (intOf i).toNat)
  case atStart => exact ⟨0, by omega, rfl, by rw [List.take_zero, List.append_nil]; exact h, Mid.refl _ _ _⟩
  case round =>
    obtain ⟨m, hm, rfl, P, M⟩ := hrel
    have hm' : m = 0 ∨ m = 1 ∨ m = 2 ∨ m = 3 ∨ m = 4 := by omega
    rcases hm' with e | e | e | e | e <;> subst e
    · have hx : IntKind.u8.wrap (n / 16777216) = n / 256 / 256 / 256 % 256 := by rw [u8_mod]; omega
      generalize hL : ns ++ (be 4 n).take 0 = L at P
      have hl2 : L.length + 1 ≤ 36 := by rw [← hL, List.length_append, List.length_take, be_length]; omega
      have hN : Hid (ns ++ (be 4 n).take 1 = L ++ [n / 256 / 256 / 256 % 256]) := by
        rw [← hL, List.append_assoc]
        exact hide rfl
      have c1 := P.at_
      have hlt := P.lt
      have HP := hide ((P.alloc (.cells #[.int .u8 (n / 256 / 256 / 256 % 256)] 5)).drew)
      have HM := hide ((M.on (below_alloc wr (.cells #[.int .u8 (n / 256 / 256 / 256 % 256)] 5))))
      have w0 : IntKind.i64.wrap 0 = 0 := IntWalk.i64_in _ (by omega)
      have w1' : IntKind.i64.wrap 3 = 3 := IntWalk.i64_in _ (by omega)
      have w2' : IntKind.i64.wrap 3 = 3 := IntWalk.i64_in _ (by omega)
      have w3' : IntKind.i64.wrap 24 = 24 := IntWalk.i64_in _ (by omega)
      have hsh : ∀ w : World, (Op.shift .shr .i64 n .i64 24).run Try.prog w = .ok (.int .i64 (n / 16777216)) w := fun w => by simp [go_sem]
      have BB := hide ((byt1 wr (n / 256 / 256 / 256 % 256) (by omega)).drew)
      clear P hL M h
      go_wp2_with fail
      go_region_law ((refine step_fit (by rfl) _ _ (by rfl) G L.length (L.length + 1) L (by rfl) HP.out.own _ 1 1 _ (by rfl) BB.out rfl hl2 ?_; intro u1 ho hg; have c2 := hg.cell HP.out.at_ (fun e => absurd (Option.some.inj e) (Nat.ne_of_gt HP.out.ne)); have f2 : u1.frozen? ⟨k, 0, none⟩ = false := ((World.frozen?_of_block (a := ⟨k, 0, none⟩) (hg.block k HP.out.lt (fun e => absurd (Option.some.inj e) (Nat.ne_of_gt HP.out.ne)))).trans HP.out.fr)))
      all_goals
        have HQ := hide (Put.more (ms := [n / 256 / 256 / 256 % 256]) HP.out ho hg)
        clear c1 c2 f2 ho hg hlt
        go_wp2
        go_roundw
        case rel => exact ⟨1, by omega, by go_num, by rw [hN.out]; exact HQ.out.1, Mid.trans (w1 := (wr.alloc (.cells #[.int .u8 (n / 256 / 256 / 256 % 256)] 5)).drew) ⟨HM.out.os, HM.out.tape, HM.out.output, HM.out.size, HM.out.block⟩ HQ.out.2⟩
        case measure => simp [intOf]
    · have hx : IntKind.u8.wrap (n / 65536) = n / 256 / 256 % 256 := by rw [u8_mod]; omega
      generalize hL : ns ++ (be 4 n).take 1 = L at P
      have hl2 : L.length + 1 ≤ 36 := by rw [← hL, List.length_append, List.length_take, be_length]; omega
      have hN : Hid (ns ++ (be 4 n).take 2 = L ++ [n / 256 / 256 % 256]) := by
        rw [← hL, List.append_assoc]
        exact hide rfl
      have c1 := P.at_
      have hlt := P.lt
      have HP := hide ((P.alloc (.cells #[.int .u8 (n / 256 / 256 % 256)] 5)).drew)
      have HM := hide ((M.on (below_alloc wr (.cells #[.int .u8 (n / 256 / 256 % 256)] 5))))
      have w0 : IntKind.i64.wrap 0 = 0 := IntWalk.i64_in _ (by omega)
      have w1' : IntKind.i64.wrap 3 = 3 := IntWalk.i64_in _ (by omega)
      have w2' : IntKind.i64.wrap 2 = 2 := IntWalk.i64_in _ (by omega)
      have w3' : IntKind.i64.wrap 16 = 16 := IntWalk.i64_in _ (by omega)
      have hsh : ∀ w : World, (Op.shift .shr .i64 n .i64 16).run Try.prog w = .ok (.int .i64 (n / 65536)) w := fun w => by simp [go_sem]
      have BB := hide ((byt1 wr (n / 256 / 256 % 256) (by omega)).drew)
      clear P hL M h
      go_wp2_with fail
      go_region_law ((refine step_fit (by rfl) _ _ (by rfl) G L.length (L.length + 1) L (by rfl) HP.out.own _ 1 1 _ (by rfl) BB.out rfl hl2 ?_; intro u1 ho hg; have c2 := hg.cell HP.out.at_ (fun e => absurd (Option.some.inj e) (Nat.ne_of_gt HP.out.ne)); have f2 : u1.frozen? ⟨k, 0, none⟩ = false := ((World.frozen?_of_block (a := ⟨k, 0, none⟩) (hg.block k HP.out.lt (fun e => absurd (Option.some.inj e) (Nat.ne_of_gt HP.out.ne)))).trans HP.out.fr)))
      all_goals
        have HQ := hide (Put.more (ms := [n / 256 / 256 % 256]) HP.out ho hg)
        clear c1 c2 f2 ho hg hlt
        go_wp2
        go_roundw
        case rel => exact ⟨2, by omega, by go_num, by rw [hN.out]; exact HQ.out.1, Mid.trans (w1 := (wr.alloc (.cells #[.int .u8 (n / 256 / 256 % 256)] 5)).drew) ⟨HM.out.os, HM.out.tape, HM.out.output, HM.out.size, HM.out.block⟩ HQ.out.2⟩
        case measure => simp [intOf]
    · have hx : IntKind.u8.wrap (n / 256) = n / 256 % 256 := by rw [u8_mod]
      generalize hL : ns ++ (be 4 n).take 2 = L at P
      have hl2 : L.length + 1 ≤ 36 := by rw [← hL, List.length_append, List.length_take, be_length]; omega
      have hN : Hid (ns ++ (be 4 n).take 3 = L ++ [n / 256 % 256]) := by
        rw [← hL, List.append_assoc]
        exact hide rfl
      have c1 := P.at_
      have hlt := P.lt
      have HP := hide ((P.alloc (.cells #[.int .u8 (n / 256 % 256)] 5)).drew)
      have HM := hide ((M.on (below_alloc wr (.cells #[.int .u8 (n / 256 % 256)] 5))))
      have w0 : IntKind.i64.wrap 0 = 0 := IntWalk.i64_in _ (by omega)
      have w1' : IntKind.i64.wrap 3 = 3 := IntWalk.i64_in _ (by omega)
      have w2' : IntKind.i64.wrap 1 = 1 := IntWalk.i64_in _ (by omega)
      have w3' : IntKind.i64.wrap 8 = 8 := IntWalk.i64_in _ (by omega)
      have hsh : ∀ w : World, (Op.shift .shr .i64 n .i64 8).run Try.prog w = .ok (.int .i64 (n / 256)) w := fun w => by simp [go_sem]
      have BB := hide ((byt1 wr (n / 256 % 256) (by omega)).drew)
      clear P hL M h
      go_wp2_with fail
      go_region_law ((refine step_fit (by rfl) _ _ (by rfl) G L.length (L.length + 1) L (by rfl) HP.out.own _ 1 1 _ (by rfl) BB.out rfl hl2 ?_; intro u1 ho hg; have c2 := hg.cell HP.out.at_ (fun e => absurd (Option.some.inj e) (Nat.ne_of_gt HP.out.ne)); have f2 : u1.frozen? ⟨k, 0, none⟩ = false := ((World.frozen?_of_block (a := ⟨k, 0, none⟩) (hg.block k HP.out.lt (fun e => absurd (Option.some.inj e) (Nat.ne_of_gt HP.out.ne)))).trans HP.out.fr)))
      all_goals
        have HQ := hide (Put.more (ms := [n / 256 % 256]) HP.out ho hg)
        clear c1 c2 f2 ho hg hlt
        go_wp2
        go_roundw
        case rel => exact ⟨3, by omega, by go_num, by rw [hN.out]; exact HQ.out.1, Mid.trans (w1 := (wr.alloc (.cells #[.int .u8 (n / 256 % 256)] 5)).drew) ⟨HM.out.os, HM.out.tape, HM.out.output, HM.out.size, HM.out.block⟩ HQ.out.2⟩
        case measure => simp [intOf]
    · have hx : IntKind.u8.wrap (n) = n % 256 := by rw [u8_mod]
      generalize hL : ns ++ (be 4 n).take 3 = L at P
      have hl2 : L.length + 1 ≤ 36 := by rw [← hL, List.length_append, List.length_take, be_length]; omega
      have hN : Hid (ns ++ (be 4 n).take 4 = L ++ [n % 256]) := by
        rw [← hL, List.append_assoc]
        exact hide rfl
      have c1 := P.at_
      have hlt := P.lt
      have HP := hide ((P.alloc (.cells #[.int .u8 (n % 256)] 5)).drew)
      have HM := hide ((M.on (below_alloc wr (.cells #[.int .u8 (n % 256)] 5))))
      have w0 : IntKind.i64.wrap 0 = 0 := IntWalk.i64_in _ (by omega)
      have w1' : IntKind.i64.wrap 3 = 3 := IntWalk.i64_in _ (by omega)
      have w2' : IntKind.i64.wrap 0 = 0 := IntWalk.i64_in _ (by omega)
      have w3' : IntKind.i64.wrap 0 = 0 := IntWalk.i64_in _ (by omega)
      have hsh : ∀ w : World, (Op.shift .shr .i64 n .i64 0).run Try.prog w = .ok (.int .i64 (n)) w := fun w => by simp [go_sem]
      have BB := hide ((byt1 wr (n % 256) (by omega)).drew)
      clear P hL M h
      go_wp2_with fail
      go_region_law ((refine step_fit (by rfl) _ _ (by rfl) G L.length (L.length + 1) L (by rfl) HP.out.own _ 1 1 _ (by rfl) BB.out rfl hl2 ?_; intro u1 ho hg; have c2 := hg.cell HP.out.at_ (fun e => absurd (Option.some.inj e) (Nat.ne_of_gt HP.out.ne)); have f2 : u1.frozen? ⟨k, 0, none⟩ = false := ((World.frozen?_of_block (a := ⟨k, 0, none⟩) (hg.block k HP.out.lt (fun e => absurd (Option.some.inj e) (Nat.ne_of_gt HP.out.ne)))).trans HP.out.fr)))
      all_goals
        have HQ := hide (Put.more (ms := [n % 256]) HP.out ho hg)
        clear c1 c2 f2 ho hg hlt
        go_wp2
        go_roundw
        case rel => exact ⟨4, by omega, by go_num, by rw [hN.out]; exact HQ.out.1, Mid.trans (w1 := (wr.alloc (.cells #[.int .u8 (n % 256)] 5)).drew) ⟨HM.out.os, HM.out.tape, HM.out.output, HM.out.size, HM.out.block⟩ HQ.out.2⟩
        case measure => simp [intOf]
    · clear h
      go_wp2
      go_ret
      exact ⟨M, rfl, by rw [List.take_of_length_le (Nat.le_of_eq (be_length _ _))] at P; exact P⟩
set_option maxRecDepth 100000 in
set_option maxHeartbeats 4000000 in
theorem put19_6 (G k : Nat) (ns : List Int) (n : Int) (w : World) (h : Put G k ns w) (hl : ns.length + 6 ≤ 36) (f : fit 6 n = true) :
    Calls Try.prog 19 #[.int .i64 n, .int .i64 6, .pointer (some ⟨k, 0, none⟩)] w fun e w' => Mid G (k + 1) w w' ∧ e = .returned (.int .i64 n) ∧ Put G k (ns ++ be 6 n) w' := by
  have fn := fit_and f
  have F := hide f
  clear f fn
  go_enter Try.func19, Try.ntmps19
  go_wp2
  go_loopw [8] (fun i wr => ∃ m : Nat, m ≤ 6 ∧ i = .int .i64 m ∧ Put G k (ns ++ (be 6 n).take m) wr ∧ Mid G (k + 1) w wr) (fun i _ => 6 - (intOf i).toNat)
  case atStart => exact ⟨0, by omega, rfl, by rw [List.take_zero, List.append_nil]; exact h, Mid.refl _ _ _⟩
  case round =>
    obtain ⟨m, hm, rfl, P, M⟩ := hrel
    have hm' : m = 0 ∨ m = 1 ∨ m = 2 ∨ m = 3 ∨ m = 4 ∨ m = 5 ∨ m = 6 := by omega
    rcases hm' with e | e | e | e | e | e | e <;> subst e
    · have hx : IntKind.u8.wrap (n / 1099511627776) = n / 256 / 256 / 256 / 256 / 256 % 256 := by rw [u8_mod]; omega
      generalize hL : ns ++ (be 6 n).take 0 = L at P
      have hl2 : L.length + 1 ≤ 36 := by rw [← hL, List.length_append, List.length_take, be_length]; omega
      have hN : Hid (ns ++ (be 6 n).take 1 = L ++ [n / 256 / 256 / 256 / 256 / 256 % 256]) := by
        rw [← hL, List.append_assoc]
        exact hide rfl
      have c1 := P.at_
      have hlt := P.lt
      have HP := hide ((P.alloc (.cells #[.int .u8 (n / 256 / 256 / 256 / 256 / 256 % 256)] 5)).drew)
      have HM := hide ((M.on (below_alloc wr (.cells #[.int .u8 (n / 256 / 256 / 256 / 256 / 256 % 256)] 5))))
      have w0 : IntKind.i64.wrap 0 = 0 := IntWalk.i64_in _ (by omega)
      have w1' : IntKind.i64.wrap 5 = 5 := IntWalk.i64_in _ (by omega)
      have w2' : IntKind.i64.wrap 5 = 5 := IntWalk.i64_in _ (by omega)
      have w3' : IntKind.i64.wrap 40 = 40 := IntWalk.i64_in _ (by omega)
      have hsh : ∀ w : World, (Op.shift .shr .i64 n .i64 40).run Try.prog w = .ok (.int .i64 (n / 1099511627776)) w := fun w => by simp [go_sem]
      have BB := hide ((byt1 wr (n / 256 / 256 / 256 / 256 / 256 % 256) (by omega)).drew)
      clear P hL M h
      go_wp2_with fail
      go_region_law ((refine step_fit (by rfl) _ _ (by rfl) G L.length (L.length + 1) L (by rfl) HP.out.own _ 1 1 _ (by rfl) BB.out rfl hl2 ?_; intro u1 ho hg; have c2 := hg.cell HP.out.at_ (fun e => absurd (Option.some.inj e) (Nat.ne_of_gt HP.out.ne)); have f2 : u1.frozen? ⟨k, 0, none⟩ = false := ((World.frozen?_of_block (a := ⟨k, 0, none⟩) (hg.block k HP.out.lt (fun e => absurd (Option.some.inj e) (Nat.ne_of_gt HP.out.ne)))).trans HP.out.fr)))
      all_goals
        have HQ := hide (Put.more (ms := [n / 256 / 256 / 256 / 256 / 256 % 256]) HP.out ho hg)
        clear c1 c2 f2 ho hg hlt
        go_wp2
        go_roundw
        case rel => exact ⟨1, by omega, by go_num, by rw [hN.out]; exact HQ.out.1, Mid.trans (w1 := (wr.alloc (.cells #[.int .u8 (n / 256 / 256 / 256 / 256 / 256 % 256)] 5)).drew) ⟨HM.out.os, HM.out.tape, HM.out.output, HM.out.size, HM.out.block⟩ HQ.out.2⟩
        case measure => simp [intOf]
    · have hx : IntKind.u8.wrap (n / 4294967296) = n / 256 / 256 / 256 / 256 % 256 := by rw [u8_mod]; omega
      generalize hL : ns ++ (be 6 n).take 1 = L at P
      have hl2 : L.length + 1 ≤ 36 := by rw [← hL, List.length_append, List.length_take, be_length]; omega
      have hN : Hid (ns ++ (be 6 n).take 2 = L ++ [n / 256 / 256 / 256 / 256 % 256]) := by
        rw [← hL, List.append_assoc]
        exact hide rfl
      have c1 := P.at_
      have hlt := P.lt
      have HP := hide ((P.alloc (.cells #[.int .u8 (n / 256 / 256 / 256 / 256 % 256)] 5)).drew)
      have HM := hide ((M.on (below_alloc wr (.cells #[.int .u8 (n / 256 / 256 / 256 / 256 % 256)] 5))))
      have w0 : IntKind.i64.wrap 0 = 0 := IntWalk.i64_in _ (by omega)
      have w1' : IntKind.i64.wrap 5 = 5 := IntWalk.i64_in _ (by omega)
      have w2' : IntKind.i64.wrap 4 = 4 := IntWalk.i64_in _ (by omega)
      have w3' : IntKind.i64.wrap 32 = 32 := IntWalk.i64_in _ (by omega)
      have hsh : ∀ w : World, (Op.shift .shr .i64 n .i64 32).run Try.prog w = .ok (.int .i64 (n / 4294967296)) w := fun w => by simp [go_sem]
      have BB := hide ((byt1 wr (n / 256 / 256 / 256 / 256 % 256) (by omega)).drew)
      clear P hL M h
      go_wp2_with fail
      go_region_law ((refine step_fit (by rfl) _ _ (by rfl) G L.length (L.length + 1) L (by rfl) HP.out.own _ 1 1 _ (by rfl) BB.out rfl hl2 ?_; intro u1 ho hg; have c2 := hg.cell HP.out.at_ (fun e => absurd (Option.some.inj e) (Nat.ne_of_gt HP.out.ne)); have f2 : u1.frozen? ⟨k, 0, none⟩ = false := ((World.frozen?_of_block (a := ⟨k, 0, none⟩) (hg.block k HP.out.lt (fun e => absurd (Option.some.inj e) (Nat.ne_of_gt HP.out.ne)))).trans HP.out.fr)))
      all_goals
        have HQ := hide (Put.more (ms := [n / 256 / 256 / 256 / 256 % 256]) HP.out ho hg)
        clear c1 c2 f2 ho hg hlt
        go_wp2
        go_roundw
        case rel => exact ⟨2, by omega, by go_num, by rw [hN.out]; exact HQ.out.1, Mid.trans (w1 := (wr.alloc (.cells #[.int .u8 (n / 256 / 256 / 256 / 256 % 256)] 5)).drew) ⟨HM.out.os, HM.out.tape, HM.out.output, HM.out.size, HM.out.block⟩ HQ.out.2⟩
        case measure => simp [intOf]
    · have hx : IntKind.u8.wrap (n / 16777216) = n / 256 / 256 / 256 % 256 := by rw [u8_mod]; omega
      generalize hL : ns ++ (be 6 n).take 2 = L at P
      have hl2 : L.length + 1 ≤ 36 := by rw [← hL, List.length_append, List.length_take, be_length]; omega
      have hN : Hid (ns ++ (be 6 n).take 3 = L ++ [n / 256 / 256 / 256 % 256]) := by
        rw [← hL, List.append_assoc]
        exact hide rfl
      have c1 := P.at_
      have hlt := P.lt
      have HP := hide ((P.alloc (.cells #[.int .u8 (n / 256 / 256 / 256 % 256)] 5)).drew)
      have HM := hide ((M.on (below_alloc wr (.cells #[.int .u8 (n / 256 / 256 / 256 % 256)] 5))))
      have w0 : IntKind.i64.wrap 0 = 0 := IntWalk.i64_in _ (by omega)
      have w1' : IntKind.i64.wrap 5 = 5 := IntWalk.i64_in _ (by omega)
      have w2' : IntKind.i64.wrap 3 = 3 := IntWalk.i64_in _ (by omega)
      have w3' : IntKind.i64.wrap 24 = 24 := IntWalk.i64_in _ (by omega)
      have hsh : ∀ w : World, (Op.shift .shr .i64 n .i64 24).run Try.prog w = .ok (.int .i64 (n / 16777216)) w := fun w => by simp [go_sem]
      have BB := hide ((byt1 wr (n / 256 / 256 / 256 % 256) (by omega)).drew)
      clear P hL M h
      go_wp2_with fail
      go_region_law ((refine step_fit (by rfl) _ _ (by rfl) G L.length (L.length + 1) L (by rfl) HP.out.own _ 1 1 _ (by rfl) BB.out rfl hl2 ?_; intro u1 ho hg; have c2 := hg.cell HP.out.at_ (fun e => absurd (Option.some.inj e) (Nat.ne_of_gt HP.out.ne)); have f2 : u1.frozen? ⟨k, 0, none⟩ = false := ((World.frozen?_of_block (a := ⟨k, 0, none⟩) (hg.block k HP.out.lt (fun e => absurd (Option.some.inj e) (Nat.ne_of_gt HP.out.ne)))).trans HP.out.fr)))
      all_goals
        have HQ := hide (Put.more (ms := [n / 256 / 256 / 256 % 256]) HP.out ho hg)
        clear c1 c2 f2 ho hg hlt
        go_wp2
        go_roundw
        case rel => exact ⟨3, by omega, by go_num, by rw [hN.out]; exact HQ.out.1, Mid.trans (w1 := (wr.alloc (.cells #[.int .u8 (n / 256 / 256 / 256 % 256)] 5)).drew) ⟨HM.out.os, HM.out.tape, HM.out.output, HM.out.size, HM.out.block⟩ HQ.out.2⟩
        case measure => simp [intOf]
    · have hx : IntKind.u8.wrap (n / 65536) = n / 256 / 256 % 256 := by rw [u8_mod]; omega
      generalize hL : ns ++ (be 6 n).take 3 = L at P
      have hl2 : L.length + 1 ≤ 36 := by rw [← hL, List.length_append, List.length_take, be_length]; omega
      have hN : Hid (ns ++ (be 6 n).take 4 = L ++ [n / 256 / 256 % 256]) := by
        rw [← hL, List.append_assoc]
        exact hide rfl
      have c1 := P.at_
      have hlt := P.lt
      have HP := hide ((P.alloc (.cells #[.int .u8 (n / 256 / 256 % 256)] 5)).drew)
      have HM := hide ((M.on (below_alloc wr (.cells #[.int .u8 (n / 256 / 256 % 256)] 5))))
      have w0 : IntKind.i64.wrap 0 = 0 := IntWalk.i64_in _ (by omega)
      have w1' : IntKind.i64.wrap 5 = 5 := IntWalk.i64_in _ (by omega)
      have w2' : IntKind.i64.wrap 2 = 2 := IntWalk.i64_in _ (by omega)
      have w3' : IntKind.i64.wrap 16 = 16 := IntWalk.i64_in _ (by omega)
      have hsh : ∀ w : World, (Op.shift .shr .i64 n .i64 16).run Try.prog w = .ok (.int .i64 (n / 65536)) w := fun w => by simp [go_sem]
      have BB := hide ((byt1 wr (n / 256 / 256 % 256) (by omega)).drew)
      clear P hL M h
      go_wp2_with fail
      go_region_law ((refine step_fit (by rfl) _ _ (by rfl) G L.length (L.length + 1) L (by rfl) HP.out.own _ 1 1 _ (by rfl) BB.out rfl hl2 ?_; intro u1 ho hg; have c2 := hg.cell HP.out.at_ (fun e => absurd (Option.some.inj e) (Nat.ne_of_gt HP.out.ne)); have f2 : u1.frozen? ⟨k, 0, none⟩ = false := ((World.frozen?_of_block (a := ⟨k, 0, none⟩) (hg.block k HP.out.lt (fun e => absurd (Option.some.inj e) (Nat.ne_of_gt HP.out.ne)))).trans HP.out.fr)))
      all_goals
        have HQ := hide (Put.more (ms := [n / 256 / 256 % 256]) HP.out ho hg)
        clear c1 c2 f2 ho hg hlt
        go_wp2
        go_roundw
        case rel => exact ⟨4, by omega, by go_num, by rw [hN.out]; exact HQ.out.1, Mid.trans (w1 := (wr.alloc (.cells #[.int .u8 (n / 256 / 256 % 256)] 5)).drew) ⟨HM.out.os, HM.out.tape, HM.out.output, HM.out.size, HM.out.block⟩ HQ.out.2⟩
        case measure => simp [intOf]
    · have hx : IntKind.u8.wrap (n / 256) = n / 256 % 256 := by rw [u8_mod]
      generalize hL : ns ++ (be 6 n).take 4 = L at P
      have hl2 : L.length + 1 ≤ 36 := by rw [← hL, List.length_append, List.length_take, be_length]; omega
      have hN : Hid (ns ++ (be 6 n).take 5 = L ++ [n / 256 % 256]) := by
        rw [← hL, List.append_assoc]
        exact hide rfl
      have c1 := P.at_
      have hlt := P.lt
      have HP := hide ((P.alloc (.cells #[.int .u8 (n / 256 % 256)] 5)).drew)
      have HM := hide ((M.on (below_alloc wr (.cells #[.int .u8 (n / 256 % 256)] 5))))
      have w0 : IntKind.i64.wrap 0 = 0 := IntWalk.i64_in _ (by omega)
      have w1' : IntKind.i64.wrap 5 = 5 := IntWalk.i64_in _ (by omega)
      have w2' : IntKind.i64.wrap 1 = 1 := IntWalk.i64_in _ (by omega)
      have w3' : IntKind.i64.wrap 8 = 8 := IntWalk.i64_in _ (by omega)
      have hsh : ∀ w : World, (Op.shift .shr .i64 n .i64 8).run Try.prog w = .ok (.int .i64 (n / 256)) w := fun w => by simp [go_sem]
      have BB := hide ((byt1 wr (n / 256 % 256) (by omega)).drew)
      clear P hL M h
      go_wp2_with fail
      go_region_law ((refine step_fit (by rfl) _ _ (by rfl) G L.length (L.length + 1) L (by rfl) HP.out.own _ 1 1 _ (by rfl) BB.out rfl hl2 ?_; intro u1 ho hg; have c2 := hg.cell HP.out.at_ (fun e => absurd (Option.some.inj e) (Nat.ne_of_gt HP.out.ne)); have f2 : u1.frozen? ⟨k, 0, none⟩ = false := ((World.frozen?_of_block (a := ⟨k, 0, none⟩) (hg.block k HP.out.lt (fun e => absurd (Option.some.inj e) (Nat.ne_of_gt HP.out.ne)))).trans HP.out.fr)))
      all_goals
        have HQ := hide (Put.more (ms := [n / 256 % 256]) HP.out ho hg)
        clear c1 c2 f2 ho hg hlt
        go_wp2
        go_roundw
        case rel => exact ⟨5, by omega, by go_num, by rw [hN.out]; exact HQ.out.1, Mid.trans (w1 := (wr.alloc (.cells #[.int .u8 (n / 256 % 256)] 5)).drew) ⟨HM.out.os, HM.out.tape, HM.out.output, HM.out.size, HM.out.block⟩ HQ.out.2⟩
        case measure => simp [intOf]
    · have hx : IntKind.u8.wrap (n) = n % 256 := by rw [u8_mod]
      generalize hL : ns ++ (be 6 n).take 5 = L at P
      have hl2 : L.length + 1 ≤ 36 := by rw [← hL, List.length_append, List.length_take, be_length]; omega
      have hN : Hid (ns ++ (be 6 n).take 6 = L ++ [n % 256]) := by
        rw [← hL, List.append_assoc]
        exact hide rfl
      have c1 := P.at_
      have hlt := P.lt
      have HP := hide ((P.alloc (.cells #[.int .u8 (n % 256)] 5)).drew)
      have HM := hide ((M.on (below_alloc wr (.cells #[.int .u8 (n % 256)] 5))))
      have w0 : IntKind.i64.wrap 0 = 0 := IntWalk.i64_in _ (by omega)
      have w1' : IntKind.i64.wrap 5 = 5 := IntWalk.i64_in _ (by omega)
      have w2' : IntKind.i64.wrap 0 = 0 := IntWalk.i64_in _ (by omega)
      have w3' : IntKind.i64.wrap 0 = 0 := IntWalk.i64_in _ (by omega)
      have hsh : ∀ w : World, (Op.shift .shr .i64 n .i64 0).run Try.prog w = .ok (.int .i64 (n)) w := fun w => by simp [go_sem]
      have BB := hide ((byt1 wr (n % 256) (by omega)).drew)
      clear P hL M h
      go_wp2_with fail
      go_region_law ((refine step_fit (by rfl) _ _ (by rfl) G L.length (L.length + 1) L (by rfl) HP.out.own _ 1 1 _ (by rfl) BB.out rfl hl2 ?_; intro u1 ho hg; have c2 := hg.cell HP.out.at_ (fun e => absurd (Option.some.inj e) (Nat.ne_of_gt HP.out.ne)); have f2 : u1.frozen? ⟨k, 0, none⟩ = false := ((World.frozen?_of_block (a := ⟨k, 0, none⟩) (hg.block k HP.out.lt (fun e => absurd (Option.some.inj e) (Nat.ne_of_gt HP.out.ne)))).trans HP.out.fr)))
      all_goals
        have HQ := hide (Put.more (ms := [n % 256]) HP.out ho hg)
        clear c1 c2 f2 ho hg hlt
        go_wp2
        go_roundw
        case rel => exact ⟨6, by omega, by go_num, by rw [hN.out]; exact HQ.out.1, Mid.trans (w1 := (wr.alloc (.cells #[.int .u8 (n % 256)] 5)).drew) ⟨HM.out.os, HM.out.tape, HM.out.output, HM.out.size, HM.out.block⟩ HQ.out.2⟩
        case measure => simp [intOf]
    · clear h
      go_wp2
      go_ret
      exact ⟨M, rfl, by rw [List.take_of_length_le (Nat.le_of_eq (be_length _ _))] at P; exact P⟩
theorem ent19 (args : Array Value) (w : World) : (callFunc 19 args).run Try.prog w = .ok (.enter 19 args) w := by
  kernel_rfl
theorem stepEnc (G k : Nat) : StepC 19 #[.pointer (some ⟨k, 0, none⟩)] G (k + 1) (Put G k) sEnc where
  run := fun s n j w r h hj hr => by
    unfold sEnc at hr
    split at hr
    · rename_i hc
      have e := (Option.some.inj hr).symm
      rcases hj with rfl | rfl | rfl | rfl
      · exact (put19_1 G k s n w h hc.1 hc.2).mono fun e' w' ⟨M, he, F⟩ => ⟨M, Or.inr ⟨_, _, e, he, F⟩⟩
      · exact (put19_2 G k s n w h hc.1 hc.2).mono fun e' w' ⟨M, he, F⟩ => ⟨M, Or.inr ⟨_, _, e, he, F⟩⟩
      · exact (put19_4 G k s n w h hc.1 hc.2).mono fun e' w' ⟨M, he, F⟩ => ⟨M, Or.inr ⟨_, _, e, he, F⟩⟩
      · exact (put19_6 G k s n w h hc.1 hc.2).mono fun e' w' ⟨M, he, F⟩ => ⟨M, Or.inr ⟨_, _, e, he, F⟩⟩
    · cases hr
  on := fun _ _ _ h hb => h.on hb
  sz := fun _ _ h => h.lt
  ent := ent19
  six := fun s s' n m _ _ h h0 h1 => by
    unfold sEnc at h
    split at h
    · injection h with h; injection h with h; injection h with h2 h3
      subst h3
      exact ⟨h0, h1⟩
    · cases h
end Go.Proofs.Ytdaglmimfkcmeaa
