import Derived.Test.YtokgmckhnmjdeaaGreatDoorMExPw6
import Derived.Deep.RegionWith
namespace Go.Proofs.YtokgmckhnmjdeaaGreatDoor
open Go.RowKit
attribute [local go_sem] Oper.semAt_some
namespace Ex

theorem strI_app (a b : ByteArray) : strI (a ++ b) = strI a ++ strI b := by
  unfold strI
  rw [show (a ++ b).data = a.data ++ b.data from ByteArray.data_append, Array.toList_append, List.map_append]
theorem byte_inj {a b : UInt8} (h : (a.toNat : Int) = (b.toNat : Int)) : a = b := UInt8.toNat_inj.1 (by omega)
theorem map_byte_inj : ∀ {l m : List UInt8}, l.map (fun b => (b.toNat : Int)) = m.map (fun b => (b.toNat : Int)) → l = m
  | [], [], _ => rfl
  | [], _ :: _, h => by simp at h
  | _ :: _, [], h => by simp at h
  | a :: l, b :: m, h => by
    rw [List.map_cons, List.map_cons, List.cons.injEq] at h
    rw [byte_inj h.1, map_byte_inj h.2]
theorem strI_inj {a b : ByteArray} (h : strI a = strI b) : a = b := by
  have h2 : a.data.toList = b.data.toList := by
    unfold strI at h
    exact map_byte_inj h
  cases a
  cases b
  simp only [ByteArray.mk.injEq]
  exact Array.toList_inj.1 h2
theorem idx_str (l : ByteArray) (j : Nat) (hj : j < l.size) : ∃ x, (strI l)[j]? = some x ∧ ∀ (k : IntKind) (w : World), (Instr.index 9 (.string l) (.int k (j : Int))).run Tryz.prog w = .ok (.int .u8 x) w := by
  refine ⟨((l[j]'hj).toNat : Int), ?_, fun k w => ?_⟩
  · unfold strI
    rw [List.getElem?_map, Array.getElem?_toList, show l.data[j]? = some (l[j]'hj) from Array.getElem?_eq_getElem hj]
    rfl
  · rw [run_index_string w 9 l k _ Tryz.underlying9, dif_pos ⟨by omega, by omega⟩]
    simp only [Int.toNat_natCast]
theorem any_take {l : List Int} {c : Int} {j : Nat} {x : Int} (hx : l[j]? = some x) (h : (l.take j).any (fun x => x == c) = false) (hn : x ≠ c) : (l.take (j + 1)).any (fun x => x == c) = false := by
  obtain ⟨hj, rfl⟩ := List.getElem?_eq_some_iff.1 hx
  rw [List.take_succ_eq_append_getElem hj, List.any_append, h]
  simpa using hn
theorem any_hit {l : List Int} {c : Int} {j : Nat} (hx : l[j]? = some c) : l.any (fun x => x == c) = true := List.any_eq_true.2 ⟨c, List.mem_of_getElem? hx, by simp⟩
/-- Is a byte in a string? -/
def amongP (l : List Int) (c : Int) : Bool := l.any (fun x => x == c)
set_option linter.unusedSimpArgs false in
set_option maxRecDepth 100000 in
set_option maxHeartbeats 4000000 in
theorem among_is (c : Int) (l : ByteArray) (w : World) (hl : l.size ≤ 1000) : Calls Tryz.prog 43 #[.int .u8 c, .string l] w fun e w' => e = .returned (.bool (amongP (strI l) c)) ∧ Kept w w' := by
  go_enter Tryz.func43, Tryz.ntmps43
  go_wp2_with fail
  go_loopw [5] (fun i wr => ∃ j : Nat, i = .int .i64 (j : Int) ∧ j ≤ l.size ∧ Hid (Kept w wr) ∧ Hid (((strI l).take j).any (fun x => x == c) = false)) (fun i _ => l.size - (intOf i).toNat)
  case atStart => exact ⟨0, rfl, Nat.zero_le _, Kept.refl _, rfl⟩
  case round =>
    obtain ⟨j, rfl, hj, HKr, HA⟩ := hrel
    by_cases hlt : (j : Int) < (l.size : Int)
    · obtain ⟨x, hx, hrun⟩ := idx_str l j (by omega)
      have HX := hide1 hx
      have hr := hrun .i64
      clear hx hrun
      by_cases hxc : x = c
      · have hb : (x == c) = true := by simpa using hxc
        subst hxc
        go_wp2_with fail
        go_ret
        exact ⟨by unfold amongP; rw [any_hit HX.out]; rfl, by first | exact HKr.out | exact gtrans HKr.out (drew_kept _)⟩
      · have hb : (x == c) = false := by simpa using hxc
        go_wp2_with fail
        go_roundw
        case rel => exact ⟨j + 1, by go_num, by omega, (by first | exact HKr | exact hide1 (gtrans HKr.out (drew_kept _))), any_take HX.out HA.out hxc⟩
        case measure => simp [intOf]; omega
    · go_wp2_with fail
      go_ret
      have h := HA.out
      rw [List.take_of_length_le (by rw [strI_len]; omega)] at h
      exact ⟨by unfold amongP; rw [h]; rfl, by first | exact HKr.out | exact gtrans HKr.out (drew_kept _)⟩
set_option linter.unusedSimpArgs false in
set_option maxRecDepth 100000 in
set_option maxHeartbeats 4000000 in
theorem printable_is (c : Int) (w : World) : Calls Tryz.prog 42 #[.int .u8 c] w fun e w' => e = .returned (.bool (printedP c)) ∧ w' = w := by
  unfold printedP
  go_enter Tryz.func42, Tryz.ntmps42
  go_wp2_with fail
  all_goals
    go_ret
    refine ⟨?_, rfl⟩
    simp [*] <;> omega

/-- A string of that many bytes. -/
def SGives (xs : List Int) (w : World) (r : Ending) (w' : World) : Prop := (∃ s : ByteArray, r = .returned (.string s) ∧ strI s = xs) ∧ Kept w w'
theorem strI_strOf1 (c : Int) (h0 : 0 ≤ c) (h1 : c ≤ 255) : strI (strOf [c]) = [c] := strI_of (fun z hz => by rw [List.mem_singleton] at hz; subst hz; exact ⟨h0, h1⟩)
theorem conv_one (w : World) (b : Int) (t : TypeId) : (convert 36 9 (.slice (some ⟨w.heap.size, 0, none⟩) 1 1)).run Tryz.prog (w.alloc (.cells #[.int .u8 b] t)) = .ok (.string (strOf [b])) (w.alloc (.cells #[.int .u8 b] t)) := by
  rw [run_convert_bytes_string _ 36 9 5 _ 1 1 Tryz.underlying36 Tryz.underlying5 Tryz.underlying9]
  refine run_bytesToString _ ⟨w.heap.size, 0, none⟩ 1 1 [b] ?_
  have := run_loadCells_list (P := Tryz.prog) (w.alloc (.cells #[.int .u8 b] t)) ⟨w.heap.size, 0, none⟩ (byteV [b]) (by
    intro j u hj
    match j, hj with
    | 0, hj =>
      rw [← Option.some.inj hj, Addr.add_lit, Nat.zero_add]
      exact one_lit w b t 0 b rfl
    | j + 1, hj => simp [byteV] at hj)
  exact this
theorem amongS (c : Int) (h0 : 0 ≤ c) (h1 : c ≤ 255) : amongP (strI signsS) c = inS signsS c ∧ amongP (strI escS) c = inS escS c := by
  have h : ∀ k : Fin 256, amongP (strI signsS) (k.val : Int) = inS signsS (k.val : Int) ∧ amongP (strI escS) (k.val : Int) = inS escS (k.val : Int) := by decide +kernel
  have := h ⟨c.toNat, by omega⟩
  simp only [] at this
  rwa [show ((c.toNat : Nat) : Int) = c by omega] at this
set_option linter.unusedSimpArgs false in
set_option maxRecDepth 100000 in
set_option maxHeartbeats 4000000 in
theorem rplain_is (c : Int) (w : World) (h0 : 0 ≤ c) (h1 : c ≤ 255) : Calls Tryz.prog 28 #[.int .u8 c] w fun e w' => e = .returned (.bool (plainP c)) ∧ Kept w w' := by
  have HA := hide1 (amongS c h0 h1).1
  have HPL : Hid (plainP c = (printedP c && !inS signsS c)) := rfl
  obtain ⟨pr, hpr⟩ : ∃ b, printedP c = b := ⟨_, rfl⟩
  obtain ⟨si, hsi⟩ : ∃ b, inS signsS c = b := ⟨_, rfl⟩
  have HPR := hide1 hpr
  rw [hsi] at HA HPL
  rw [hpr] at HPL
  rw [HPL.out]
  clear hpr hsi
  have hsz : signsS.size ≤ 1000 := by decide
  go_enter Tryz.func28, Tryz.ntmps28
  cases pr with
  | true =>
    go_wp2_with (first
      | (go_at_call 42; refine (printable_is _ _).mono ?_; rintro e w6 ⟨rfl, rfl⟩; rw [HPR.out])
      | (go_at_call 43; refine (among_is c signsS _ hsz).mono ?_; rintro e w7 ⟨rfl, hk7⟩; rw [HA.out]))
    go_ret
    exact ⟨rfl, hk7⟩
  | false =>
    go_wp2_with (first
      | (go_at_call 42; refine (printable_is _ _).mono ?_; rintro e w6 ⟨rfl, rfl⟩; rw [HPR.out]))
    go_ret
    exact ⟨rfl, Kept.refl _⟩

end Ex
end Go.Proofs.YtokgmckhnmjdeaaGreatDoor
namespace Go.Proofs.YtokgmckhnmjdeaaGreatDoor
open Go.RowKit
attribute [local go_sem] Oper.semAt_some
namespace Ex

/-- A byte's escape. -/
def codedW (c : Int) : List Int := if c = 10 then [92, 110] else if c = 13 then [92, 114] else if c = 9 then [92, 116] else if 32 < c ∧ c ≤ 126 then [92, c] else [92, 120, hexd (c / 16), hexd (c % 16)]
theorem hex_cut (k : Nat) (hk : k < 16) : strI (hexS.extract k (k + 1)) = [hexd (k : Int)] := by
  have h : ∀ j : Fin 16, strI (hexS.extract j.val (j.val + 1)) = [hexd (j.val : Int)] := by decide +kernel
  exact h ⟨k, hk⟩
theorem byteW_coded (s : ByteArray) (c : Int) (h : printedP c = false ∨ inS s c = true ∧ c ≠ 32) : byteW s c = codedW c := by
  unfold byteW codedW
  by_cases h10 : c = 10
  · rw [if_pos h10, if_pos h10]
  rw [if_neg h10, if_neg h10]
  by_cases h13 : c = 13
  · rw [if_pos h13, if_pos h13]
  rw [if_neg h13, if_neg h13]
  by_cases h9 : c = 9
  · rw [if_pos h9, if_pos h9]
  rw [if_neg h9, if_neg h9]
  by_cases hp : printedP c = false
  · rw [if_pos hp]
    have : ¬ (32 < c ∧ c ≤ 126) := by unfold printedP at hp; simp at hp; omega
    rw [if_neg this]
  · have hp' : printedP c = true := by simpa using hp
    have h2 : 32 ≤ c ∧ c ≤ 126 := by unfold printedP at hp'; simpa using hp'
    rcases h with h | ⟨h, h3⟩
    · exact absurd h hp
    · rw [if_neg hp, h, if_pos rfl, if_pos (by omega)]
set_option linter.unusedSimpArgs false in
set_option maxRecDepth 100000 in
set_option maxHeartbeats 4000000 in
theorem coded_is (c : Int) (w : World) (h0 : 0 ≤ c) (h1 : c ≤ 255) : Calls Tryz.prog 29 #[.int .i64 c] w fun r w' => SGives (codedW c) w r w' := by
  have HS1 := hide1 (strI_strOf1 c h0 h1)
  have kc := fun (w : World) (b : Int) (t : TypeId) => conv_one w b t
  by_cases h10 : c = 10
  · subst h10
    go_enter Tryz.func29, Tryz.ntmps29
    go_wp2_with fail
    go_ret
    exact ⟨⟨_, rfl, rfl⟩, Kept.refl _⟩
  by_cases h13 : c = 13
  · subst h13
    go_enter Tryz.func29, Tryz.ntmps29
    go_wp2_with fail
    go_ret
    exact ⟨⟨_, rfl, rfl⟩, Kept.refl _⟩
  by_cases h9 : c = 9
  · subst h9
    go_enter Tryz.func29, Tryz.ntmps29
    go_wp2_with fail
    go_ret
    exact ⟨⟨_, rfl, rfl⟩, Kept.refl _⟩
  have b10 : (c == 10) = false := by simpa using h10
  have b13 : (c == 13) = false := by simpa using h13
  have b9 : (c == 9) = false := by simpa using h9
  by_cases hv : 32 < c ∧ c ≤ 126
  · have HC : Hid (codedW c = [92, c]) := by show _ = _; unfold codedW; rw [if_neg h10, if_neg h13, if_neg h9, if_pos hv]
    obtain ⟨hv1, hv2⟩ := hv
    clear h10 h13 h9
    go_enter Tryz.func29, Tryz.ntmps29
    go_wp2_with fail
    go_ret
    refine ⟨⟨_, rfl, ?_⟩, (Kept.refl w).alloc _ _⟩
    rw [strI_app, HS1.out, HC.out]
    rfl
  · have HC : Hid (codedW c = [92, 120, hexd (c / 16), hexd (c % 16)]) := by show _ = _; unfold codedW; rw [if_neg h10, if_neg h13, if_neg h9, if_neg hv]
    clear h10 h13 h9
    go_enter Tryz.func29, Tryz.ntmps29
    go_name_bytes_deep 10 DG hDG
    have eDG : DG = hexS := by rw [← hDG]; decide +kernel
    subst eDG
    clear hDG
    obtain ⟨ha, hha, hsa⟩ : ∃ s, strI s = [hexd (c / 16)] ∧ ∀ w, (Instr.slice 9 (.string hexS) (some (.int .i64 (c / 16))) (some (.int .i64 (c / 16 + 1))) none).run Tryz.prog w = .ok (.string s) w := by
      refine ⟨hexS.extract (c / 16).toNat ((c / 16).toNat + 1), ?_, fun w => ?_⟩
      · rw [hex_cut _ (by omega), show (((c / 16).toNat : Nat) : Int) = c / 16 by omega]
      · rw [run_slice_string w 9 hexS .i64 .i64 _ _ Tryz.underlying9 (by omega) (by omega) (by rw [hexS_size]; omega), show (c / 16 + 1).toNat = (c / 16).toNat + 1 by omega]
    obtain ⟨hb, hhb, hsb⟩ : ∃ s, strI s = [hexd (c % 16)] ∧ ∀ w, (Instr.slice 9 (.string hexS) (some (.int .i64 (c % 16))) (some (.int .i64 (c % 16 + 1))) none).run Tryz.prog w = .ok (.string s) w := by
      refine ⟨hexS.extract (c % 16).toNat ((c % 16).toNat + 1), ?_, fun w => ?_⟩
      · rw [hex_cut _ (by omega), show (((c % 16).toNat : Nat) : Int) = c % 16 by omega]
      · rw [run_slice_string w 9 hexS .i64 .i64 _ _ Tryz.underlying9 (by omega) (by omega) (by rw [hexS_size]; omega), show (c % 16 + 1).toNat = (c % 16).toNat + 1 by omega]
    have q1 : IntKind.i64.wrap (c.tdiv 16) = c / 16 := by rw [Int.tdiv_eq_ediv_of_nonneg h0, IntKind.wrap_i64]; omega
    have q2 : IntKind.i64.wrap (c / 16 + 1) = c / 16 + 1 := by rw [IntKind.wrap_i64]; omega
    have q3 : IntKind.i64.wrap (c.tmod 16) = c % 16 := by rw [Int.tmod_eq_emod_of_nonneg h0, IntKind.wrap_i64]; omega
    have q4 : IntKind.i64.wrap (c % 16 + 1) = c % 16 + 1 := by rw [IntKind.wrap_i64]; omega
    have hza : ha.size = 1 := strI_size _ _ hha
    have hzb : hb.size = 1 := strI_size _ _ hhb
    have HHA := hide1 hha
    have HHB := hide1 hhb
    clear hha hhb
    by_cases hv1 : 32 < c
    · have hv2 : 126 < c := by omega
      clear hv
      go_wp2_with fail
      go_quiet (fail)
      go_wp2_with fail
      go_ret
      refine ⟨⟨_, rfl, ?_⟩, by first | exact Kept.refl _ | exact drewN_kept _ _ | exact drew_kept _⟩
      rw [strI_app, strI_app, HHA.out, HHB.out, HC.out]
      rfl
    · clear hv
      go_wp2_with fail
      go_quiet (fail)
      go_wp2_with fail
      go_ret
      refine ⟨⟨_, rfl, ?_⟩, by first | exact Kept.refl _ | exact drewN_kept _ _ | exact drew_kept _⟩
      rw [strI_app, strI_app, HHA.out, HHB.out, HC.out]
      rfl

end Ex
end Go.Proofs.YtokgmckhnmjdeaaGreatDoor
namespace Go.Proofs.YtokgmckhnmjdeaaGreatDoor
open Go.RowKit
attribute [local go_sem] Oper.semAt_some
namespace Ex

theorem esc32 : inS escS 32 = false := by decide +kernel
set_option linter.unusedSimpArgs false in
set_option maxRecDepth 100000 in
set_option maxHeartbeats 4000000 in
theorem inClass_is (c : Int) (w : World) (h0 : 0 ≤ c) (h1 : c ≤ 255) : Calls Tryz.prog 44 #[.int .i64 c] w fun r w' => SGives (byteW escS c) w r w' := by
  have HS1 := hide1 (strI_strOf1 c h0 h1)
  have kc := fun (w : World) (b : Int) (t : TypeId) => conv_one w b t
  have HA := hide1 (amongS c h0 h1).2
  have hsz : escS.size ≤ 1000 := by decide
  by_cases hp : printedP c = true
  · have HP := hide1 hp
    have hr : 32 ≤ c ∧ c ≤ 126 := by unfold printedP at hp; simpa using hp
    by_cases hi : inS escS c = true
    · have HC := hide1 (byteW_coded escS c (.inr ⟨hi, fun e => by rw [e, esc32] at hi; cases hi⟩))
      rw [hi] at HA
      clear hp hi
      go_enter Tryz.func44, Tryz.ntmps44
      go_wp2_with (first
        | (go_at_call 42; refine (printable_is c _).mono ?_; rintro e w6 ⟨rfl, rfl⟩; rw [HP.out])
        | (go_at_call 43; refine (among_is c escS _ hsz).mono ?_; rintro e w7 ⟨rfl, hk7⟩; rw [HA.out]; have HK7 := hide1 hk7; clear hk7)
        | (go_at_call 29; refine (coded_is c _ h0 h1).mono ?_; rintro e w8 ⟨⟨s8, rfl, hs8⟩, hk8⟩; have HS8 := hide1 hs8; have HK8 := hide1 hk8; clear hs8 hk8))
      go_ret
      exact ⟨⟨s8, rfl, by rw [HS8.out, HC.out]⟩, gtrans HK7.out HK8.out⟩
    · have hi' : inS escS c = false := by simpa using hi
      have HC : Hid (byteW escS c = [c]) := by
        show _ = _
        unfold byteW
        rw [if_neg (by omega), if_neg (by omega), if_neg (by omega), hp, if_neg (by simp), hi', if_neg (by simp)]
      rw [hi'] at HA
      clear hp hi hi'
      go_enter Tryz.func44, Tryz.ntmps44
      go_wp2_with (first
        | (go_at_call 42; refine (printable_is c _).mono ?_; rintro e w6 ⟨rfl, rfl⟩; rw [HP.out])
        | (go_at_call 43; refine (among_is c escS _ hsz).mono ?_; rintro e w7 ⟨rfl, hk7⟩; rw [HA.out]; have HK7 := hide1 hk7; clear hk7))
      go_ret
      exact ⟨⟨_, rfl, by rw [HS1.out, HC.out]⟩, HK7.out.alloc _ _⟩
  · have hp' : printedP c = false := by simpa using hp
    have HP := hide1 hp'
    have HC := hide1 (byteW_coded escS c (.inl hp'))
    clear hp hp'
    go_enter Tryz.func44, Tryz.ntmps44
    go_wp2_with (first
      | (go_at_call 42; refine (printable_is c _).mono ?_; rintro e w6 ⟨rfl, rfl⟩; rw [HP.out])
      | (go_at_call 29; refine (coded_is c _ h0 h1).mono ?_; rintro e w8 ⟨⟨s8, rfl, hs8⟩, hk8⟩; have HS8 := hide1 hs8; have HK8 := hide1 hk8; clear hs8 hk8))
    go_ret
    exact ⟨⟨s8, rfl, by rw [HS8.out, HC.out]⟩, HK8.out⟩

end Ex
end Go.Proofs.YtokgmckhnmjdeaaGreatDoor
namespace Go.Proofs.YtokgmckhnmjdeaaGreatDoor
open Go.RowKit
attribute [local go_sem] Oper.semAt_some
namespace Ex

theorem decW_ten (n : Int) (h0 : 10 ≤ n) (h1 : n ≤ 1000) : decW n = decW (n / 10) ++ [48 + n % 10] := by
  unfold decW
  by_cases ha : n < 100
  · rw [if_neg (by omega), if_pos ha, if_pos (by omega)]
    rfl
  · by_cases hb : n < 1000
    · rw [if_neg (by omega), if_neg ha, if_pos hb, if_neg (by omega), if_pos (by omega)]
      have e1 : n / 10 / 10 = n / 100 := by omega
      rw [e1]
      rfl
    · have e : n = 1000 := by omega
      subst e
      rfl
theorem conv_cell (W : World) (g : Nat) (b : Int) (h : W.cell? ⟨g, 0, none⟩ = some (.int .u8 b)) : (convert 36 9 (.slice (some ⟨g, 0, none⟩) 1 1)).run Tryz.prog W = .ok (.string (strOf [b])) W := by
  rw [run_convert_bytes_string _ 36 9 5 _ 1 1 Tryz.underlying36 Tryz.underlying5 Tryz.underlying9]
  refine run_bytesToString _ ⟨g, 0, none⟩ 1 1 [b] ?_
  exact run_loadCells_list (P := Tryz.prog) W ⟨g, 0, none⟩ (byteV [b]) (by
    intro j u hj
    match j, hj with
    | 0, hj =>
      rw [← Option.some.inj hj, Addr.add_lit, Nat.zero_add]
      exact h
    | j + 1, hj => simp [byteV] at hj)
set_option linter.unusedSimpArgs false in
set_option maxRecDepth 100000 in
set_option maxHeartbeats 4000000 in
theorem dec_one (n : Int) (w : World) (h0 : 0 ≤ n) (h1 : n < 10) : Calls Tryz.prog 45 #[.int .i64 n] w fun r w' => SGives (decW n) w r w' := by
  have HS1 := hide1 (strI_strOf1 (48 + n) (by omega) (by omega))
  have kc := fun (w : World) (b : Int) (t : TypeId) => conv_one w b t
  have HC : Hid (decW n = [48 + n]) := by show _ = _; unfold decW; rw [if_pos h1]
  go_enter Tryz.func45, Tryz.ntmps45
  go_wp2_with fail
  go_ret
  exact ⟨⟨_, rfl, by rw [HS1.out, HC.out]⟩, (Kept.refl _).alloc _ _⟩
set_option linter.unusedSimpArgs false in
set_option maxRecDepth 100000 in
set_option maxHeartbeats 4000000 in
theorem dec_step (n : Int) (w : World) (h0 : 10 ≤ n) (h1 : n ≤ 1000) (ih : ∀ w, Calls Tryz.prog 45 #[.int .i64 (n / 10)] w fun r w' => SGives (decW (n / 10)) w r w') : Calls Tryz.prog 45 #[.int .i64 n] w fun r w' => SGives (decW n) w r w' := by
  have HS1 := hide1 (strI_strOf1 (48 + n % 10) (by omega) (by omega))
  have kc := fun (W : World) (g : Nat) (h : W.cell? ⟨g, 0, none⟩ = some (.int .u8 (48 + n % 10))) => conv_cell W g (48 + n % 10) h
  have hzo : (strOf [48 + n % 10]).size = 1 := strI_size _ _ HS1.out
  have HC := hide1 (decW_ten n h0 h1)
  have HI := hide1 ih
  have HDL := hide1 (decW_len (n / 10))
  clear ih
  go_enter Tryz.func45, Tryz.ntmps45
  have q1 : IntKind.i64.wrap (n.tdiv 10) = n / 10 := by rw [Int.tdiv_eq_ediv_of_nonneg (by omega), IntKind.wrap_i64]; omega
  have q3 : n.tmod 10 = n % 10 := Int.tmod_eq_emod_of_nonneg (by omega)
  have q4 : IntKind.i64.wrap (48 + n % 10) = 48 + n % 10 := by rw [IntKind.wrap_i64]; omega
  have q5 : IntKind.u8.wrap (48 + n % 10) = 48 + n % 10 := by rw [IntKind.wrap_u8]; omega
  have hkw : Kept w w := Kept.refl w
  go_wp2_with fail
  go_region_with ((first
    | (go_at_call 45; refine (HI.out _).mono ?_; rintro e w8 ⟨⟨s8, rfl, hs8⟩, hk8⟩; have c8 := grown_cell hk8 (one_lit _ _ _ 0 _ rfl); have hz8 : (s8.size : Int) ≤ 8388608 := (by rw [strI_size _ _ hs8]; have := HDL.out.2; omega))
    | (go_at_call 45; refine (HI.out _).mono ?_; rintro e w8 ⟨⟨s8, rfl, hs8⟩, hk8⟩; have hz8 : (s8.size : Int) ≤ 8388608 := (by rw [strI_size _ _ hs8]; have := HDL.out.2; omega))))
  all_goals
    have HS8 := hide1 hs8
    have HK8 := hide1 hk8
    go_wp2_with fail
    go_ret
    refine ⟨⟨_, rfl, ?_⟩, by first | exact HK8.out.alloc _ _ | exact gtrans (drew_kept _) (HK8.out.alloc _ _) | exact gtrans ((Kept.refl w).alloc _ _) HK8.out | exact gtrans (gtrans ((Kept.refl w).alloc _ _) (drew_kept _)) HK8.out | exact gtrans (gtrans (drew_kept _) ((Kept.refl _).alloc _ _)) HK8.out | exact gtrans (HK8.out.alloc _ _) (drew_kept _) | exact gtrans (gtrans (drew_kept _) HK8.out) ((Kept.refl _).alloc _ _)⟩
    rw [strI_app, HS8.out, HS1.out, HC.out]

end Ex
end Go.Proofs.YtokgmckhnmjdeaaGreatDoor
