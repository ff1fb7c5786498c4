import Derived.Test.YtlgojnodhbmlkaaGreatDoorMExLy9
import Derived.Test.YtlgojnodhbmlkaaGreatDoorMExStB
import Derived.Test.YtlgojnodhbmlkaaGreatDoorMExWr9
namespace Go.Proofs.YtlgojnodhbmlkaaGreatDoor
open Go.RowKit
namespace Ex

def rangeL {n : Nat} (q : PatN (n + 1)) (next : Nat) (st : St) : Nat × St := (st.1.length, (st.1 ++ [(IntKind.u8.wrap (from_ q), IntKind.u8.wrap (to_ q), next)], st.2))
theorem range_c (n : Nat) (q : PatN (n + 1)) (hkd : kind q = 1) : LayC n q (rangeL q) := by
  intro X nb next st vk w h hk hX h1 _
  have h1' : st.1.length ≤ 300000 := by
    have : (st.1 ++ [(IntKind.u8.wrap (from_ q), IntKind.u8.wrap (to_ q), next)]).length ≤ 300000 := h1
    simp only [List.length_append, List.length_singleton] at this
    omega
  have := lay_range X nb st.1 st.2 (from_ q) (to_ q) (min_ q) (max_ q) vk next w h hX h1' (by obtain ⟨a, c, e⟩ := hk.form; exact ⟨a, _, c, e⟩)
  rw [valOf_eq, hkd]
  exact this
theorem range_grows {n : Nat} (q : PatN (n + 1)) : GrowsL (rangeL q) := fun next st => by
  unfold rangeL
  simp only [List.length_append, List.length_singleton]
  omega
/-- What lay does with a pattern. -/
def layW : (n : Nat) → PatN (n + 1) → Nat → St → Nat × St
  | 0, q => rangeL q
  | n + 1, q => if kind q = 1 then rangeL q else if kind q = 2 then rowL (layW n) (kids q).reverse else if kind q = 3 then (match kids q with | [] => rangeL q | r :: l => altsL (layW n) r l) else (match kids q with | [] => rangeL q | r :: _ => endlessL (layW n r) (min_ q))
/-- Patterns that lay is proved for. -/
def LayOk : (n : Nat) → PatN (n + 1) → Prop
  | 0, q => kind q = 1
  | n + 1, q => kind q = 1 ∨ (kind q = 2 ∧ kids q ≠ [] ∧ ∀ r ∈ kids q, LayOk n r) ∨ (kind q = 3 ∧ 2 ≤ (kids q).length ∧ ∀ r ∈ kids q, LayOk n r) ∨ (kind q = 4 ∧ max_ q = -1 ∧ 0 ≤ min_ q ∧ min_ q ≤ 1000 ∧ (kids q).length = 1 ∧ ∀ r ∈ kids q, LayOk n r)
theorem lay_is : ∀ (n : Nat) (q : PatN (n + 1)), LayOk n q → LayC n q (layW n q) ∧ GrowsL (layW n q)
  | 0, q, h => ⟨range_c 0 q h, range_grows q⟩
  | n + 1, q, h => by
    have ih := lay_is n
    rcases h with h | ⟨h, h1, h2⟩ | ⟨h, h1, h2⟩ | ⟨h, h1, h2, h3, h4, h5⟩
    · unfold layW
      rw [if_pos h]
      exact ⟨range_c (n + 1) q h, range_grows q⟩
    · unfold layW
      rw [if_neg (by omega), if_pos h]
      exact ⟨lay_row n q h h1 (layW n) (fun r hr => (ih r (h2 r hr)).1) (fun r hr => (ih r (h2 r hr)).2), row_grows _ (fun r hr => (ih r (h2 r (List.mem_reverse.1 hr))).2)⟩
    · unfold layW
      rw [if_neg (by omega), if_neg (by omega), if_pos h]
      obtain ⟨ks, hks⟩ : ∃ x, kids q = x := ⟨_, rfl⟩
      rw [hks] at h1 h2 ⊢
      cases ks with
      | nil => simp at h1
      | cons r l =>
        refine ⟨lay_alts n q r l hks (by simp at h1; omega) h (layW n) (fun z hz => (ih z (h2 z (by rw [← hks]; exact hz))).1) (fun z hz => (ih z (h2 z (by rw [← hks]; exact hz))).2), fun next st => ?_⟩
        have g1 := (ih r (h2 r (by simp))).2 next st
        have g2 := alt_grows l (fun z hz => (ih z (h2 z (by simp [hz]))).2) (layW n r next st).1 next (layW n r next st).2
        exact ⟨Nat.le_trans g1.1 g2.1, Nat.le_trans g1.2 g2.2⟩
    · unfold layW
      rw [if_neg (by omega), if_neg (by omega), if_neg (by omega)]
      obtain ⟨ks, hks⟩ : ∃ x, kids q = x := ⟨_, rfl⟩
      rw [hks] at h4 h5 ⊢
      cases ks with
      | nil => simp at h4
      | cons r l =>
        have hl : l = [] := by simpa using h4
        subst hl
        exact ⟨lay_times n q r hks h h1 h2 h3 (layW n r) (ih r (h5 r (by simp))).1 (ih r (h5 r (by simp))).2, endless_grows (ih r (h5 r (by simp))).2 (min_ q)⟩

end Ex
end Go.Proofs.YtlgojnodhbmlkaaGreatDoor
namespace Go.Proofs.YtlgojnodhbmlkaaGreatDoor
open Go.RowKit
attribute [local go_sem] Oper.semAt_some
namespace Ex

/-- newNet's answer. -/
def NetNew (w w' : World) (e : Ending) (first : Nat) (ts : List (Int × Int × Nat)) (fs : List (Nat × Nat)) : Prop :=
  ∃ nb vt vf, e = .returned (.pointer (some ⟨nb, 0, none⟩)) ∧ w.heap.size < nb ∧ w'.heap[nb]? = some (.cells #[.int .i64 (first : Int), vt, vf] 78 (0, 0)) ∧ w'.ownsRow 0 102 4 vt ts.length (takerC ts) ∧ w'.ownsRow 0 111 2 vf fs.length (forkC fs) ∧
    (∀ g, vt.ownBlock = some g → w.heap.size ≤ g ∧ g ≠ nb) ∧ ∀ g, vf.ownBlock = some g → w.heap.size ≤ g ∧ g ≠ nb ∧ vt.ownBlock ≠ some g

set_option linter.unusedSimpArgs false in
set_option maxRecDepth 100000 in
set_option maxHeartbeats 4000000 in
theorem newNet_g (n : Nat) (p : PatN (n + 1)) (r : Pat) (hr : ThinC n p r) (M : Nat → St → Nat × St) (hok : LayC r.1 r.2 M) (first : Nat) (st : St) (hlay : M 4096 ([], []) = (first, st)) (h1 : st.1.length ≤ 300000) (h2 : st.2.length ≤ 300000) (S : Nat → Prop) (vk : Value) (w : World) (hk : KidsAt S w n (kids p) vk) (hS : ∀ d, S d → d < w.heap.size) :
    Calls Tryz.prog 27 #[valOf p vk] w fun e w' => NetNew w w' e first st.1 st.2 ∧ Kept w w' := by
  have HT := hide1 hr
  have HOK := hide1 hok
  have HLY := hide1 hlay
  have HK := hide1 hk
  have HS := hide1 hS
  have H1 := hide1 h1
  have H2 := hide1 h2
  obtain ⟨ak, ck, rfl⟩ := hk.form
  rw [valOf_eq]
  clear hr hok hlay hk hS h1 h2
  go_enter Tryz.func27, Tryz.ntmps27
  go_wp2_with fail
  obtain ⟨W2, hW2⟩ : ∃ W2, (w.alloc (Obj.cells #[Value.int IntKind.i64 (kind p), Value.int IntKind.i64 (from_ p), Value.int IntKind.i64 (to_ p), Value.int IntKind.i64 (min_ p), Value.int IntKind.i64 (max_ p), Value.slice ak (kids p).length ck] 24)).alloc (Obj.cells #[Value.int IntKind.i64 0, Value.slice none 0 0, Value.slice none 0 0] 78) = W2 := ⟨_, rfl⟩
  have HK2 : Hid (Kept w W2) := by rw [← hW2]; exact ((Kept.refl w).alloc _ _).alloc _ _
  have HS2 : Hid (w.heap.size + 2 = W2.heap.size) := by show _ = _; rw [← hW2]; simp
  have HN2 : Hid (W2.heap[w.heap.size + 1]? = some (.cells #[.int .i64 0, .slice none 0 0, .slice none 0 0] 78 (0, 0))) := by
    show _ = _
    rw [← hW2]
    have := World.alloc_heap_new (w.alloc (Obj.cells #[Value.int IntKind.i64 (kind p), Value.int IntKind.i64 (from_ p), Value.int IntKind.i64 (to_ p), Value.int IntKind.i64 (min_ p), Value.int IntKind.i64 (max_ p), Value.slice ak (kids p).length ck] 24)) (Obj.cells #[Value.int IntKind.i64 0, Value.slice none 0 0, Value.slice none 0 0] 78)
    rwa [World.size_alloc] at this
  rw [hW2]
  clear hW2
  refine (HT.out S (.slice ak (kids p).length ck) W2 (HK.out.kept HK2.out) (fun d hd => by have := HS.out d hd; have := HS2.out; omega)).mono ?_
  rintro e w5 ⟨⟨v, rfl, v', rfl, hkv⟩, hk5⟩
  obtain ⟨a5, c5, rfl⟩ := hkv.form
  rw [valOf_eq]
  have hn5 := (hk5.2.2.2.2 (w.heap.size + 1) (by have := HS2.out; omega)).trans HN2.out
  have HN5 := hide1 hn5
  have HKV : Hid (KidsAt (fun d => d < w5.heap.size ∧ d ≠ w.heap.size + 1) w5 r.1 (kids r.2) (.slice a5 (kids r.2).length c5)) := KidsAt.mono (fun d o v hd hcc => hcc) (fun d hd => by have := HS2.out; rcases hd.1 with h | h; (have := HS.out d h; exact ⟨hd.2, by omega⟩); exact ⟨hd.2, by omega⟩) _ _ _ (hkv.tight)
  have HK5 := hide1 hk5
  have hs5 : w.heap.size + 2 ≤ w5.heap.size := by have := hk5.2.2.2.1; have := HS2.out; omega
  clear hn5 hkv hk5
  have HNL : Hid (NetL (fun d => d < w5.heap.size ∧ d ≠ w.heap.size + 1) w5 (w.heap.size + 1) [] []) := ⟨.int .i64 0, .slice none 0 0, .slice none 0 0, HN5.out, ⟨rfl, .inl ⟨rfl, rfl⟩⟩, ⟨rfl, .inl ⟨rfl, rfl⟩⟩, fun g hg => by simp [Value.ownBlock] at hg, fun g hg => by simp [Value.ownBlock] at hg⟩
  go_wp2_with fail
  refine (HOK.out (fun d => d < w5.heap.size ∧ d ≠ w.heap.size + 1) (w.heap.size + 1) 4096 ([], []) _ w5 HNL.out HKV.out (fun d hd => hd) (by rw [HLY.out]; exact H1.out) (by rw [HLY.out]; exact H2.out)).mono ?_
  rintro e w7 ⟨rfl, hn7, hk7⟩
  rw [HLY.out] at hn7 ⊢
  obtain ⟨f0, vt, vf, n1, n2, n3, n4, n5⟩ := hn7
  have HK7 := hide1 hk7
  have c0 : w7.cell? ⟨w.heap.size + 1, 0, none⟩ = some f0 := cell_of_row _ _ _ _ _ _ n1
  have z0 : w7.frozen? ⟨w.heap.size + 1, 0, none⟩ = false := by simp [World.frozen?, n1]
  have M1 := hide1 n1
  have M2 := hide1 n2
  have M3 := hide1 n3
  have M4 := hide1 n4
  have M5 := hide1 n5
  clear n1 n2 n3 n4 n5 hk7
  go_wp2_with fail
  go_ret
  have hset : ∀ k v, k ≠ w.heap.size + 1 → (w7.setCell ⟨w.heap.size + 1, 0, none⟩ v).heap[k]? = w7.heap[k]? := fun k v hk => Below.heap_setCell _ _ _ _ hk
  have hgl : w.heap.size + 1 < w7.heap.size := (Array.getElem?_eq_some_iff.1 M1.out).1
  have he : w7.heap[w.heap.size + 1] = Obj.cells #[f0, vt, vf] 78 (0, 0) := by have := M1.out; rw [Array.getElem?_eq_getElem hgl] at this; exact Option.some.inj this
  have k4 := M4.out
  have k5 := M5.out
  refine ⟨⟨w.heap.size + 1, vt, vf, rfl, by omega, by simp [World.setCell, Array.getElem_modify, hgl, he], owns_kept M2.out (fun g hg => hset g _ (k4 g hg).2), owns_kept M3.out (fun g hg => hset g _ (k5 g hg).2.1), fun g hg => ⟨?_, (k4 g hg).2⟩, fun g hg => ⟨?_, (k5 g hg).2⟩⟩, ?_⟩
  · have := k4 g hg
    by_cases hlt : g < w5.heap.size
    · exact absurd ⟨hlt, this.2⟩ this.1
    · omega
  · have := k5 g hg
    by_cases hlt : g < w5.heap.size
    · exact absurd ⟨hlt, this.2.1⟩ this.1
    · omega
  · have hk25 : Kept w w5 := by
      have a := HK2.out
      have b := HK5.out
      exact ⟨b.1.trans a.1, b.2.1.trans a.2.1, b.2.2.1.trans a.2.2.1, Nat.le_trans a.2.2.2.1 b.2.2.2.1, fun k hk => (b.2.2.2.2 k (by have := HS2.out; omega)).trans (a.2.2.2.2 k hk)⟩
    refine ⟨HK7.out.1.trans hk25.1, HK7.out.2.1.trans hk25.2.1, HK7.out.2.2.1.trans hk25.2.2.1, ?_, fun k hk => (hset k _ (by omega)).trans ((HK7.out.2.2.2.2 k ⟨by omega, by omega⟩).trans (hk25.2.2.2.2 k hk))⟩
    have e1 : (w7.setCell ⟨w.heap.size + 1, 0, none⟩ (.int .i64 (first : Int))).heap.size = w7.heap.size := by simp [World.setCell]
    rw [e1]
    omega

theorem newNet_is (n : Nat) (p : PatN (n + 1)) (r : Pat) (hr : ThinC n p r) (hok : LayOk r.1 r.2) (first : Nat) (st : St) (hlay : layW r.1 r.2 4096 ([], []) = (first, st)) (h1 : st.1.length ≤ 300000) (h2 : st.2.length ≤ 300000) (S : Nat → Prop) (vk : Value) (w : World) (hk : KidsAt S w n (kids p) vk) (hS : ∀ d, S d → d < w.heap.size) :
    Calls Tryz.prog 27 #[valOf p vk] w fun e w' => NetNew w w' e first st.1 st.2 ∧ Kept w w' := newNet_g n p r hr _ (lay_is r.1 r.2 hok).1 first st hlay h1 h2 S vk w hk hS

end Ex
end Go.Proofs.YtlgojnodhbmlkaaGreatDoor
namespace Go.Proofs.YtlgojnodhbmlkaaGreatDoor
open Go.RowKit
namespace Ex

theorem takerC_at : ∀ (ts : List (Int × Int × Nat)) (i : Nat) (t : Int × Int × Nat), ts[i]? = some t → (takerC ts)[i * 4]? = some (.int .u8 t.1) ∧ (takerC ts)[i * 4 + 1]? = some (.int .u8 t.2.1) ∧ (takerC ts)[i * 4 + 2]? = some (.int .i64 (t.2.2 : Int)) ∧ (takerC ts)[i * 4 + 3]? = some (.slice none 0 0)
  | [], i, c, h => by simp at h
  | d :: l, 0, c, h => by
    simp only [List.getElem?_cons_zero, Option.some.injEq] at h
    subst h
    exact ⟨rfl, rfl, rfl, rfl⟩
  | d :: l, i + 1, c, h => by
    rw [List.getElem?_cons_succ] at h
    have := takerC_at l i c h
    have e : takerC (d :: l) = .int .u8 d.1 :: .int .u8 d.2.1 :: .int .i64 (d.2.2 : Int) :: .slice none 0 0 :: takerC l := rfl
    rw [e, show (i + 1) * 4 = i * 4 + 4 by omega, show i * 4 + 4 + 1 = i * 4 + 1 + 4 by omega, show i * 4 + 4 + 2 = i * 4 + 2 + 4 by omega, show i * 4 + 4 + 3 = i * 4 + 3 + 4 by omega]
    simp only [List.getElem?_cons_succ]
    exact this
/-- A new net may run. -/
theorem NetNew.net {w w' : World} {e : Ending} {first : Nat} {ts : List (Int × Int × Nat)} {fs : List (Nat × Nat)} (h : NetNew w w' e first ts fs) (hts : ts ≠ []) (hok : ForksOk fs ∧ ts.length ≤ 4096 ∧ ∀ t ∈ ts, PlaceOk fs.length t.2.2) :
    ∃ nb tb fb, e = .returned (.pointer (some ⟨nb, 0, none⟩)) ∧ NetRun (fun _ => False) w' nb tb fb first ts fs ∧ w.heap.size ≤ tb := by
  obtain ⟨nb, vt, vf, rfl, h0, h1, h2, h3, h4, h5⟩ := h
  obtain ⟨⟨c0, c1, c2⟩, _⟩ := net_cells h1
  rcases h2.2 with ⟨_, hz⟩ | ⟨tb, capt, curt, rfl, _, hgt, hct, hmt, hst, hxt⟩
  · exact absurd (List.length_eq_zero_iff.1 hz) hts
  have ht4 := h4 tb rfl
  have cellsT : ∀ (i : Nat) (t : Int × Int × Nat), ts[i]? = some t → w'.cell? ⟨tb, i * 4, none⟩ = some (.int .u8 t.1) ∧ w'.cell? ⟨tb, i * 4 + 1, none⟩ = some (.int .u8 t.2.1) ∧ w'.cell? ⟨tb, i * 4 + 2, none⟩ = some (.int .i64 (t.2.2 : Int)) ∧ w'.frozen? ⟨tb, i * 4 + 3, none⟩ = false ∧ ∃ vb, w'.cell? ⟨tb, i * 4 + 3, none⟩ = some vb ∧ BehindAt (fun _ => False) w' fs t.2.2 vb := by
    intro i t hi
    obtain ⟨t0, t1, t2, t3⟩ := takerC_at ts i t hi
    exact ⟨cells_row hgt hxt t0, cells_row hgt hxt t1, cells_row hgt hxt t2, by simp [World.frozen?, hgt], _, cells_row hgt hxt t3, .inl rfl⟩
  rcases h3.2 with ⟨rfl, hz⟩ | ⟨fb, capf, curf, rfl, _, hgf, hcf, hmf, hsf, hxf⟩
  · have hf : fs = [] := List.length_eq_zero_iff.1 hz
    subst hf
    exact ⟨nb, tb, 0, rfl, ⟨⟨none, 0, c2, Nat.le_refl _, .inl rfl⟩, c0, ⟨Ne.symm ht4.2, fun h => h, fun d hd => hd.elim⟩, .inl rfl, (Array.getElem?_eq_some_iff.1 hgt).1, ⟨some ⟨tb, 0, none⟩, capt, c1, hct, .inr rfl⟩, hok, cellsT⟩, ht4.1⟩
  · have hf5 := h5 fb rfl
    have hne : fb ≠ tb := fun e => hf5.2.2 (by rw [e]; rfl)
    refine ⟨nb, tb, fb, rfl, ⟨⟨some ⟨fb, 0, none⟩, capf, c2, hcf, .inr ⟨rfl, fun i f hi => ?_⟩⟩, c0, ⟨Ne.symm ht4.2, fun h => h, fun d hd => hd.elim⟩, .inr hne, (Array.getElem?_eq_some_iff.1 hgt).1, ⟨some ⟨tb, 0, none⟩, capt, c1, hct, .inr rfl⟩, hok, cellsT⟩, ht4.1⟩
    obtain ⟨f0, f1⟩ := forkC_at fs i f hi
    exact ⟨cells_row hgf hxf f0, cells_row hgf hxf f1⟩

/-- A new net of nothing may run. -/
theorem NetNew.net0 {w w' : World} {e : Ending} {first : Nat} (h : NetNew w w' e first [] []) :
    ∃ nb tb fb, e = .returned (.pointer (some ⟨nb, 0, none⟩)) ∧ NetRun (fun _ => False) w' nb tb fb first [] [] ∧ w.heap.size ≤ tb := by
  obtain ⟨nb, vt, vf, rfl, h0, h1, h2, h3, h4, h5⟩ := h
  obtain ⟨⟨c0, c1, c2⟩, _⟩ := net_cells h1
  have hlt := (Array.getElem?_eq_some_iff.1 h1).1
  have hok : ForksOk [] ∧ ([] : List (Int × Int × Nat)).length ≤ 4096 ∧ ∀ t ∈ ([] : List (Int × Int × Nat)), PlaceOk ([] : List (Nat × Nat)).length t.2.2 := ⟨⟨by simp, fun f hf => by cases hf⟩, by simp, fun t ht => by cases ht⟩
  have ft : ∃ a c, vt = .slice a 0 c := by
    rcases h2.2 with ⟨e, _⟩ | ⟨g, c, cur, e, _⟩
    · exact ⟨_, _, e⟩
    · exact ⟨_, _, e⟩
  have ff : ∃ a c, vf = .slice a 0 c := by
    rcases h3.2 with ⟨e, _⟩ | ⟨g, c, cur, e, _⟩
    · exact ⟨_, _, e⟩
    · exact ⟨_, _, e⟩
  obtain ⟨at_, ct, rfl⟩ := ft
  obtain ⟨af, cf, rfl⟩ := ff
  exact ⟨nb, w.heap.size, 0, rfl, ⟨⟨af, cf, c2, Nat.zero_le _, .inl rfl⟩, c0, ⟨by omega, fun h => h, fun d hd => hd.elim⟩, .inl rfl, by omega, ⟨at_, ct, c1, Nat.zero_le _, .inl rfl⟩, hok, fun i t hi => by simp at hi⟩, Nat.le_refl _⟩

end Ex
end Go.Proofs.YtlgojnodhbmlkaaGreatDoor
namespace Go.Proofs.YtlgojnodhbmlkaaGreatDoor
open Go.RowKit
namespace Ex

def wellB : (n : Nat) → PatN n → Bool
  | 0, _ => true
  | n + 1, p => (!(kind p == 4) || (kids p).length == 1) && decide ((kids p).length ≤ 100000) && (kids p).all (wellB n)
theorem wellB_ok : ∀ (n : Nat) (p : PatN n), wellB n p = true → WellP n p
  | 0, _, _ => trivial
  | n + 1, p, h => by
    simp only [wellB, Bool.and_eq_true, Bool.or_eq_true, Bool.not_eq_true', beq_eq_false_iff_ne, beq_iff_eq, decide_eq_true_eq, List.all_eq_true] at h
    exact ⟨fun e => h.1.1.resolve_left (fun k => k e), h.1.2, fun q hq => wellB_ok n q (h.2 q hq)⟩
def okB : (n : Nat) → PatN (n + 1) → Bool
  | 0, q => kind q == 1
  | n + 1, q => (kind q == 1) || (kind q == 2 && decide (0 < (kids q).length) && (kids q).all (okB n)) || (kind q == 3 && decide (2 ≤ (kids q).length) && (kids q).all (okB n)) || (kind q == 4 && max_ q == -1 && decide (0 ≤ min_ q) && decide (min_ q ≤ 1000) && (kids q).length == 1 && (kids q).all (okB n))
theorem okB_ok : ∀ (n : Nat) (q : PatN (n + 1)), okB n q = true → LayOk n q
  | 0, q, h => by have h1 : (kind q == 1) = true := h; exact (beq_iff_eq.1 h1 : kind q = 1)
  | n + 1, q, h => by
    have ih := okB_ok n
    simp only [okB, Bool.and_eq_true, Bool.or_eq_true, beq_iff_eq, decide_eq_true_eq, List.all_eq_true] at h
    rcases h with ((h | h) | h) | h
    · exact .inl h
    · exact .inr (.inl ⟨h.1.1, List.length_pos_iff.1 h.1.2, fun r hr => ih r (h.2 r hr)⟩)
    · exact .inr (.inr (.inl ⟨h.1.1, h.1.2, fun r hr => ih r (h.2 r hr)⟩))
    · exact .inr (.inr (.inr ⟨h.1.1.1.1.1, h.1.1.1.1.2, h.1.1.1.2, h.1.1.2, h.1.2, fun r hr => ih r (h.2 r hr)⟩))
theorem thin0 : thinW P0.1 P0.2 = P0 := by kernel_rfl
theorem well0 : WellP (P0.1 + 1) P0.2 := wellB_ok _ _ (by kernel_rfl)
theorem ok0 : LayOk P0.1 P0.2 := okB_ok _ _ (by kernel_rfl)
/-- known's net. -/
def ts0 : List (Int × Int × Nat) := [(98, 98, 4097), (97, 97, 0), (99, 101, 4098), (99, 101, 2)]
def fs0 : List (Nat × Nat) := [(1, 4096), (2, 4096), (4097, 3)]
theorem lay0 : layW P0.1 P0.2 4096 ([], []) = (4099, (ts0, fs0)) := by kernel_rfl
theorem places_pow (k n : Nat) (h : k = 4096 ∨ k < n) : PlacesOk (2 ^ k) n := fun p hp => by
  rw [Nat.testBit_two_pow] at hp
  have := of_decide_eq_true hp
  omega
theorem net0 : NetOk ts0 fs0 4099 := by
  have r1 : reachM fs0 4099 = 2 ^ 1 ||| 2 ^ 3 ||| 2 ^ 4096 := by kernel_rfl
  have r2 : reachM fs0 4097 = 2 ^ 1 ||| 2 ^ 4096 := by kernel_rfl
  have r3 : reachM fs0 0 = 2 ^ 0 := by kernel_rfl
  have r4 : reachM fs0 4098 = 2 ^ 2 ||| 2 ^ 4096 := by kernel_rfl
  have r5 : reachM fs0 2 = 2 ^ 2 := by kernel_rfl
  have hl : ts0.length = 4 := rfl
  refine ⟨by rw [r1, hl]; exact places_or (places_or (places_pow 1 4 (by omega)) (places_pow 3 4 (by omega))) (places_pow 4096 4 (by omega)), fun t ht => ?_⟩
  unfold ts0 at ht
  simp only [List.mem_cons, List.not_mem_nil, or_false] at ht
  rw [hl]
  rcases ht with rfl | rfl | rfl | rfl
  · show PlacesOk (reachM fs0 4097) 4
    rw [r2]; exact places_or (places_pow 1 4 (by omega)) (places_pow 4096 4 (by omega))
  · show PlacesOk (reachM fs0 0) 4
    rw [r3]; exact places_pow 0 4 (by omega)
  · show PlacesOk (reachM fs0 4098) 4
    rw [r4]; exact places_or (places_pow 2 4 (by omega)) (places_pow 4096 4 (by omega))
  · show PlacesOk (reachM fs0 2) 4
    rw [r5]; exact places_pow 2 4 (by omega)
theorem forks0 : ForksOk fs0 ∧ ts0.length ≤ 4096 ∧ ∀ t ∈ ts0, PlaceOk fs0.length t.2.2 := by
  unfold ForksOk PlaceOk
  decide
/-- What known's two texts come to. -/
theorem run1 : runM ts0 fs0 4099 [97, 98, 97, 98] = (4, 4) := by kernel_rfl
theorem run2 : runM ts0 fs0 4099 [99, 100, 101, 120] = (3, 3) := by kernel_rfl

end Ex
end Go.Proofs.YtlgojnodhbmlkaaGreatDoor
