/- The program's options: what they answer. -/
import Derived.Test.YtmeiikjpaepogaaGreatDoorZ40
import Derived.Test.YtmeiikjpaepogaaGreatDoorZ42
import Derived.Test.YtmeiikjpaepogaaGreatDoorZ30
import Derived.Test.YtmeiikjpaepogaaGreatDoorZ06
import Derived.Test.YtmeiikjpaepogaaGreatDoorZ23
namespace Go.Proofs.YtmeiikjpaepogaaGreatDoor
open Go Go.RowKit

/-- A program that is answered, in new memory. -/
def ProgOut (w : World) (p : PrS) (ce : Int) (e : Ending) (w' : World) : Prop := ∃ a c, e = .returned (.agg #[.slice a p.1.length c, .int .i64 p.2, .int .i64 ce]) ∧ OwnI w.heap.size w' (.slice a p.1.length c) p.1 ∧ Below w.heap.size w w'
theorem super_goes (op : Nat) (h : 40 ≤ op) (h' : op < 60) : ∀ p ∈ superS op, goesS p = true := by
  have : ∀ k : Fin 20, ∀ p ∈ superS ((k.val + 40 : Nat) : Int), goesS p = true := by decide
  have h1 := this ⟨op - 40, by omega⟩
  have e : op - 40 + 40 = op := by omega
  simp only [e] at h1
  exact h1
theorem numGo_ops {n : Int} {row : List (Int × Int)} {ps : List Int} {v : Int} (h : numGo n row ps = some v) : ∀ (j : Nat) (p : Int), ps[j]? = some p → ∃ x : Int × Int, row[j]? = some x ∧ x.1 = p := by
  induction ps generalizing n row with
  | nil => intro j p hj; simp at hj
  | cons q ps ih =>
    cases row with
    | nil => cases h
    | cons x r =>
      unfold numGo at h
      split at h
      next hx =>
        intro j p hj
        cases j with
        | zero => simp at hj; exact ⟨x, rfl, by rw [hx, hj]⟩
        | succ j => exact ih h j p (by simpa using hj)
      · cases h
theorem numGo_in {n : Int} {row : List (Int × Int)} {ps : List Int} {v : Int} (hn : inI n) (hr : ∀ x ∈ row, inI x.2) (h : numGo n row ps = some v) : inI v := by
  induction ps generalizing n row with
  | nil => unfold numGo at h; obtain rfl := Option.some.inj h; exact hn
  | cons q ps ih =>
    cases row with
    | nil => cases h
    | cons x r =>
      unfold numGo at h
      split at h
      · refine ih ?_ (fun y hy => hr y (by simp [hy])) h
        split
        · exact hr x (by simp)
        · exact hn
      · cases h
theorem pieces_op {row : List (Int × Int)} {p : Pc} (h : p ∈ piecesS row) (hr : ∀ x ∈ row, inI x.2) : (40 ≤ p.1 ∧ p.1 ≤ 59) ∧ inI p.2.1 ∧ ∀ j : Nat, j < p.2.2.toNat → ∃ x : Int × Int, row[j]? = some x ∧ goesS x.1 = true := by
  unfold piecesS piecesTo at h
  obtain ⟨op, hop, he⟩ := List.mem_filterMap.1 h
  obtain ⟨i, hi, rfl⟩ := List.mem_map.1 hop
  have hi := List.mem_range.1 hi
  unfold pieceAt at he
  obtain ⟨n, hn, rfl⟩ := Option.map_eq_some_iff.1 he
  refine ⟨by simp only; omega, numGo_in inI_zero hr hn, fun j hj => ?_⟩
  simp only [Int.toNat_natCast] at hj
  have hq := List.getElem?_eq_getElem hj
  obtain ⟨x, hx, e⟩ := numGo_ops hn j _ hq
  refine ⟨x, hx, ?_⟩
  rw [e]
  exact super_goes (i + 40) (by omega) (by omega) _ (List.getElem_mem hj)
theorem bestTo_from (x : Int × Int) (r : List (Int × Int)) (t : List (Pc × Int)) (k : Nat) : (bestTo x r t k).1 = (x.1, x.2, 1) ∨ (bestTo x r t k).1 ∈ piecesS (x :: r) := by
  induction k with
  | zero => exact Or.inl rfl
  | succ k ih =>
    cases e : (piecesS (x :: r))[k]? with
    | none =>
      have : bestTo x r t (k + 1) = bestTo x r t k := by
        unfold bestTo
        rw [List.take_add_one, e]
        simp
      rw [this]
      exact ih
    | some p =>
      rw [bestTo_next e]
      unfold fewStep
      split
      · exact Or.inr (List.mem_of_getElem? e)
      · exact ih
theorem few_at (row : List (Int × Int)) (i : Nat) (x : Int × Int) (h : row[i]? = some x) : ∃ b, (few row)[i]? = some b ∧ (b.1 = (x.1, x.2, 1) ∨ b.1 ∈ piecesS (row.drop i)) := by
  induction row generalizing i with
  | nil => simp at h
  | cons y r ih =>
    cases i with
    | zero =>
      simp at h
      subst h
      exact ⟨_, rfl, bestTo_from y r (few r) _⟩
    | succ i =>
      obtain ⟨b, h1, h2⟩ := ih i (by simpa using h)
      exact ⟨b, by unfold few; simpa using h1, by simpa using h2⟩
theorem pick_at {row : List (Int × Int)} {i n : Nat} {x : Int × Int} (h : row[i]? = some x) : ∃ p : Pc, ((few row).map Prod.fst)[i]? = some p ∧ pickGo ((few row).map Prod.fst) (n + 1) i = (p.1, p.2.1) :: pickGo ((few row).map Prod.fst) n (i + p.2.2.toNat) ∧ (p = (x.1, x.2, 1) ∨ p ∈ piecesS (row.drop i)) := by
  obtain ⟨b, hb, hp⟩ := few_at row i x h
  refine ⟨b.1, by rw [List.getElem?_map, hb]; rfl, ?_, hp⟩
  rw [pickGo]
  rw [List.getElem?_map, hb]
  rfl
/-- What the pieces are made of. -/
theorem pick_mem (row : List (Int × Int)) (hr : ∀ x ∈ row, baseOk x) (n i : Nat) : ∀ y ∈ pickGo ((few row).map Prod.fst) n i, y ∈ row ∨ ((40 ≤ y.1 ∧ y.1 ≤ 59) ∧ inI y.2) := by
  induction n generalizing i with
  | zero => intro y hy; simp [pickGo] at hy
  | succ n ih =>
    cases e : row[i]? with
    | none =>
      intro y hy
      have : ((few row).map Prod.fst)[i]? = none := by
        rw [List.getElem?_eq_none_iff] at e ⊢
        rw [List.length_map, few_len]
        exact e
      unfold pickGo at hy
      rw [this] at hy
      simp at hy
    | some x =>
      obtain ⟨p, _, h2, h3⟩ := pick_at (n := n) e
      rw [h2]
      intro y hy
      rcases List.mem_cons.1 hy with rfl | hy
      · rcases h3 with rfl | h3
        · exact Or.inl (List.mem_of_getElem? e)
        · have := pieces_op h3 (fun z hz => (hr z (List.mem_of_mem_drop hz)).2)
          exact Or.inr ⟨this.1, this.2.1⟩
      · exact ih _ y hy
theorem pick_last (row : List (Int × Int)) (hr : ∀ x ∈ row, baseOk x) {z : Int × Int} (hz : row.getLast? = some z) (hg : goesS z.1 = false) (n i : Nat) (hi : i < row.length) (hn : row.length - i ≤ n) : (pickGo ((few row).map Prod.fst) n i).getLast? = some z := by
  have hzl : row[row.length - 1]? = some z := by rw [← List.getLast?_eq_getElem?]; exact hz
  induction n generalizing i with
  | zero => omega
  | succ n ih =>
    obtain ⟨x, hx⟩ : ∃ x, row[i]? = some x := ⟨_, List.getElem?_eq_getElem hi⟩
    obtain ⟨p, h1, h2, h3⟩ := pick_at (n := n) hx
    rw [h2]
    rcases h3 with rfl | h3
    · by_cases hend : i + 1 = row.length
      · have e : pickGo ((few row).map Prod.fst) n (i + ((x.1, x.2, (1 : Int)) : Pc).2.2.toNat) = [] := by
          cases n with
          | zero => rfl
          | succ n =>
            unfold pickGo
            rw [List.getElem?_eq_none]
            rw [List.length_map, few_len]
            simp only [Int.toNat_one]
            omega
        rw [e]
        rw [show row.length - 1 = i by omega, hx] at hzl
        obtain rfl := Option.some.inj hzl
        rfl
      · have := ih (i + 1) (by omega) (by omega)
        rw [List.getLast?_cons]
        simp only [Int.toNat_one]
        rw [this]
        rfl
    · have hpp := pieces_parts h3
      have hop := pieces_op h3 (fun z hz => (hr z (List.mem_of_mem_drop hz)).2)
      rw [List.length_drop] at hpp
      have hlt : i + p.2.2.toNat < row.length := by
        refine Nat.lt_of_le_of_ne (by omega) (fun e => ?_)
        obtain ⟨y, hy, hgy⟩ := hop.2.2 (p.2.2.toNat - 1) (by omega)
        rw [List.getElem?_drop, show i + (p.2.2.toNat - 1) = row.length - 1 by omega, hzl] at hy
        obtain rfl := Option.some.inj hy
        rw [hgy] at hg
        cases hg
      have := ih (i + p.2.2.toNat) hlt (by omega)
      rw [List.getLast?_cons, this]
      rfl
theorem join_code {p : PrS} (hp : PrOk p) {f : Blo → Blo} (hf : ∀ b, (f b).1 = b.1) (hle : ∀ b, (f b).2.length ≤ b.2.length)
    (hins : ∀ b ∈ blocksS p.1 p.2, ∀ y ∈ (f b).2, y ∈ p.1 ∨ ((40 ≤ y.1 ∧ y.1 ≤ 59) ∧ inI y.2))
    {c : Blo} (hcl : ((blocksS p.1 p.2).map f).getLast? = some c) {z : Int × Int} (hz : c.2.getLast? = some z) (hg : goesS z.1 = false) :
    CodeOk (joinedS p.1.length p.2 ((blocksS p.1 p.2).map f)).1 ∧ (joinedS p.1.length p.2 ((blocksS p.1 p.2).map f)).2 < (joinedS p.1.length p.2 ((blocksS p.1 p.2).map f)).1.length := by
  have hb := blocks_ok hp
  have hne : c.2 ≠ [] := by intro e; rw [e] at hz; simp at hz
  have num := fun {t : Int} (ht : Live (blocksS p.1 p.2) ((blocksS p.1 p.2).map f) t) => join_num (l := p.1) hf hb.firsts hb.full hb.low ht
  have hlen := joinedS_len p.1.length p.2 ((blocksS p.1 p.2).map f)
  have hjl := join_le f hle p
  have hsm := hp.small
  have hl1 : (joinedS p.1.length p.2 ((blocksS p.1 p.2).map f)).1 = (((blocksS p.1 p.2).map f).flatMap (·.2)).map (renS (numsTo ((blocksS p.1 p.2).map f) p.1.length ((blocksS p.1 p.2).map f).length).1) := listTo_flat _ _
  refine ⟨⟨fun x hx => ?_, ?_, by omega⟩, ?_⟩
  · rw [hl1] at hx
    obtain ⟨y, hy, rfl⟩ := List.mem_map.1 hx
    obtain ⟨d, hd, hyd⟩ := List.mem_flatMap.1 hy
    obtain ⟨b, hbm, rfl⟩ := List.mem_map.1 hd
    rw [ren_op]
    rcases hins b hbm y hyd with h | h
    · have hbase := hp.base y h
      by_cases hn : namesS y.1 = true
      · obtain ⟨h1, h2, h3⟩ := begS_of_target hp ⟨y, h, hn, rfl⟩
        have hnn := num (live_last hb hcl hne h1 h2 h3)
        have e : (renS (numsTo ((blocksS p.1 p.2).map f) p.1.length ((blocksS p.1 p.2).map f).length).1 y).2 = (numsTo ((blocksS p.1 p.2).map f) p.1.length ((blocksS p.1 p.2).map f).length).1.getD y.2.toNat 0 := by
          unfold renS
          rw [if_pos hn]
        rw [e]
        exact ⟨Or.inl hbase.1, by unfold inI; omega, fun _ => by omega⟩
      · have e : renS (numsTo ((blocksS p.1 p.2).map f) p.1.length ((blocksS p.1 p.2).map f).length).1 y = y := by
          unfold renS
          rw [if_neg hn]
        rw [e]
        exact ⟨Or.inl hbase.1, hbase.2, fun h => absurd h hn⟩
    · have hn : namesS y.1 = false := names_not (Or.inr (by omega))
      have e : renS (numsTo ((blocksS p.1 p.2).map f) p.1.length ((blocksS p.1 p.2).map f).length).1 y = y := by
        unfold renS
        rw [hn]
        rfl
      rw [e, hn]
      exact ⟨Or.inr h.1, h.2, fun h => by cases h⟩
  · refine ⟨renS _ z, by rw [hl1, List.getLast?_map, flat_last hcl hne, hz]; rfl, ?_⟩
    rw [ren_op]
    unfold goesS at hg
    rw [Bool.not_eq_false'] at hg
    exact of_decide_eq_true hg
  · have he := hp.entry
    have := num (live_last hb hcl hne (t := p.2) (by omega) (by rw [Int.toNat_natCast]; exact he) (by rw [Int.toNat_natCast]; exact begS_entry p.1 p.2 he))
    rw [Int.toNat_natCast] at this
    unfold joinedS at hlen ⊢
    simp only at hlen ⊢
    omega
theorem super_code {p : PrS} (hp : PrOk p) : CodeOk (superP p).1 ∧ (superP p).2 < (superP p).1.length := by
  have hb := blocks_ok hp
  obtain ⟨t, c, hc⟩ : ∃ t c, blocksS p.1 p.2 = t ++ [c] := by
    rcases List.eq_nil_or_concat (blocksS p.1 p.2) with h | ⟨t, c, h⟩
    · exact absurd h hb.some
    · exact ⟨t, c, by rw [h, List.concat_eq_append]⟩
  have hcm : c ∈ blocksS p.1 p.2 := by rw [hc]; simp
  have hcl : (blocksS p.1 p.2).getLast? = some c := by rw [hc]; simp
  have hlastl : c.2.getLast? = p.1.getLast? := by
    rw [← hb.flat]
    exact (flat_last hcl (hb.full c hcm)).symm
  obtain ⟨z, hz⟩ : ∃ z, c.2.getLast? = some z := by
    cases e : c.2.getLast? with
    | none => rw [List.getLast?_eq_none_iff] at e; exact absurd e (hb.full c hcm)
    | some z => exact ⟨z, rfl⟩
  have hzg : goesS z.1 = false := goes_last hp.last z (by rw [← hlastl]; exact hz)
  have hmem : ∀ b ∈ blocksS p.1 p.2, ∀ y ∈ b.2, y ∈ p.1 := fun b hbm y hy => by
    rw [← hb.flat]
    exact List.mem_flatMap.2 ⟨b, hbm, hy⟩
  have hcl2 : ((blocksS p.1 p.2).map (fun b => (b.1, fewestS b.2))).getLast? = some (c.1, fewestS c.2) := by rw [List.getLast?_map, hcl]; rfl
  have hpos := List.length_pos_iff.2 (hb.full c hcm)
  refine join_code hp (fun _ => rfl) (fun _ => pickGo_len _ _ _) (fun b hbm y hy => ?_) hcl2 (z := z) ?_ hzg
  · rcases pick_mem b.2 (fun x hx => hp.base x (hmem b hbm x hx)) _ _ y hy with h | h
    · exact Or.inl (hmem b hbm y h)
    · exact Or.inr h
  · exact pick_last c.2 (fun x hx => hp.base x (hmem c hcm x hx)) hz hzg c.2.length 0 hpos (by omega)
theorem pr_code {p : PrS} (h : PrOk p) : CodeOk p.1 := by
  refine ⟨fun x hx => ⟨Or.inl (h.ins x hx).1.1, (h.ins x hx).1.2, (h.ins x hx).2⟩, ?_, h.small⟩
  have he := h.entry
  obtain ⟨z, hz⟩ : ∃ z, p.1.getLast? = some z := by
    rw [List.getLast?_eq_getElem?]
    exact ⟨_, List.getElem?_eq_getElem (by omega)⟩
  refine ⟨z, hz, ?_⟩
  have := goes_last h.last z hz
  unfold goesS at this
  rw [Bool.not_eq_false'] at this
  exact of_decide_eq_true this
theorem code_pr {l : List (Int × Int)} {en : Nat} (h : CodeOk l) (hb : ∀ x ∈ l, x.1 ≤ 32) (he : en < l.length) : PrOk (l, en) := by
  refine ⟨fun x hx => ?_, last_goes (fun y hy => ?_), h.small, he⟩
  · have h1 := h.ins x hx
    have h2 := hb x hx
    exact ⟨⟨by omega, h1.2.1⟩, h1.2.2⟩
  · obtain ⟨z, hz, h3⟩ := h.last
    rw [hz] at hy
    obtain rfl := Option.some.inj hy
    unfold goesS
    rw [decide_eq_true h3]
    rfl
theorem tailS_len (l : List (Int × Int)) : (tailS l).length = l.length := by unfold tailS; simp
theorem tailS_at (l : List (Int × Int)) (k : Nat) (x : Int × Int) (hx : l[k]? = some x) : (x.1 = 3 ∧ (∃ y, l[k + 1]? = some y ∧ y.1 = 4) ∧ (tailS l)[k]? = some (1, x.2)) ∨ (tailS l)[k]? = some x := by
  have hk := (List.getElem?_eq_some_iff.1 hx).1
  have e : (tailS l)[k]? = some (tailAt l k) := by
    unfold tailS
    rw [List.getElem?_map, List.getElem?_range hk]
    rfl
  unfold tailAt at e
  rw [hx] at e
  cases hy : l[k + 1]? with
  | none => rw [hy] at e; exact Or.inr e
  | some y =>
    rw [hy] at e
    simp only at e
    by_cases h : x.1 = 3 ∧ y.1 = 4
    · rw [if_pos h] at e
      exact Or.inl ⟨h.1, ⟨y, rfl, h.2⟩, e⟩
    · rw [if_neg h] at e
      exact Or.inr e
theorem tail_pr {p : PrS} (h : PrOk p) : PrOk (tailS p.1, p.2) := by
  have hl := tailS_len p.1
  have hs := h.small
  have he := h.entry
  have at' : ∀ (k : Nat) (y : Int × Int), (tailS p.1)[k]? = some y → ∃ x : Int × Int, p.1[k]? = some x ∧ (y = x ∨ x.1 = 3 ∧ y = (1, x.2)) := by
    intro k y hy
    have hk := (List.getElem?_eq_some_iff.1 hy).1
    obtain ⟨x, hx⟩ : ∃ x, p.1[k]? = some x := ⟨_, List.getElem?_eq_getElem (by omega)⟩
    refine ⟨x, hx, ?_⟩
    rcases tailS_at p.1 k x hx with ⟨h1, _, h2⟩ | h2
    · rw [hy] at h2; exact Or.inr ⟨h1, Option.some.inj h2⟩
    · rw [hy] at h2; exact Or.inl (Option.some.inj h2)
  refine ⟨fun y hy => ?_, fun k y hy hg => ?_, by simp only; omega, by simp only; omega⟩
  · obtain ⟨k, hk⟩ := List.getElem?_of_mem hy
    obtain ⟨x, hx, e⟩ := at' k y hk
    have h1 := h.ins x (List.mem_of_getElem? hx)
    simp only [hl]
    rcases e with rfl | ⟨h3, rfl⟩
    · exact h1
    · exact ⟨⟨by simp, h1.1.2⟩, fun _ => h1.2 (by rw [h3]; rfl)⟩
  · obtain ⟨x, hx, e⟩ := at' k y hy
    simp only [hl]
    rcases e with rfl | ⟨h3, rfl⟩
    · exact h.last k y hx hg
    · exfalso
      have h1 : goesS (1 : Int) = false := by decide
      simp only [h1] at hg
      cases hg
theorem foldGo_pr (n : Nat) : ∀ p : PrS, PrOk p → PrOk (foldGo n p) := by
  induction n with
  | zero => intro p h; exact h
  | succ n ih =>
    intro p h
    unfold foldGo
    split
    · exact (once_ok h).p4
    · exact ih _ (once_ok h).p4
def tailP (p : PrS) : PrS := (tailS p.1, p.2)
def foldP (p : PrS) : PrS := foldGo (p.1.length + 1) p
/-- A program, with these options done. -/
def withP (f t s : Bool) (p : PrS) : PrS :=
  let p1 := if t = true then tailP p else p
  let p2 := if f = true then foldP p1 else p1
  if s = true then superP p2 else p2
theorem foldP_pr {p : PrS} (h : PrOk p) : PrOk (foldP p) := foldGo_pr _ p h
theorem withP_code {f t s : Bool} {p : PrS} (h : PrOk p) : CodeOk (withP f t s p).1 ∧ (withP f t s p).2 < (withP f t s p).1.length := by
  have h1 : PrOk (if t = true then tailP p else p) := by split; exact tail_pr h; exact h
  have h2 : PrOk (if f = true then foldP (if t = true then tailP p else p) else (if t = true then tailP p else p)) := by split; exact foldP_pr h1; exact h1
  unfold withP
  simp only
  split
  · exact super_code h2
  · exact ⟨pr_code h2, h2.entry⟩
theorem out_nil (a : ByteArray) : a = a ++ ⟨#[]⟩ := by
  apply ByteArray.ext
  rw [ByteArray.data_append]
  simp
theorem refused_range (m : MS) (op : Int) : refusedS m op = 0 ∨ 7 ≤ refusedS m op ∧ refusedS m op ≤ 14 := by
  unfold refusedS
  repeat' split
  all_goals omega
theorem doS_cellsLen (m : MS) (op arg : Int) : (doS m op arg).cells.length = m.cells.length := by
  unfold doS
  repeat' (first | refine ite_pred (p := fun z => z.cells.length = m.cells.length) ?_ ?_ | rfl | exact List.length_set ..)
theorem doS_outMore (m : MS) (op arg : Int) : ∃ t, (doS m op arg).out = m.out ++ t := by
  unfold doS
  repeat' (first | refine ite_pred (p := fun z => ∃ t, z.out = m.out ++ t) ?_ ?_ | exact ⟨⟨#[]⟩, out_nil _⟩ | exact ⟨_, rfl⟩ | exact ⟨_, by simp only [ByteArray.append_assoc]; rfl⟩)
theorem partsRun_facts (arg : Int) (ps : List Int) : ∀ m : MS, (partsRun arg ps m).1.cells.length = m.cells.length ∧ (∃ t, (partsRun arg ps m).1.out = m.out ++ t) ∧ ((partsRun arg ps m).2 = 0 ∨ 7 ≤ (partsRun arg ps m).2 ∧ (partsRun arg ps m).2 ≤ 14) := by
  induction ps with
  | nil => intro m; exact ⟨rfl, ⟨⟨#[]⟩, out_nil _⟩, Or.inl rfl⟩
  | cons op r ih =>
    intro m
    unfold partsRun
    split
    · obtain ⟨h1, ⟨t, h2⟩, h3⟩ := ih (doS m op arg)
      obtain ⟨u, hu⟩ := doS_outMore m op arg
      exact ⟨by rw [h1, doS_cellsLen], ⟨u ++ t, by rw [h2, hu, ByteArray.append_assoc]⟩, h3⟩
    next h => exact ⟨rfl, ⟨⟨#[]⟩, out_nil _⟩, Or.inr (by rcases refused_range m op with h1 | h1; exact absurd h1 h; exact h1)⟩
theorem stepM_facts (l : List (Int × Int)) (m : MS) : (stepM l m).1.cells.length = m.cells.length ∧ (∃ t, (stepM l m).1.out = m.out ++ t) ∧ ((stepM l m).2 = 0 ∨ 7 ≤ (stepM l m).2 ∧ (stepM l m).2 ≤ 14) := by
  unfold stepM
  split
  · exact partsRun_facts _ _ _
  · exact ⟨rfl, ⟨⟨#[]⟩, out_nil _⟩, Or.inl rfl⟩
theorem runM_facts (l : List (Int × Int)) (n : Nat) : ∀ (s : Int) (m : MS), (runM l n s m).1.cells.length = m.cells.length ∧ (∃ t, (runM l n s m).1.out = m.out ++ t) ∧ s ≤ (runM l n s m).2.2 ∧ (runM l n s m).2.2 ≤ s + n ∧ ((runM l n s m).2.1 = 15 → (runM l n s m).2.2 = s + n) := by
  induction n with
  | zero =>
    intro s m
    unfold runM
    split
    · exact ⟨rfl, ⟨⟨#[]⟩, out_nil _⟩, by simp, by simp, fun _ => by simp⟩
    · exact ⟨rfl, ⟨⟨#[]⟩, out_nil _⟩, by simp, by simp, fun _ => by simp⟩
  | succ n ih =>
    intro s m
    obtain ⟨f1, ⟨t, f2⟩, f3⟩ := stepM_facts l m
    unfold runM
    split
    · exact ⟨rfl, ⟨⟨#[]⟩, out_nil _⟩, by simp, by simp; omega, fun h => by simp at h⟩
    · split
      · obtain ⟨h1, ⟨u, h2⟩, h3, h4, h5⟩ := ih (s + 1) (stepM l m).1
        exact ⟨by rw [h1, f1], ⟨t ++ u, by rw [h2, f2, ByteArray.append_assoc]⟩, by omega, by omega, fun h => by have := h5 h; omega⟩
      next hne => exact ⟨f1, ⟨t, f2⟩, by simp; omega, by simp; omega, fun h => by simp only at h; omega⟩
/-- Less fuel puts out a beginning. -/
theorem runM_less (l : List (Int × Int)) (n : Nat) : ∀ (n' : Nat) (s : Int) (m : MS), n ≤ n' → (∃ t, (runM l n' s m).1.out = (runM l n s m).1.out ++ t) ∧ (runM l n s m).2.2 ≤ (runM l n' s m).2.2 := by
  induction n with
  | zero =>
    intro n' s m _
    obtain ⟨_, h2, h3, _⟩ := runM_facts l n' s m
    have e : (runM l 0 s m).1 = m ∧ (runM l 0 s m).2.2 = s := by unfold runM; split <;> exact ⟨rfl, rfl⟩
    rw [e.1, e.2]
    exact ⟨h2, h3⟩
  | succ n ih =>
    intro n' s m hn
    obtain ⟨k, rfl⟩ : ∃ k, n' = k + 1 := ⟨n' - 1, by omega⟩
    unfold runM
    split
    · exact ⟨⟨⟨#[]⟩, out_nil _⟩, Int.le_refl _⟩
    · split
      · exact ih k (s + 1) (stepM l m).1 (by omega)
      · exact ⟨⟨⟨#[]⟩, out_nil _⟩, Int.le_refl _⟩
end Go.Proofs.YtmeiikjpaepogaaGreatDoor
