import PyProof.Rows.All
import Wide.All
import OpenK.AllK
import Wide.FinOn
import PyProof.ListStr
import HandS.Base
import HandS.Call
import HandS.List
import HandS.Comp
import HandS.Ends
import HandS.Dict
import HandS.Iter
import HandS.Text
import HandS.Exc
import HandS.Words
import HandS.WordsList
import HandS.Flow
import HandS.Style
import HandS.NoneIn
import HandS.IsInst
import HandS.Wide
import HandS.Evl
import HandS.Codes
import PySem.Challenge.RW_handedcopies_k02_shapes_refused
import PyProof.Draws
import PyProof.EnumMake
import HandS.Property
import KE.KExcInit
import KE.KIsAll
import HandS.ExcOwn
import HandS.ExcInit
import HandS.ExcField
import HandS.ExcIs
import HandS.ExcValue
import HandS.WordsExc
import PyProof.StrOps2
import KE.KStateDown
import HandS.Defaults
import HandS.Head0
import HandS.Head1
import HandS.Head2
import HandS.HeadEnd
import HandS.HeadHook1
import HandS.HeadHook2
import HandS.HeadHook4
import PyProof.ExcBaseAll.ValueError
import PyProof.ExcBaseAll.RuntimeError
set_option Elab.async false
set_option linter.all false
set_option maxRecDepth 100000
set_option maxHeartbeats 4000000
/-! Rules that hold for any program: xs[i] read by values, list(a text), frames of what stays. -/
namespace Hc
open PySem PySem.Spec PyProof.Rows L2

/-- all that was tracked outside S is as it was -/
def Ext (S : Addr → Prop) (H H' : Hp) : Prop := ∀ b o, H b = some o → ¬ S b → H' b = some o
theorem Ext.refl (S : Addr → Prop) (H : Hp) : Ext S H H := fun _ _ h _ => h
theorem Ext.trans {S : Addr → Prop} {H H1 H2 : Hp} (a : Ext S H H1) (b : Ext S H1 H2) : Ext S H H2 := fun c o h n => b c o (a c o h n) n
theorem Ext.mono {S T : Addr → Prop} {H H1 : Hp} (a : Ext S H H1) (h : ∀ b, S b → T b) : Ext T H H1 := fun c o e n => a c o e fun z => n (h c z)
theorem Ext.same {S : Addr → Prop} {H H1 : Hp} (a : Same H H1) : Ext S H H1 := fun c o e _ => a c o e
theorem Ext.new {S : Addr → Prop} {H : Hp} {p : Addr} {o : HO} (h : H p = none) : Ext S H (upd H p o) := fun b x e _ => by
  rw [upd_ne (ne_of_none e h)]
  exact e
theorem Ext.put {S : Addr → Prop} {H : Hp} {p : Addr} {o : HO} (h : S p) : Ext S H (upd H p o) := fun b x e n => by
  rw [upd_ne (fun z => n (by rw [z]; exact h))]
  exact e
theorem same_new {H : Hp} {p : Addr} {o : HO} (h : H p = none) : Same H (upd H p o) := fun b x e => by
  rw [upd_ne (ne_of_none e h)]
  exact e
/-- what is new in H' was free in H or lay in S -/
theorem Ext.free {S : Addr → Prop} {H H' : Hp} (e : Ext S H H') {l : Addr} (h : H' l = none) (hs : ¬ S l) : H l = none := by
  cases q : H l with
  | none => rfl
  | some o =>
    rw [e l o q hs] at h
    cases h
theorem Ext.seq {S : Addr → Prop} {K : PySem.W.Frag} {H H' : Hp} {a : Addr} {xs : List V} (e : Ext S H H') (n : ¬ S a) (h : SqL K H a xs) : SqL K H' a xs := by
  rcases h with (h | ⟨o, h⟩) | h
  · exact .inl (.inl (e _ _ h n))
  · exact .inl (.inr ⟨o, e _ _ h n⟩)
  · exact .inr h
theorem Ext.seqT {S : Addr → Prop} {K : PySem.W.Frag} {H H' : Hp} {a : Addr} {xs : List V} (e : Ext S H H') (n : ¬ S a) (h : SqT K H a xs) : SqT K H' a xs := by
  rcases h with (h | ⟨o, h⟩) | h
  · exact .inl (.inl (e _ _ h n))
  · exact .inl (.inr ⟨o, e _ _ h n⟩)
  · exact .inr h

section
variable {X : Cx}
/-- xs[i] by values, for xs[i] op= e -/
theorem pg_list : PGet X (rIxL X.K) := by
  intro pins s σ H x y v u Q I rx ry h
  obtain ⟨p, xs, i, z, rfl, rfl, hq, he, q⟩ := h
  cases rx
  obtain ⟨t, rfl⟩ := ry
  obtain ⟨its, r, pl, hz⟩ := I.list hq
  obtain ⟨j, h1, h2, h3, h4, h5⟩ := atI_get he
  obtain ⟨w, ew, rw'⟩ := r.get h2
  have hl := r.length
  have hn := line63
  have fin : EP X pins σ Q w s := ⟨z, H, I, rw', q⟩
  by_cases h0 : 0 ≤ i
  · have hj : i.toNat = j := by
      rw [seqIndex_of h0 h5] at h1
      exact Option.some.inj h1
    exact wpAny_getItem_list pl.isList h0 (by omega) (by rw [hj]; simpa using ew) fin
  · have hj : (i + (its.toArray.size : Int)).toNat = j := by
      rw [seqIndex_neg (by omega) h4] at h1
      rw [List.size_toArray, ← hl]
      exact Option.some.inj h1
    exact wpAny_getItem_list_neg pl.isList (by omega) (by rw [List.size_toArray] <;> omega) (by omega) (by rw [hj]; simpa using ew) fin
/-- the signs of a text, each a text -/
def signs (x : Str) : List V := x.cps.toList.map fun c => V.str ⟨#[c]⟩
theorem vals_signs {x : Str} {acc : Array Value} (h : ItemsOf (SignAt x) acc x.cps.size) : Vals (signs x) acc.toList := by
  obtain ⟨hs, hi⟩ := h
  have key : ∀ (cs : List Nat) (us : List Value), cs.length = us.length → (∀ (j : Nat) (v : Value), us[j]? = some v → ∃ c u, cs[j]? = some c ∧ v = .str ⟨#[c]⟩ u) → Vals (cs.map fun c => V.str ⟨#[c]⟩) us := by
    intro cs
    induction cs with
    | nil =>
      intro us hl _
      cases us with
      | nil => exact .nil
      | cons u r => simp at hl
    | cons c cs ih =>
      intro us hl hx
      cases us with
      | nil => simp at hl
      | cons u r =>
        obtain ⟨c', t, e1, e2⟩ := hx 0 u rfl
        have e1' : c = c' := by simpa using e1
        subst e1'
        exact .cons ⟨t, e2⟩ (ih r (by simpa using hl) fun j v e => by
          obtain ⟨c2, t2, q1, q2⟩ := hx (j + 1) v (by simpa using e)
          exact ⟨c2, t2, by simpa using q1, q2⟩)
  refine key x.cps.toList acc.toList (by simp [hs]) fun j v e => ?_
  obtain ⟨c, u, e1, e2⟩ := hi j v (by rw [← Array.getElem?_toList]; exact e)
  exact ⟨c, u, by rw [Array.getElem?_toList]; exact e1, e2⟩
/-- list(a text): a new list of its signs -/
theorem call_listS (hc : X.calm = true) : CallR X (.type "list") (fun xs H Q => ∃ x : Str, xs = [.str x] ∧ x.cps.size ≤ sizeLine ∧ ∀ l, H l = none → Q (.ref l) (upd H l (.lst (signs x)))) := by
  intro pins s σ H xs us Q I r h
  obtain ⟨x, rfl, hz, q⟩ := h
  obtain ⟨u, rfl, t, rfl⟩ := vals1 r
  refine call_list_str (I.ok.hd hc) x t (fun h' tk acc' c' k hS hi => ?_) hz
  have rv := vals_signs hi
  refine ⟨.ref s.heap.objs.size, upd H s.heap.objs.size (.lst (signs x)), I.laid (t' := tk) k (Nat.le_refl _) ⟨?_, acc'.toList, c', rv, ?_⟩, rfl, q _ (I.hok.fresh (Nat.le_refl _))⟩
  · unfold signs
    rw [List.length_map, Array.length_toList]
    exact hz
  · rw [hS]
end

/-! ### comprehensions over a list whose items are told by things of any kind -/
open Evl in
theorem given_map {α : Type} (d : α) (p : α → Bool) (h : α → V) : ∀ ns : List α, given ns.length (fun i => p (ns.getD i d)) (fun i => h (ns.getD i d)) = (ns.filter p).map h := by
  have key : ∀ (r l : List α), given (l ++ r).length (fun i => p ((l ++ r).getD i d)) (fun i => h ((l ++ r).getD i d)) = given l.length (fun i => p ((l ++ r).getD i d)) (fun i => h ((l ++ r).getD i d)) ++ (r.filter p).map h := by
    intro r
    induction r with
    | nil =>
      intro l
      simp
    | cons x r ih =>
      intro l
      have e : l ++ x :: r = (l ++ [x]) ++ r := by simp
      rw [e, ih (l ++ [x])]
      have hx : ((l ++ [x]) ++ r).getD l.length d = x := by simp
      rw [show (l ++ [x]).length = l.length + 1 by simp]
      cases hp : p x with
      | true =>
        rw [given_yes (by rw [hx]; exact hp), hx, List.filter_cons_of_pos hp]
        simp
      | false =>
        rw [given_no (by rw [hx]; exact hp), List.filter_cons_of_neg (by simp [hp])]
  intro ns
  have e := key ns []
  simpa [given] using e
section
open Evl
variable {K : PySem.W.Frag} {σ : L2.St} {H : Hp} {te : TE} {t : TT}
theorem get_map {α : Type} {ns : List α} {f : α → V} {i : Nat} {x : V} (h : (ns.map f)[i]? = some x) (d : α) : ∃ y, ns[i]? = some y ∧ x = f y ∧ ns.getD i d = y ∧ y ∈ ns := by
  rw [List.getElem?_map] at h
  cases e : ns[i]? with
  | none =>
    rw [e] at h
    cases h
  | some y =>
    rw [e] at h
    exact ⟨y, rfl, (Option.some.inj h).symm, by rw [List.getD_eq_getElem?_getD, e]; rfl, List.mem_of_getElem? e⟩
/-- [te for x in a if t], a a list that stands -/
theorem el_map {α : Type} {a : Addr} {tl : TE} {j : Nat} {vs : List Nat} (ns : List α) (f : α → V) (p : α → Bool) (h : α → V) (hl : Ev tl σ H (.ref a)) (hx : SqL K H a (ns.map f)) (hz : ns.length ≤ 40000) (hw : ∀ x, wipe ((wipe σ vs).set j (some x)) vs = wipe σ vs)
    (ht : ∀ x H1, Ex H H1 → x ∈ ns → EvT t ((wipe σ vs).set j (some (f x))) H1 (p x)) (he : ∀ x H1, Ex H H1 → x ∈ ns → p x = true → Ev te ((wipe σ vs).set j (some (f x))) H1 (h x)) :
    EvL (tLc (iList K tl) (gName j) t te vs) σ H ((ns.filter p).map h) := by
  cases ns with
  | nil => exact el_lcL (fun _ => false) (fun _ => .non) hl hx (Nat.zero_le _) hw (fun i x H1 _ e => nomatch e) (fun i x H1 _ e => nomatch e)
  | cons d r =>
    rw [← given_map d p h (d :: r), show (d :: r).length = ((d :: r).map f).length by simp]
    refine el_lcL _ _ hl hx (by rw [List.length_map]; exact hz) hw (fun i x H1 e hi => ?_) (fun i x H1 e hi hp => ?_)
    · obtain ⟨y, e1, rfl, e2, hm⟩ := get_map hi d
      rw [e2]
      exact ht y H1 e hm
    · obtain ⟨y, e1, rfl, e2, hm⟩ := get_map hi d
      rw [e2] at hp ⊢
      exact he y H1 e hm hp
/-- .. over a new list -/
theorem el_mapN {α : Type} {tl : TE} {j : Nat} {vs : List Nat} (ns : List α) (f : α → V) (p : α → Bool) (h : α → V) (hl : EvL tl σ H (ns.map f)) (hz : ns.length ≤ 40000) (hw : ∀ x, wipe ((wipe σ vs).set j (some x)) vs = wipe σ vs)
    (ht : ∀ x H1, Ex H H1 → x ∈ ns → EvT t ((wipe σ vs).set j (some (f x))) H1 (p x)) (he : ∀ x H1, Ex H H1 → x ∈ ns → p x = true → Ev te ((wipe σ vs).set j (some (f x))) H1 (h x)) :
    EvL (tLc (iList K tl) (gName j) t te vs) σ H ((ns.filter p).map h) := by
  cases ns with
  | nil => exact el_lcNL (fun _ => false) (fun _ => .non) hl (Nat.zero_le _) hw (fun i x H1 _ e => nomatch e) (fun i x H1 _ e => nomatch e)
  | cons d r =>
    rw [← given_map d p h (d :: r), show (d :: r).length = ((d :: r).map f).length by simp]
    refine el_lcNL _ _ hl (by rw [List.length_map]; exact hz) hw (fun i x H1 e hi => ?_) (fun i x H1 e hi hp => ?_)
    · obtain ⟨y, e1, rfl, e2, hm⟩ := get_map hi d
      rw [e2]
      exact ht y H1 e hm
    · obtain ⟨y, e1, rfl, e2, hm⟩ := get_map hi d
      rw [e2] at hp ⊢
      exact he y H1 e hm hp
theorem et_yes : EvT tYes σ H true := fun H1 _ _ q => q H1 (Ex.refl H1)
end
end Hc

set_option maxHeartbeats 4000000
/-! Shapes as texts and as trees. -/
namespace Hs
open PySem PySem.Spec PyProof.Rows L2
abbrev S (l : List Nat) : Str := ⟨l.toArray⟩
theorem S_len (a : List Nat) : (S a).length = a.length := by simp [S, Str.length]
theorem S_cat (a b : List Nat) : S a ++ S b = S (a ++ b) := TL.ext_tl (TL.tl_append (S a) (S b))
theorem S_inj {a b : List Nat} (h : S a = S b) : a = b := congrArg (fun x : Str => x.cps.toList) h
theorem S_tl (x : Str) : S x.cps.toList = x := TL.mk_tl x
theorem join_S (a : List Nat) (ys : List (List Nat)) : Txt.join (S a) (ys.map S) = S (TL.joinL a ys) := SX.join_S a ys

/-! ### texts -/
theorem cut_nn (L : List Nat) (i j : Nat) : cutS (S L) (some (i : Int)) (some (j : Int)) = S ((L.drop i).take (j - i)) := by
  unfold cutS
  rw [HT.sIx_nat, HT.sIx_nat, S_len]
  congr 2
  show (L.drop (min i L.length)).take (min j L.length - min i L.length) = (L.drop i).take (j - i)
  by_cases h : i ≤ L.length
  · rw [Nat.min_eq_left h]
    by_cases h2 : j ≤ L.length
    · rw [Nat.min_eq_left h2]
    · rw [Nat.min_eq_right (by omega), List.take_of_length_le (l := L.drop i) (i := L.length - i) (by rw [List.length_drop]; omega), List.take_of_length_le (by rw [List.length_drop]; omega)]
  · rw [Nat.min_eq_right (a := i) (by omega), List.drop_of_length_le (by omega), List.drop_of_length_le (l := L) (i := i) (by omega)]
    simp
theorem cut_n (L : List Nat) (i : Nat) : cutS (S L) (some (i : Int)) none = S (L.drop i) := by
  unfold cutS
  rw [HT.sIx_nat, HT.sIx_none, S_len]
  congr 2
  show (L.drop (min i L.length)).take (L.length - min i L.length) = L.drop i
  by_cases h : i ≤ L.length
  · rw [Nat.min_eq_left h, List.take_of_length_le (by rw [List.length_drop]; omega)]
  · rw [Nat.min_eq_right (by omega), List.drop_of_length_le (by omega), List.drop_of_length_le (l := L) (i := i) (by omega)]
    simp
/-- text[1:-1] -/
def inner (L : List Nat) : List Nat := (L.drop 1).take (L.length - 2)
theorem cut_in (L : List Nat) : cutS (S L) (some (1 : Int)) (some (-1 : Int)) = S (inner L) := by
  unfold cutS inner
  rw [show (1 : Int) = ((1 : Nat) : Int) from rfl, HT.sIx_nat, S_len]
  have e : HT.sIx L.length L.length (some (-((1 : Nat) : Int))) = L.length - 1 := by
    unfold HT.sIx
    dsimp only
    rw [if_pos (by decide)]
    omega
  rw [e]
  congr 2
  show (L.drop (min 1 L.length)).take (L.length - 1 - min 1 L.length) = (L.drop 1).take (L.length - 2)
  by_cases h : 1 ≤ L.length
  · rw [Nat.min_eq_left h, Nat.sub_sub]
  · rw [Nat.min_eq_right (by omega), List.drop_of_length_le (by omega), List.drop_of_length_le (l := L) (i := 1) (by omega)]
    simp
theorem inner_len (L : List Nat) : (inner L).length ≤ L.length := by
  unfold inner
  rw [List.length_take, List.length_drop]
  omega
theorem starts1 (L : List Nat) (c : Nat) : Txt.startswith (S L) (S [c]) = (L.head? == some c) := by
  unfold Txt.startswith
  rw [StrLaws.subAt_eq, S_len, S_len]
  show (decide (0 + 1 ≤ L.length) && ((L.drop 0).take 1 == [c])) = _
  cases L with
  | nil => rfl
  | cons x r =>
    rw [List.drop_zero, List.take_succ_cons, List.take_zero, List.length_cons, List.head?_cons, decide_eq_true (by omega)]
    show ([x] == [c]) = (some x == some c)
    by_cases h : x = c
    · subst h; simp
    · simp [h]
theorem ends1 (L : List Nat) (c : Nat) : Txt.endswith (S L) (S [c]) = (L.getLast? == some c) := by
  unfold Txt.endswith
  rw [StrLaws.subAt_eq, S_len, S_len]
  show (decide (0 + 1 ≤ L.length) && ((L.drop (L.length - 1)).take 1 == [c])) = _
  rcases List.eq_nil_or_concat L with rfl | ⟨l, x, rfl⟩
  · rfl
  · rw [List.concat_eq_append, List.getLast?_append]
    simp
theorem count1 (L : List Nat) (c : Nat) : Txt.count (S L) (S [c]) = ((L.count c : Nat) : Int) := by
  show Txt.count (S L) ⟨#[c]⟩ = _
  rw [count_cnt]
  show cnt c L = _
  induction L with
  | nil => rfl
  | cons x r ih =>
    rw [cnt_cons, ih, List.count_cons]
    by_cases h : x = c
    · subst h
      simp
      omega
    · simp [h]

/-! ### parts -/
abbrev SS := List (List Nat) × Int × Nat
def stepP (L : List Nat) (st : SS) (at_ c : Nat) : SS :=
  if c ∈ [91, 40] then (st.1, st.2.1 + 1, st.2.2)
  else if c ∈ [41, 93] then (st.1, st.2.1 - 1, st.2.2)
  else if st.2.1 = 0 ∧ (L.drop at_).take 2 = [44, 32] then (st.1 ++ [(L.drop st.2.2).take (at_ - st.2.2)], st.2.1, at_ + 2)
  else st
def scan (L : List Nat) : List Nat → Nat → SS → SS
  | [], _, st => st
  | c :: r, i, st => scan L r (i + 1) (stepP L st i c)
def partsOf (L : List Nat) : List (List Nat) := (scan L L 0 ([], 0, 0)).1 ++ [L.drop (scan L L 0 ([], 0, 0)).2.2]

theorem scan_len (L : List Nat) : ∀ (r : List Nat) (i : Nat) (st : SS), (scan L r i st).1.length ≤ st.1.length + r.length
  | [], _, _ => Nat.le_refl _
  | c :: r, i, st => by
    show (scan L r (i + 1) (stepP L st i c)).1.length ≤ _
    have h := scan_len L r (i + 1) (stepP L st i c)
    have h2 : (stepP L st i c).1.length ≤ st.1.length + 1 := by
      unfold stepP
      split
      · exact Nat.le_succ _
      · split
        · exact Nat.le_succ _
        · split
          · simp
          · exact Nat.le_succ _
    rw [List.length_cons]
    omega
theorem partsOf_len (L : List Nat) : (partsOf L).length ≤ L.length + 1 := by
  unfold partsOf
  have h := scan_len L L 0 ([], 0, 0)
  rw [List.length_append, List.length_singleton]
  simpa using h
theorem scan_items (L : List Nat) : ∀ (r : List Nat) (i : Nat) (st : SS), (∀ p ∈ st.1, p.length ≤ L.length) → ∀ p ∈ (scan L r i st).1, p.length ≤ L.length
  | [], _, _, h => h
  | c :: r, i, st, h => by
    refine scan_items L r (i + 1) (stepP L st i c) ?_
    unfold stepP
    split
    · exact h
    · split
      · exact h
      · split
        · intro p hp
          rcases List.mem_append.mp hp with hp | hp
          · exact h p hp
          · rw [List.mem_singleton.mp hp, List.length_take, List.length_drop]
            omega
        · exact h
theorem partsOf_items (L : List Nat) : ∀ p ∈ partsOf L, p.length ≤ L.length := by
  intro p hp
  unfold partsOf at hp
  rcases List.mem_append.mp hp with hp | hp
  · exact scan_items L L 0 ([], 0, 0) (fun p hp => nomatch hp) p hp
  · rw [List.mem_singleton.mp hp, List.length_drop]
    omega

/-! ### forms -/
def hasForm : Nat → List Nat → Bool
  | 0, t => decide (t = [46])
  | f + 1, t => decide (t = [46]) || ((t.head? == some 91) && (t.getLast? == some 93) && (decide ((partsOf (inner t)).length ≤ 3) && (partsOf (inner t)).all (hasForm f)))
def isShape (t : List Nat) : Bool := decide (t.count 91 ≤ 5) && hasForm 3 t
theorem form_up : ∀ (f : Nat) (t : List Nat), hasForm f t = true → hasForm (f + 1) t = true
  | 0, t, h => by
    show (decide (t = [46]) || _) = true
    have h' : decide (t = [46]) = true := h
    rw [h']
    rfl
  | f + 1, t, h => by
    have h' : (decide (t = [46]) || ((t.head? == some 91) && (t.getLast? == some 93) && (decide ((partsOf (inner t)).length ≤ 3) && (partsOf (inner t)).all (hasForm f)))) = true := h
    show (decide (t = [46]) || ((t.head? == some 91) && (t.getLast? == some 93) && (decide ((partsOf (inner t)).length ≤ 3) && (partsOf (inner t)).all (hasForm (f + 1))))) = true
    rw [Bool.or_eq_true] at h' ⊢
    rcases h' with h' | h'
    · exact .inl h'
    · rw [Bool.and_eq_true, Bool.and_eq_true, Bool.and_eq_true] at h' ⊢
      obtain ⟨⟨a, b⟩, c, d⟩ := h'
      refine .inr ⟨⟨a, b⟩, c, ?_⟩
      rw [List.all_eq_true] at d ⊢
      exact fun p hp => form_up f p (d p hp)
theorem form_le {f g : Nat} (h : f ≤ g) {t : List Nat} (x : hasForm f t = true) : hasForm g t = true := by
  induction h with
  | refl => exact x
  | step _ ih => exact form_up _ _ ih

/-! ### trees: lists of lists, n floors at most -/
def Tre : Nat → Type
  | 0 => Unit
  | n + 1 => List (Tre n)
def txt : (n : Nat) → Tre n → List Nat
  | 0, _ => [46]
  | n + 1, (l : List (Tre n)) => if l.isEmpty then [46] else 91 :: (TL.joinL [44, 32] (l.map (txt n)) ++ [93])
def lsts : (n : Nat) → Tre n → Nat
  | 0, _ => 0
  | n + 1, (l : List (Tre n)) => if l.isEmpty then 0 else 1 + (l.map (lsts n)).sum
def dep : (n : Nat) → Tre n → Nat
  | 0, _ => 0
  | n + 1, (l : List (Tre n)) => if l.isEmpty then 0 else 1 + (l.map (dep n)).foldl max 0
def slim : (n : Nat) → Tre n → Bool
  | 0, _ => true
  | n + 1, (l : List (Tre n)) => decide (l.length ≤ 3) && l.all (slim n)
theorem txt_nil (n : Nat) : txt (n + 1) ([] : List (Tre n)) = [46] := rfl
theorem txt_cons (n : Nat) (x : Tre n) (r : List (Tre n)) : txt (n + 1) (x :: r : List (Tre n)) = 91 :: (TL.joinL [44, 32] ((x :: r).map (txt n)) ++ [93]) := rfl
theorem joinL_cons (s p q : List Nat) (r : List (List Nat)) : TL.joinL s (p :: q :: r) = p ++ (s ++ TL.joinL s (q :: r)) := rfl

theorem scan_app (L : List Nat) : ∀ (a r : List Nat) (i : Nat) (st : SS), scan L (a ++ r) i st = scan L r (i + a.length) (scan L a i st)
  | [], r, i, st => rfl
  | c :: a, r, i, st => by
    show scan L (a ++ r) (i + 1) (stepP L st i c) = scan L r (i + (a.length + 1)) (scan L a (i + 1) (stepP L st i c))
    rw [scan_app L a r (i + 1), show i + 1 + a.length = i + (a.length + 1) by omega]
theorem drop_app {L a r : List Nat} {i : Nat} (h : L.drop i = a ++ r) : L.drop (i + a.length) = r := by
  rw [← List.drop_drop, h, List.drop_left]
/-- a text of a shape leaves the scan as it was -/
theorem scan_txt : ∀ (n : Nat) (t : Tre n) (L r : List Nat) (i : Nat) (p : List (List Nat)) (k : Int) (s : Nat), 0 ≤ k → L.drop i = txt n t ++ r → scan L (txt n t) i (p, k, s) = (p, k, s) := by
  have dot : ∀ (L r : List Nat) (i : Nat) (p : List (List Nat)) (k : Int) (s : Nat), L.drop i = [46] ++ r → scan L [46] i (p, k, s) = (p, k, s) := by
    intro L r i p k s h
    show stepP L (p, k, s) i 46 = (p, k, s)
    unfold stepP
    rw [if_neg (by decide), if_neg (by decide), h, if_neg (by simp)]
  intro n
  induction n with
  | zero => exact fun t L r i p k s _ h => dot L r i p k s h
  | succ n ih =>
    intro t L r i p k s hk h
    match t, h with
    | [], h => exact dot L r i p k s h
    | x :: l, h =>
      rw [txt_cons] at h ⊢
      -- the items, within one bracket more
      have items : ∀ (l : List (Tre n)) (x : Tre n) (j : Nat) (q : List Nat) (k : Int), 0 < k → L.drop j = TL.joinL [44, 32] ((x :: l).map (txt n)) ++ q → scan L (TL.joinL [44, 32] ((x :: l).map (txt n))) j (p, k, s) = (p, k, s) := by
        intro l
        induction l with
        | nil =>
          intro x j q k hk h
          exact ih x L q j p k s (by omega) h
        | cons y l ih2 =>
          intro x j q k hk h
          rw [List.map_cons, List.map_cons, joinL_cons] at h ⊢
          rw [scan_app, ih x L ([44, 32] ++ TL.joinL [44, 32] (txt n y :: l.map (txt n)) ++ q) j p k s (by omega) (by rw [h]; simp), scan_app]
          have e : scan L [44, 32] (j + (txt n x).length) (p, k, s) = (p, k, s) := by
            show stepP L (stepP L (p, k, s) _ 44) _ 32 = (p, k, s)
            have one : ∀ (m c : Nat), c ∉ [91, 40] → c ∉ [41, 93] → stepP L (p, k, s) m c = (p, k, s) := by
              intro m c h1 h2
              unfold stepP
              rw [if_neg h1, if_neg h2, if_neg (by rintro ⟨z, _⟩; exact absurd z (by show ¬ k = 0; omega))]
            rw [one _ 44 (by decide) (by decide), one _ 32 (by decide) (by decide)]
          rw [e]
          refine ih2 y _ q k hk ?_
          have d1 : L.drop (j + (txt n x).length) = [44, 32] ++ (TL.joinL [44, 32] (txt n y :: l.map (txt n)) ++ q) := drop_app (a := txt n x) (by rw [h]; simp)
          exact drop_app (a := [44, 32]) d1
      show scan L (TL.joinL [44, 32] ((x :: l).map (txt n)) ++ [93]) (i + 1) (stepP L (p, k, s) i 91) = (p, k, s)
      have e1 : stepP L (p, k, s) i 91 = (p, k + 1, s) := by
        unfold stepP
        rw [if_pos (by decide)]
      rw [e1, scan_app, items l x (i + 1) ([93] ++ r) (k + 1) (by omega) (by
        have := drop_app (a := [91]) (r := TL.joinL [44, 32] ((x :: l).map (txt n)) ++ [93] ++ r) (L := L) (i := i) (by rw [h]; simp)
        rw [show i + 1 = i + [91].length by rfl, this]
        simp)]
      show stepP L (p, k + 1, s) (i + 1 + (TL.joinL [44, 32] ((x :: l).map (txt n))).length) 93 = (p, k, s)
      unfold stepP
      rw [if_neg (by decide), if_pos (by decide)]
      show (p, k + 1 - 1, s) = (p, k, s)
      rw [Int.add_sub_cancel]
theorem scan_join (n : Nat) : ∀ (l : List (Tre n)) (x : Tre n) (L : List Nat) (i : Nat) (p : List (List Nat)), L.drop i = TL.joinL [44, 32] ((x :: l).map (txt n)) →
    (scan L (TL.joinL [44, 32] ((x :: l).map (txt n))) i (p, 0, i)).1 ++ [L.drop (scan L (TL.joinL [44, 32] ((x :: l).map (txt n))) i (p, 0, i)).2.2] = p ++ (x :: l).map (txt n) := by
  intro l
  induction l with
  | nil =>
    intro x L i p h
    have e := scan_txt n x L [] i p 0 i (Int.le_refl 0) (by rw [List.append_nil]; exact h)
    show (scan L (txt n x) i (p, 0, i)).1 ++ [L.drop (scan L (txt n x) i (p, 0, i)).2.2] = p ++ [txt n x]
    rw [e]
    show p ++ [L.drop i] = _
    rw [h]
    rfl
  | cons y l ih =>
    intro x L i p h
    rw [List.map_cons, List.map_cons, joinL_cons] at h ⊢
    rw [scan_app, scan_app, scan_txt n x L _ i p 0 i (Int.le_refl 0) h]
    have d1 : L.drop (i + (txt n x).length) = [44, 32] ++ TL.joinL [44, 32] (txt n y :: l.map (txt n)) := drop_app h
    have e : scan L [44, 32] (i + (txt n x).length) (p, 0, i) = (p ++ [txt n x], 0, i + (txt n x).length + 2) := by
      show stepP L (stepP L (p, 0, i) _ 44) _ 32 = _
      have e1 : stepP L (p, 0, i) (i + (txt n x).length) 44 = (p ++ [txt n x], 0, i + (txt n x).length + 2) := by
        unfold stepP
        rw [if_neg (by decide), if_neg (by decide), if_pos ⟨rfl, by rw [d1]; rfl⟩]
        show (p ++ [(L.drop i).take (i + (txt n x).length - i)], _, _) = _
        rw [h, Nat.add_sub_cancel_left, List.take_left]
      rw [e1]
      have d2 : L.drop (i + (txt n x).length + 1) = 32 :: TL.joinL [44, 32] (txt n y :: l.map (txt n)) := by
        rw [← List.drop_drop, d1]
        rfl
      unfold stepP
      rw [if_neg (by decide), if_neg (by decide), if_neg (by rw [d2]; rintro ⟨_, z⟩; simp at z)]
    rw [e]
    have d3 : L.drop (i + (txt n x).length + 2) = TL.joinL [44, 32] (txt n y :: l.map (txt n)) := drop_app (a := [44, 32]) d1
    have z := ih y L (i + (txt n x).length + 2) (p ++ [txt n x]) d3
    rw [List.map_cons] at z
    refine z.trans ?_
    simp
theorem parts_txt (n : Nat) (x : Tre n) (l : List (Tre n)) : partsOf (inner (txt (n + 1) (x :: l : List (Tre n)))) = (x :: l).map (txt n) := by
  have e : inner (txt (n + 1) (x :: l : List (Tre n))) = TL.joinL [44, 32] ((x :: l).map (txt n)) := by
    rw [txt_cons]
    unfold inner
    rw [List.drop_one, List.tail_cons, List.length_cons, List.length_append, List.length_singleton]
    show List.take (_ + 1 + 1 - 2) _ = _
    rw [show (TL.joinL [44, 32] ((x :: l).map (txt n))).length + 1 + 1 - 2 = (TL.joinL [44, 32] ((x :: l).map (txt n))).length by omega, List.take_left]
  rw [e]
  unfold partsOf
  have z := scan_join n l x (TL.joinL [44, 32] ((x :: l).map (txt n))) 0 [] rfl
  rw [z]
  rfl
theorem txt_head (n : Nat) (x : Tre n) (l : List (Tre n)) : (txt (n + 1) (x :: l : List (Tre n))).head? = some 91 := rfl
theorem txt_last (n : Nat) (x : Tre n) (l : List (Tre n)) : (txt (n + 1) (x :: l : List (Tre n))).getLast? = some 93 := by
  rw [txt_cons, ← List.cons_append, List.getLast?_append]
  rfl
theorem txt_form : ∀ (n : Nat) (t : Tre n), slim n t = true → hasForm n (txt n t) = true
  | 0, _, _ => rfl
  | n + 1, [], _ => rfl
  | n + 1, x :: l, h => by
    have h' : (decide ((x :: l).length ≤ 3) && (x :: l).all (slim n)) = true := h
    rw [Bool.and_eq_true, List.all_eq_true] at h'
    unfold hasForm
    rw [parts_txt, txt_head, txt_last, List.length_map, h'.1, List.all_map]
    have e : (x :: l).all (hasForm n ∘ txt n) = true := List.all_eq_true.mpr fun y hy => txt_form n y (h'.2 y hy)
    rw [e]
    simp
theorem txt_dot {n : Nat} {x : Tre n} {l : List (Tre n)} : txt (n + 1) (x :: l : List (Tre n)) ≠ [46] := by
  rw [txt_cons]
  intro z
  simp at z
theorem count_join (l : List (List Nat)) : (TL.joinL [44, 32] l).count 91 = (l.map (·.count 91)).sum := by
  induction l with
  | nil => rfl
  | cons p r ih =>
    cases r with
    | nil => simp [TL.joinL]
    | cons q r =>
      rw [joinL_cons, List.count_append, List.count_append, ih]
      simp
theorem txt_count : ∀ (n : Nat) (t : Tre n), (txt n t).count 91 = lsts n t
  | 0, _ => rfl
  | n + 1, [] => rfl
  | n + 1, x :: l => by
    rw [txt_cons, List.count_cons, List.count_append, count_join, List.map_map]
    show (((x :: l).map ((·.count 91) ∘ txt n)).sum + [93].count 91) + _ = 1 + ((x :: l).map (lsts n)).sum
    have e : (x :: l).map ((·.count 91) ∘ txt n) = (x :: l).map (lsts n) := List.map_congr_left fun y _ => txt_count n y
    rw [e]
    simp
    omega
/-- trees with one text are one tree -/
theorem txt_inj : ∀ (n : Nat) (a b : Tre n), txt n a = txt n b → a = b
  | 0, _, _, _ => rfl
  | n + 1, [], [], _ => rfl
  | n + 1, [], y :: m, h => absurd h.symm txt_dot
  | n + 1, x :: l, [], h => absurd h txt_dot
  | n + 1, x :: l, y :: m, h => by
    have e : (x :: l).map (txt n) = (y :: m).map (txt n) := by rw [← parts_txt, ← parts_txt, h]
    have key : ∀ (p q : List (Tre n)), p.map (txt n) = q.map (txt n) → p = q := by
      intro p
      induction p with
      | nil =>
        intro q hq
        cases q with
        | nil => rfl
        | cons _ _ => simp at hq
      | cons c p ih =>
        intro q hq
        cases q with
        | nil => simp at hq
        | cons d q =>
          simp only [List.map_cons, List.cons.injEq] at hq
          rw [txt_inj n c d hq.1, ih q hq.2]
    exact key _ _ e
end Hs

set_option maxHeartbeats 4000000
/-! A text has the form of a shape exactly if it is the text of a tree; the law's own reader says the same. -/
namespace Hs
open PySem PySem.Spec PyProof.Rows L2
theorem join_two (s a b : List Nat) : ∀ ps : List (List Nat), TL.joinL s (ps ++ [a ++ (s ++ b)]) = TL.joinL s (ps ++ [a] ++ [b])
  | [] => rfl
  | [p] => rfl
  | p :: q :: r => by
    have ih := join_two s a b (q :: r)
    show p ++ (s ++ TL.joinL s ((q :: r) ++ [a ++ (s ++ b)])) = p ++ (s ++ TL.joinL s ((q :: r) ++ [a] ++ [b]))
    rw [ih]
theorem scan_back (L : List Nat) : ∀ (r : List Nat) (i : Nat) (ps : List (List Nat)) (n : Int) (s : Nat), L.drop i = r → TL.joinL [44, 32] (ps ++ [L.drop s]) = L → (s ≤ i ∨ (s = i + 1 ∧ L[i]? = some 32)) →
    TL.joinL [44, 32] ((scan L r i (ps, n, s)).1 ++ [L.drop (scan L r i (ps, n, s)).2.2]) = L := by
  intro r
  induction r with
  | nil => exact fun i ps n s _ h _ => h
  | cons c r ih =>
    intro i ps n s hd h hs
    have hc : L[i]? = some c := by
      have z : (L.drop i)[0]? = some c := by rw [hd]; rfl
      rw [List.getElem?_drop] at z
      simpa using z
    have hd' : L.drop (i + 1) = r := by rw [← List.drop_drop, hd]; rfl
    have stay : ∀ n', TL.joinL [44, 32] ((scan L r (i + 1) (ps, n', s)).1 ++ [L.drop (scan L r (i + 1) (ps, n', s)).2.2]) = L := fun n' => ih (i + 1) ps n' s hd' h (.inl (by rcases hs with hs | hs <;> omega))
    show TL.joinL [44, 32] ((scan L r (i + 1) (stepP L (ps, n, s) i c)).1 ++ [L.drop (scan L r (i + 1) (stepP L (ps, n, s) i c)).2.2]) = L
    by_cases h1 : c ∈ [91, 40]
    · rw [show stepP L (ps, n, s) i c = (ps, n + 1, s) from if_pos h1]
      exact stay _
    · by_cases h2 : c ∈ [41, 93]
      · rw [show stepP L (ps, n, s) i c = (ps, n - 1, s) from (if_neg h1).trans (if_pos h2)]
        exact stay _
      · by_cases h3 : n = 0 ∧ (L.drop i).take 2 = [44, 32]
        · rw [show stepP L (ps, n, s) i c = (ps ++ [(L.drop s).take (i - s)], n, i + 2) from (if_neg h1).trans ((if_neg h2).trans (if_pos h3))]
          have e2 := h3.2
          rw [hd] at e2
          obtain ⟨r2, rfl, rfl⟩ : ∃ r2, c = 44 ∧ r = 32 :: r2 := by
            cases r with
            | nil => simp at e2
            | cons d r2 =>
              simp at e2
              exact ⟨r2, e2.1, by rw [e2.2]⟩
          have hsi : s ≤ i := by
            rcases hs with hs | ⟨_, hs⟩
            · exact hs
            · rw [hc] at hs
              cases hs
          have d2 : L.drop (i + 2) = r2 := by
            rw [show i + 2 = i + 1 + 1 by omega, ← List.drop_drop, hd']
            rfl
          refine ih (i + 1) _ n (i + 2) hd' ?_ (.inr ⟨rfl, ?_⟩)
          · have e3 : L.drop s = (L.drop s).take (i - s) ++ ([44, 32] ++ L.drop (i + 2)) := by
              have z := List.take_append_drop (i - s) (L.drop s)
              rw [List.drop_drop, show s + (i - s) = i by omega, hd] at z
              rw [d2]
              exact z.symm
            rw [← join_two, ← e3]
            exact h
          · have z : (L.drop (i + 1))[0]? = some 32 := by rw [hd']; rfl
            rw [List.getElem?_drop] at z
            simpa using z
        · rw [show stepP L (ps, n, s) i c = (ps, n, s) from (if_neg h1).trans ((if_neg h2).trans (if_neg h3))]
          exact stay _
theorem parts_back (L : List Nat) : TL.joinL [44, 32] (partsOf L) = L := by
  unfold partsOf
  exact scan_back L L 0 [] 0 0 rfl rfl (.inl (Nat.le_refl 0))
theorem parts_ne (L : List Nat) : partsOf L ≠ [] := by
  unfold partsOf
  simp
theorem inner_back {t : List Nat} (h1 : t.head? = some 91) (h2 : t.getLast? = some 93) : t = 91 :: (inner t ++ [93]) := by
  cases t with
  | nil => cases h1
  | cons c r =>
    have e : c = 91 := by simpa using h1
    subst e
    rcases List.eq_nil_or_concat r with rfl | ⟨m, d, rfl⟩
    · simp at h2
    · rw [List.concat_eq_append, ← List.cons_append, List.getLast?_append] at h2
      have e : d = 93 := by simpa using h2
      subst e
      unfold inner
      rw [List.concat_eq_append]
      simp
theorem map_of {α β : Type} {f : α → β} {P : α → Prop} : ∀ (l : List β), (∀ x ∈ l, ∃ a, f a = x ∧ P a) → ∃ as : List α, as.map f = l ∧ ∀ a ∈ as, P a
  | [], _ => ⟨[], rfl, fun a h => by cases h⟩
  | x :: l, h => by
    obtain ⟨a, h1, h2⟩ := h x List.mem_cons_self
    obtain ⟨as, h3, h4⟩ := map_of l fun y hy => h y (List.mem_cons_of_mem _ hy)
    refine ⟨a :: as, by rw [List.map_cons, h1, h3], fun b hb => ?_⟩
    rcases List.mem_cons.mp hb with rfl | hb
    · exact h2
    · exact h4 b hb
theorem slim_iff' (n : Nat) (l : List (Tre n)) : slim (n + 1) l = true ↔ l.length ≤ 3 ∧ ∀ x ∈ l, slim n x = true := by
  show (decide (l.length ≤ 3) && l.all (slim n)) = true ↔ _
  rw [Bool.and_eq_true, List.all_eq_true, decide_eq_true_eq]
theorem form_tree : ∀ (n : Nat) (t : List Nat), hasForm n t = true → ∃ tr : Tre n, txt n tr = t ∧ slim n tr = true
  | 0, t, h => ⟨(), (of_decide_eq_true h : t = [46]).symm, rfl⟩
  | n + 1, t, h => by
    have h' : (decide (t = [46]) || ((t.head? == some 91) && (t.getLast? == some 93) && (decide ((partsOf (inner t)).length ≤ 3) && (partsOf (inner t)).all (hasForm n)))) = true := h
    rw [Bool.or_eq_true] at h'
    rcases h' with h' | h'
    · exact ⟨([] : List (Tre n)), (of_decide_eq_true h').symm, rfl⟩
    · rw [Bool.and_eq_true, Bool.and_eq_true, Bool.and_eq_true, List.all_eq_true, decide_eq_true_eq] at h'
      obtain ⟨⟨a, b⟩, c, d⟩ := h'
      obtain ⟨l, h1, h2⟩ := map_of (f := txt n) (P := fun x => slim n x = true) (partsOf (inner t)) fun p hp => form_tree n p (d p hp)
      have hl : l.length ≤ 3 := by rw [← List.length_map (f := txt n), h1]; exact c
      cases l with
      | nil => exact absurd h1.symm (parts_ne _)
      | cons x r =>
        refine ⟨(x :: r : List (Tre n)), ?_, (slim_iff' n (x :: r)).mpr ⟨hl, h2⟩⟩
        rw [txt_cons, h1, parts_back]
        exact (inner_back (eq_of_beq a) (eq_of_beq b)).symm
/-! ### the law's own reader -/
def lloop (g : Nat → Option Nat) (L : List Nat) : Nat → Nat → Option Nat
  | 0, _ => none
  | k + 1, h => match g h with
    | none => none
    | some e => if (L.drop e).take 1 = [93] then some (e + 1) else if (L.drop e).take 2 = [44, 32] then lloop g L k (e + 2) else none
def lend : Nat → List Nat → Nat → Option Nat
  | 0, L, a => if (L.drop a).take 1 = [46] then some (a + 1) else none
  | f + 1, L, a => if (L.drop a).take 1 = [46] then some (a + 1) else if (L.drop a).take 1 = [91] then lloop (lend f L) L 3 (a + 1) else none
theorem take1 {L : List Nat} {a c : Nat} (h : (L.drop a).take 1 = [c]) : L.drop a = c :: L.drop (a + 1) := by
  cases q : L.drop a with
  | nil => rw [q] at h; cases h
  | cons d r =>
    rw [q] at h
    have e : d = c := by simpa using h
    subst e
    rw [← List.drop_drop, q]
    rfl
theorem take2 {L : List Nat} {a : Nat} (h : (L.drop a).take 2 = [44, 32]) : L.drop a = [44, 32] ++ L.drop (a + 2) := by
  have z := List.take_append_drop 2 (L.drop a)
  rw [h, List.drop_drop] at z
  exact z.symm
theorem lloop_some {n : Nat} {L : List Nat} (ih : ∀ a e, lend n L a = some e → ∃ tr : Tre n, slim n tr = true ∧ L.drop a = txt n tr ++ L.drop e ∧ e = a + (txt n tr).length) : ∀ (k h e : Nat), lloop (lend n L) L k h = some e →
    ∃ (x : Tre n) (l : List (Tre n)), (x :: l).length ≤ k ∧ (∀ y ∈ x :: l, slim n y = true) ∧ L.drop h = TL.joinL [44, 32] ((x :: l).map (txt n)) ++ (93 :: L.drop e) ∧ e = h + (TL.joinL [44, 32] ((x :: l).map (txt n))).length + 1
  | 0, h, e, q => by cases q
  | k + 1, h, e, q => by
    unfold lloop at q
    cases g : lend n L h with
    | none =>
      rw [g] at q
      cases q
    | some e1 =>
      rw [g] at q
      dsimp only at q
      obtain ⟨x, h1, h2, h3⟩ := ih h e1 g
      by_cases c1 : (L.drop e1).take 1 = [93]
      · rw [if_pos c1] at q
        have e2 := Option.some.inj q
        refine ⟨x, [], by simp, fun y hy => by rw [List.mem_singleton.mp hy]; exact h1, ?_, ?_⟩
        · rw [h2, take1 c1, e2]
          rfl
        · show e = h + (txt n x).length + 1
          omega
      · rw [if_neg c1] at q
        by_cases c2 : (L.drop e1).take 2 = [44, 32]
        · rw [if_pos c2] at q
          obtain ⟨y, l, a1, a2, a3, a4⟩ := lloop_some ih k (e1 + 2) e q
          refine ⟨x, y :: l, by rw [List.length_cons]; omega, fun z hz => ?_, ?_, ?_⟩
          · rcases List.mem_cons.mp hz with rfl | hz
            · exact h1
            · exact a2 z hz
          · rw [List.map_cons, List.map_cons, joinL_cons, h2, take2 c2, a3, List.map_cons]
            simp
          · rw [List.map_cons, List.map_cons, joinL_cons, List.length_append, List.length_append]
            rw [List.map_cons] at a4
            show e = h + ((txt n x).length + (2 + _)) + 1
            omega
        · rw [if_neg c2] at q
          cases q
theorem lend_some : ∀ (n : Nat) (L : List Nat) (a e : Nat), lend n L a = some e → ∃ tr : Tre n, slim n tr = true ∧ L.drop a = txt n tr ++ L.drop e ∧ e = a + (txt n tr).length
  | 0, L, a, e, h => by
    unfold lend at h
    by_cases c : (L.drop a).take 1 = [46]
    · rw [if_pos c] at h
      have e2 := Option.some.inj h
      exact ⟨(), rfl, by rw [take1 c, e2]; rfl, e2.symm⟩
    · rw [if_neg c] at h
      cases h
  | n + 1, L, a, e, h => by
    unfold lend at h
    by_cases c : (L.drop a).take 1 = [46]
    · rw [if_pos c] at h
      have e2 := Option.some.inj h
      exact ⟨([] : List (Tre n)), rfl, by rw [take1 c, e2]; rfl, e2.symm⟩
    · rw [if_neg c] at h
      by_cases c2 : (L.drop a).take 1 = [91]
      · rw [if_pos c2] at h
        obtain ⟨x, l, a1, a2, a3, a4⟩ := lloop_some (lend_some n L) 3 (a + 1) e h
        refine ⟨(x :: l : List (Tre n)), (slim_iff' n (x :: l)).mpr ⟨a1, a2⟩, ?_, ?_⟩
        · rw [txt_cons, take1 c2, a3]
          simp
        · rw [txt_cons, List.length_cons, List.length_append, List.length_singleton]
          omega
      · rw [if_neg c2] at h
        cases h
theorem lloop_txt {n : Nat} {L : List Nat} (ih : ∀ (tr : Tre n) (a : Nat) (r : List Nat), slim n tr = true → L.drop a = txt n tr ++ r → lend n L a = some (a + (txt n tr).length)) : ∀ (l : List (Tre n)) (x : Tre n) (k h : Nat) (r : List Nat), (x :: l).length ≤ k → (∀ y ∈ x :: l, slim n y = true) →
    L.drop h = TL.joinL [44, 32] ((x :: l).map (txt n)) ++ (93 :: r) → lloop (lend n L) L k h = some (h + (TL.joinL [44, 32] ((x :: l).map (txt n))).length + 1)
  | l, x, 0, h, r, hk, _, _ => by simp at hk
  | [], x, k + 1, h, r, hk, hs, hd => by
    have hd' : L.drop h = txt n x ++ (93 :: r) := hd
    unfold lloop
    rw [ih x h (93 :: r) (hs x List.mem_cons_self) hd']
    dsimp only
    have d : L.drop (h + (txt n x).length) = 93 :: r := drop_app hd'
    rw [if_pos (by rw [d]; rfl)]
    rfl
  | y :: l, x, k + 1, h, r, hk, hs, hd => by
    rw [List.map_cons, List.map_cons, joinL_cons] at hd ⊢
    unfold lloop
    rw [ih x h _ (hs x List.mem_cons_self) (by rw [hd, List.append_assoc])]
    dsimp only
    have d : L.drop (h + (txt n x).length) = [44, 32] ++ (TL.joinL [44, 32] (txt n y :: l.map (txt n)) ++ (93 :: r)) := drop_app (a := txt n x) (by rw [hd]; simp)
    have d2 : L.drop (h + (txt n x).length + 2) = TL.joinL [44, 32] ((y :: l).map (txt n)) ++ (93 :: r) := drop_app (a := [44, 32]) d
    rw [if_neg (by rw [d]; simp), if_pos (by rw [d]; rfl), lloop_txt ih l y k _ r (by simpa using hk) (fun z hz => hs z (List.mem_cons_of_mem _ hz)) d2]
    congr 1
    rw [List.length_append, List.length_append, List.map_cons]
    show h + (txt n x).length + 2 + _ + 1 = h + ((txt n x).length + (2 + _)) + 1
    omega
theorem lend_txt : ∀ (n : Nat) (tr : Tre n) (L : List Nat) (a : Nat) (r : List Nat), slim n tr = true → L.drop a = txt n tr ++ r → lend n L a = some (a + (txt n tr).length)
  | 0, _, L, a, r, _, h => by
    unfold lend
    rw [if_pos (by rw [h]; rfl)]
    rfl
  | n + 1, [], L, a, r, _, h => by
    unfold lend
    rw [if_pos (by rw [h]; rfl)]
    rfl
  | n + 1, x :: l, L, a, r, hs, h => by
    have hs' := (slim_iff' n (x :: l)).mp hs
    rw [txt_cons] at h ⊢
    have d1 : L.drop (a + 1) = TL.joinL [44, 32] ((x :: l).map (txt n)) ++ (93 :: r) := drop_app (a := [91]) (by rw [h]; simp)
    unfold lend
    rw [if_neg (by rw [h]; simp), if_pos (by rw [h]; rfl), lloop_txt (fun tr a r => lend_txt n tr L a r) l x 3 (a + 1) r hs'.1 hs'.2 d1]
    rw [List.length_cons, List.length_append, List.length_singleton]
    congr 1
    omega
/-- the two readers say the same -/
theorem lend_form (L : List Nat) : decide (lend 3 L 0 = some L.length) = hasForm 3 L := by
  by_cases h : hasForm 3 L = true
  · rw [h]
    obtain ⟨tr, h1, h2⟩ := form_tree 3 L h
    have z := lend_txt 3 tr L 0 [] h2 (by rw [h1]; simp)
    rw [h1, Nat.zero_add] at z
    exact decide_eq_true z
  · have h' : hasForm 3 L = false := by simpa using h
    rw [h']
    refine decide_eq_false fun z => h ?_
    obtain ⟨tr, h1, h2, h3⟩ := lend_some 3 L 0 _ z
    rw [List.drop_length, List.append_nil] at h2
    have e : L = txt 3 tr := by simpa using h2
    rw [e]
    exact txt_form 3 tr h1
end Hs

set_option maxHeartbeats 4000000
namespace Hc
open PySem PySem.Spec PyProof.Rows L2
def top (i : Nat) : Stmt := PySem.Challenge.pw_handedcopies_k02_shapes_refused.main.body.getD i (.Pass ⟨0, 0, 0, 0⟩)
abbrev sParts : Stmt := top 5
abbrev sIsShape : Stmt := top 10
abbrev sHasForm : Stmt := top 11
abbrev cShape : Stmt := top 12
abbrev sStart : Stmt := top 14
abbrev sDraw : Stmt := top 15
abbrev sOf : Stmt := top 16
abbrev sTree : Stmt := top 17
abbrev sLists : Stmt := top 18
abbrev sDepth : Stmt := top 19
abbrev sText : Stmt := top 20
end Hc

set_option maxHeartbeats 4000000
/-! for i, c in enumerate(a text). -/
namespace Hs
open PySem PySem.Spec PyProof.Rows L2
/-- the text's signs, each in a new pair with its index -/
def Iten (x : Str) : It :=
  ⟨fun i _ => i < x.cps.size, fun i H v H' => ∃ T c, v = .ref T ∧ H T = none ∧ H' = upd H T (.tup [.int (i : Nat), .str ⟨#[c]⟩]) ∧ x.cps[i]? = some c, fun i _ => x.cps.size ≤ i⟩
theorem turn_enumS {P : Program} {w : World} {K : PySem.W.Frag} {elts : List Expr} {kk : Nat} {tpos : Pos} (x : Str) (t : Tok) (e it : Addr) :
    Turn P w K (.Tuple elts kk tpos) (Iten x) [e, it] e (fun i h => (∃ old, IsEnum h e it ((i : Nat) : Int) old) ∧ h.IsStrIter it (strIterType x) x t i ∧ e ≠ it ∧ i ≤ x.cps.size) where
  mem := by simp
  obj := fun i h st b hb => by
    obtain ⟨⟨old, he⟩, ⟨o, ho, hc, hd⟩, _, _⟩ := st
    have e' : b = e ∨ b = it := by simpa using hb
    rcases e' with z | z
    · rw [z]; exact ⟨_, he, fun v q => nomatch q⟩
    · rw [z]; exact ⟨o, ho, fun v q => by rw [hd] at q; cases q⟩
  keep := fun i h h' st k => by
    obtain ⟨⟨old, he⟩, ⟨o, ho, r⟩, hne⟩ := st
    exact ⟨⟨old, k e (by simp) _ he⟩, ⟨o, k it (by simp) o ho, r⟩, hne⟩
  item := by
    intro X hP hw hK hc i pins s σ H E I hf st hg
    subst hP hw hK
    obtain ⟨⟨old, he⟩, hit, hne, _⟩ := st
    have hel : e < s.heap.objs.size := Heap.lt_size he
    have hil : it < s.heap.objs.size := by obtain ⟨_, q, _⟩ := hit; exact Heap.lt_size q
    have hd : X.A.in1.handled = none := I.ok.hd hc
    have W : Draws X.prog X.w X.A.in1 it [it] x.cps.size (fun i v => ∃ c u, x.cps[i]? = some c ∧ v = .str ⟨#[c]⟩ u) (fun i h => h.IsStrIter it (strIterType x) x t i) := by
      unfold strIterType
      cases ha : x.cps.all (· < 128)
      · simpa [ha] using Draws.strWide hd it x t
      · simpa [ha] using Draws.strAscii hd it x t
    refine wpAny_pyNext_enum_itemD W he hit hg hne (by simpa using hne) fun u h' tk hu ho hit' hT hsz hk => ?_
    obtain ⟨c, u', hcx, rfl⟩ := hu
    refine ⟨_, rfl, wpAny_letOwnedTupleGo_enum (s := { s with heap := h', toks := tk + 1 }) ho fun h'' he' sb => ?_⟩
    have hT2 : h''.get? s.heap.objs.size = some { cls := .type "tuple", data := .seq #[.int i tk, .str ⟨#[c]⟩ u'] } := (sb.2 _ (Nat.ne_of_gt hel)).trans hT
    have new : ObjOk X.prog X.w (upd H s.heap.objs.size (.tup [.int (i : Nat), .str ⟨#[c]⟩])) h'' s.heap.objs.size (.tup [.int (i : Nat), .str ⟨#[c]⟩]) :=
      ⟨by show 2 ≤ sizeLine; decide, [.int i tk, .str ⟨#[c]⟩ u'], .cons ⟨_, rfl⟩ (.cons ⟨_, rfl⟩ .nil), ⟨_, hT2, rfl, _, rfl⟩⟩
    have I1 : Inv X pins σ (upd H s.heap.objs.size (.tup [.int (i : Nat), .str ⟨#[c]⟩])) { s with heap := h'', toks := tk + 1 } :=
      I.turnedNew (ch := [e, it]) (fun b ob hb q => (sb.2 b (fun z => hb (by simp [z]))).trans (hk b ob (fun z => hb (by simp [z])) (fun z => hb (by simp [z])) q)) hf (Nat.le_refl _) new
    have hit2 : h''.IsStrIter it (strIterType x) x t (i + 1) := by
      obtain ⟨o, ho', r⟩ := hit'
      exact ⟨o, (sb.2 it (Ne.symm hne)).trans ho', r⟩
    refine ⟨.ref s.heap.objs.size, _, I1, rfl, ⟨_, c, rfl, I.hok.fresh (Nat.le_refl _), rfl, hcx⟩, ⟨⟨.str ⟨#[c]⟩ u', ?_⟩, hit2, hne, hg⟩, fun b hb => ?_⟩
    · have e1 : ((i + 1 : Nat) : Int) = (i : Int) + 1 := by omega
      rw [e1]; exact he'
    · have hb' : b < s.heap.objs.size := by
        have e' : b = e ∨ b = it := by simpa using hb
        rcases e' with z | z
        · rw [z]; exact hel
        · rw [z]; exact hil
      rw [upd_ne (Nat.ne_of_lt hb')]
      exact (hf b hb).1
  done := by
    intro X hP hw hK hc i pins s σ H E I hf st hg
    subst hP hw hK
    obtain ⟨⟨old, he⟩, hit, hne, hle⟩ := st
    have ei : i = x.cps.size := Nat.le_antisymm hle hg
    subst ei
    obtain ⟨f0, f1, f2, f3, f4, f5⟩ := hf it (by simp)
    have hd : X.A.in1.handled = none := I.ok.hd hc
    have W : Draws X.prog X.w X.A.in1 it [it] x.cps.size (fun i v => ∃ c u, x.cps[i]? = some c ∧ v = .str ⟨#[c]⟩ u) (fun i h => h.IsStrIter it (strIterType x) x t i) := by
      unfold strIterType
      cases ha : x.cps.all (· < 128)
      · simpa [ha] using Draws.strWide hd it x t
      · simpa [ha] using Draws.strAscii hd it x t
    exact wpAny_pyNext_enum_endD W he hit fun h' eb => ⟨rfl, I.turned (t' := s.toks) (fun b o hb q => eb b o hb q) f0 f1 f3 f4 f5⟩
  self := fun A i s Q E st h => let ⟨⟨_, he⟩, _⟩ := st; wpAny_pyIter_enum he h
def iEnumS (ta : TA) : TI := fun σ H R => ta σ H fun vs H1 => ∃ x, vs = [.str x] ∧ R (Iten x) H1
theorem pi_enumS {X : Cx} {e : Expr} {ta : TA} {p pos tpos : Pos} {elts : List Expr} {kk : Nat} (hg : Gl X "enumerate") (hm : X.mg "enumerate" = none) (ha : PA X [e] ta) (hs : starEach [e] X.env = [(false, eval e X.env)] := by rfl) :
    PI X (.Tuple elts kk tpos) (.Call (.Name "enumerate" p) [e] [] pos) (iEnumS ta) := by
  refine ⟨fun pins s σ H R I h => ?_⟩
  refine Call_ (ld_blt I hg hm boot_enumerate (PyProof.Rows.callWith_type1 (thn (ha.run pos pins s σ H _ I h) fun us s1 ⟨vs, H1, I1, r1, q1⟩ => ?_) hs rfl))
  obtain ⟨x, ex, q⟩ := q1
  subst ex
  cases r1 with
  | cons r rr =>
    cases rr
    obtain ⟨t, rfl⟩ := r
    refine call_enumerate_str fun h' he hit hsz hk => wpAny_pyIter_enum he ?_
    have I2 : Inv X pins σ H1 { s1 with heap := h' } := I1.kept (t' := s1.toks) hk
    refine ⟨s1.heap.objs.size + 1, [s1.heap.objs.size + 1, s1.heap.objs.size], _, _, H1, rfl, I2, turn_enumS x t (s1.heap.objs.size + 1) s1.heap.objs.size, ⟨⟨.none, he⟩, hit, Nat.succ_ne_self _, Nat.zero_le _⟩, fun b hb => ?_, q⟩
    have e' : b = s1.heap.objs.size + 1 ∨ b = s1.heap.objs.size := by simpa using hb
    have hle : s1.heap.objs.size ≤ b := by
      rcases e' with z | z
      · rw [z]; exact Nat.le_add_right _ _
      · rw [z]; exact Nat.le_refl _
    exact I1.fpOk hle (I1.hok.fresh hle)
/-- a for over enumerate(a text) -/
theorem for_enumS {x : Str} {g : TG} {tb : TS} {D : Ends} {σ : L2.St} {H : Hp} (Pv : Nat → L2.St → Hp → Prop) (h0 : Pv 0 σ H)
    (hs : ∀ i c T σ H, x.cps[i]? = some c → Pv i σ H → H T = none → g (.ref T) σ (upd H T (.tup [.int (i : Nat), .str ⟨#[c]⟩])) fun σ2 H2 => tb { D with nx := Pv (i + 1), ct := Pv (i + 1), bk := D.nx } σ2 H2) (hd : ∀ σ H, Pv x.cps.size σ H → D.nx σ H) :
    ∃ W : Nat → Nat → L2.St → Hp → Prop, (∃ m, W 0 m σ H) ∧ ∀ i m σ H, W i m σ H →
      ((Iten x).stop i H ∧ D.nx σ H) ∨ ((Iten x).go i H ∧ ∃ N : L2.St → Hp → Prop, (∀ σ' H', N σ' H' → ∃ m', m' < m ∧ W (i + 1) m' σ' H') ∧ ∀ v H', (Iten x).yld i H v H' → g v σ H' fun σ2 H2 => tb { D with nx := N, ct := N, bk := D.nx } σ2 H2) := by
  refine ⟨fun i m σ H => m = x.cps.size - i ∧ i ≤ x.cps.size ∧ Pv i σ H, ⟨x.cps.size, by simp, Nat.zero_le _, h0⟩, ?_⟩
  rintro i m σ H ⟨rfl, hi, p⟩
  by_cases hlt : i < x.cps.size
  · refine .inr ⟨hlt, Pv (i + 1), fun σ' H' p' => ⟨x.cps.size - (i + 1), by omega, rfl, hlt, p'⟩, fun v H' y => ?_⟩
    obtain ⟨T, c, rfl, nT, rfl, hc⟩ := y
    exact hs i c T σ H hc p nT
  · have e : i = x.cps.size := by omega
    subst e
    exact .inl ⟨Nat.le_refl _, hd σ H p⟩
end Hs

set_option maxHeartbeats 4000000
/-! parts_of, has_form, is_shape. -/
namespace Hs
open PySem PySem.Spec PyProof.Rows L2 Evl Hc
/-- the longest text that is looked at -/
def cap : Nat := 30000
theorem cap_line {n : Nat} (h : n ≤ cap) : n ≤ sizeLine := Nat.le_trans h (by decide)
structure TxtP (mg : Str → Option Value) : Prop where
  enu : mg "enumerate" = none
  all : mg "all" = none
  len : mg "len" = none
  mI : ∃ t, mg "MOST_ITEMS" = some (.int 3 t)
  mD : ∃ t, mg "MOST_DEPTH" = some (.int 3 t)
  mL : ∃ t, mg "MOST_LISTS" = some (.int 5 t)
def spParts : Sp := fun vs H Q _ => ∃ L, vs = [.str (S L)] ∧ L.length ≤ cap ∧ ∀ p H', H p = none → Ex H H' → H' p = some (.lst ((partsOf L).map fun x => V.str (S x))) → Q (.ref p) H'
def spForm (f : Nat) : Sp := fun vs H Q _ => ∃ L, vs = [.str (S L), .int (f : Int)] ∧ L.length ≤ cap ∧ ∀ H', Ex H H' → Q (.bl (hasForm f L)) H'
def spShape : Sp := fun vs H Q _ => ∃ L, vs = [.str (S L)] ∧ L.length ≤ cap ∧ ∀ H', Ex H H' → Q (.bl (isShape L)) H'
abbrev nParts : List Str := ["text", "parts", "nested", "start", "at", "sign"]
theorem scParts : FnScope nParts ["text"] (defScope sParts) := ⟨rfl, rfl, rfl, by decide +kernel, rfl, by decide +kernel, by decide +kernel⟩
section
variable {σ : L2.St} {H : Hp} {te ta tb : TE} {tl th : TO}
theorem ev_slS {z : Str} {lo hi : Option Int} (h : Ev te σ H (.str z)) (h1 : EvO tl σ H lo) (h2 : EvO th σ H hi) (hz : z.length ≤ sizeLine) : Ev (tSl rSlS te tl th) σ H (.str (cutS z lo hi)) := fun H1 e Q q =>
  h H1 e _ fun H2 e2 => h1 H2 (e.trans e2) _ fun H3 e3 => h2 H3 ((e.trans e2).trans e3) _ fun H4 e4 => ⟨z, rfl, hz, q H4 ((e2.trans e3).trans e4)⟩
theorem dec_S {a b : List Nat} : decide (V.str (S a) = V.str (S b)) = decide (a = b) := by
  by_cases h : a = b
  · subst h
    simp
  · rw [decide_eq_false h, decide_eq_false]
    intro z
    exact h (S_inj (V.str.inj z))
theorem dec_I {a b : Int} : decide (V.int a = V.int b) = decide (a = b) := by
  rw [dec_int]
  rfl
theorem ev_eqS {a b : List Nat} (h1 : Ev ta σ H (.str (S a))) (h2 : Ev tb σ H (.str (S b))) : Ev (tOp rEq ta tb) σ H (.bl (decide (a = b))) := by
  rw [← dec_S]
  exact ev_op h1 h2 (rv_eq rfl)
theorem ev_neS {a b : List Nat} (h1 : Ev ta σ H (.str (S a))) (h2 : Ev tb σ H (.str (S b))) : Ev (tOp rNe ta tb) σ H (.bl (!decide (a = b))) := by
  rw [← dec_S]
  exact ev_op h1 h2 (rv_ne rfl)
theorem ev_eqI {a b : Int} (h1 : Ev ta σ H (.int a)) (h2 : Ev tb σ H (.int b)) : Ev (tOp rEq ta tb) σ H (.bl (decide (a = b))) := by
  rw [← dec_I]
  exact ev_op h1 h2 (rv_eq rfl)
end
section
variable {P : Program} {w : World} {K : PySem.W.Frag} {mg : Str → Option Value} {base : Heap}
theorem mem_two (c : Nat) (a b : Nat) : (c ∈ (S [a, b]).cps.toList) = (c ∈ [a, b]) := rfl
theorem ok_parts {f : Addr} {fd : FuncData} {k : Nat} (F : Fun K "parts_of" "parts_of" sParts f fd) (T : TxtP mg) : FnOk P w K mg base CX0 (k + 1) f fd ["text"] spParts := by
  refine F.ok scParts (fun vs H Q E h => ?_) (fun cdv A outer s H vs Q E hr h => ?_)
  · obtain ⟨L, rfl, _⟩ := h
    rfl
  · obtain ⟨L, rfl, hL, q⟩ := h
    refine ⟨_, pss_cons (ps_set (i := 1) scParts.nd rfl (.inl rfl) (pe_lst pa_nil)) (pss_cons (ps_set (i := 2) scParts.nd rfl (.inl rfl) pe_int) (pss_cons (ps_set (i := 3) scParts.nd rfl (.inl rfl) pe_int)
      (pss_cons (ps_for PassesOwn.never rfl (pi_enumS (by rfl) T.enu (pa_cons (pv 0) pa_nil)) (pg_tup (by rfl) (pgs_cons (pg_name (i := 4) scParts.nd rfl (.inl rfl)) (pgs_cons (pg_name (i := 5) scParts.nd rfl (.inl rfl)) pgs_nil)))
        (pss_one (ps_if (pt_cmpR op_in_sign (pv 5) pe_str (by rfl)) (pss_one (ps_aug (i := 2) scParts.nd rfl (.inl rfl) pe_int ip_add))
          (pss_one (ps_if (pt_cmpR op_in_sign (pv 5) pe_str (by rfl)) (pss_one (ps_aug (i := 2) scParts.nd rfl (.inl rfl) pe_int ip_sub))
            (pss_one (ps_if (PW.pt (pw_and (pt_cmpR op_eq (pv 2) pe_int (nomark _)) (pw_and1 (pt_cmpR op_eq (pe_slice sl_str (pv 0) (po_some (pv 4)) (po_some (pe_op op_add (pv 4) pe_int))) pe_str (nomark _)))))
              (pss_cons (ps_expr (pe_bm PySem.F.plainAttrs_list PySem.F.slot_list_append PySem.F.type_list_append mt_append (pv 1) (pa_cons (pe_slice sl_str (pv 0) (po_some (pv 3)) (po_some (pv 4))) pa_nil)))
                (pss_one (ps_set (i := 3) scParts.nd rfl (.inl rfl) (pe_op op_add (pv 4) pe_int)))) pss_nil)))))))
      (pss_cons (ps_expr (pe_bm PySem.F.plainAttrs_list PySem.F.slot_list_append PySem.F.type_list_append mt_append (pv 1) (pa_cons (pe_slice sl_str (pv 0) (po_some (pv 3)) po_none) pa_nil)))
      (pss_one (ps_ret (pv 1))))))), ?_⟩
    refine ⟨Nat.zero_le _, fun p np => ?_⟩
    refine ⟨_, rfl, S L, rfl, ?_⟩
    refine for_enumS (x := S L) (fun i σ H' => ∃ (st : SS) (v4 v5 : Option V), σ = [some (.str (S L)), some (.ref p), some (.int st.2.1), some (.int (st.2.2 : Nat)), v4, v5] ∧ scan L (L.drop i) i st = scan L L 0 ([], 0, 0) ∧ st.1.length ≤ i ∧ Ex H H' ∧ H' p = some (.lst (st.1.map fun x => V.str (S x)))) ?_ ?_ ?_
    · exact ⟨([], 0, 0), none, none, rfl, rfl, Nat.le_refl _, Ex.new np, upd_same⟩
    · rintro i c T0 σ H' hc ⟨⟨ps, n, a⟩, v4, v5, rfl, hs, hl, e, hp⟩ nT
      have hc' : L[i]? = some c := by
        have z : (S L).cps[i]? = L[i]? := by simp
        rw [← z]
        exact hc
      have hi : i < L.length := (List.getElem?_eq_some_iff.mp hc').1
      have hd : L.drop i = c :: L.drop (i + 1) := by
        rw [List.drop_eq_getElem_cons hi]
        congr 1
        exact (List.getElem?_eq_some_iff.mp hc').2
      rw [hd] at hs
      replace hs : scan L (L.drop (i + 1)) (i + 1) (stepP L (ps, n, a) i c) = scan L L 0 ([], 0, 0) := hs
      refine ⟨T0, _, rfl, SqT.of upd_same, rfl, .int (i : Nat), [.str ⟨#[c]⟩], rfl, .str ⟨#[c]⟩, [], rfl, rfl, ?_⟩
      have eT : Ex H (upd H' T0 (.tup [.int (i : Nat), .str ⟨#[c]⟩])) := e.trans (Ex.new nT)
      have hpT : (upd H' T0 (.tup [.int (i : Nat), .str ⟨#[c]⟩])) p = some (.lst (ps.map fun x => V.str (S x))) := (Ex.new nT) _ _ hp
      generalize upd H' T0 (.tup [.int (i : Nat), .str ⟨#[c]⟩]) = K0 at eT hpT ⊢
      have st' : ∀ (st : SS), stepP L (ps, n, a) i c = st → scan L (L.drop (i + 1)) (i + 1) st = scan L L 0 ([], 0, 0) := fun st e => e ▸ hs
      refine ⟨_, rfl, c, S [91, 40], rfl, rfl, _, rfl, ?_⟩
      refine ite2 (fun h1 => ?_) (fun h1 => ?_)
      · have h1' : c ∈ [91, 40] := of_decide_eq_true h1
        exact ⟨.int n, rfl, n, 1, rfl, rfl, (ps, n + 1, a), _, _, rfl, st' _ (if_pos h1'), Nat.le_succ_of_le hl, eT, hpT⟩
      · have h1' : c ∉ [91, 40] := fun z => h1 (decide_eq_true z)
        refine ⟨_, rfl, c, S [41, 93], rfl, rfl, _, rfl, ?_⟩
        refine ite2 (fun h2 => ?_) (fun h2 => ?_)
        · have h2' : c ∈ [41, 93] := of_decide_eq_true h2
          exact ⟨.int n, rfl, n, 1, rfl, rfl, (ps, n - 1, a), _, _, rfl, st' _ ((if_neg h1').trans (if_pos h2')), Nat.le_succ_of_le hl, eT, hpT⟩
        · have h2' : c ∉ [41, 93] := fun z => h2 (decide_eq_true z)
          have hstep : stepP L (ps, n, a) i c = (if n = 0 ∧ (L.drop i).take 2 = [44, 32] then (ps ++ [(L.drop a).take (i - a)], n, i + 2) else (ps, n, a)) := (if_neg h1').trans (if_neg h2')
          have hsl : ∀ (x y : Nat), (S L).length ≤ sizeLine := fun _ _ => by rw [S_len]; exact cap_line hL
          refine s_when (b := decide (n = 0) && decide ((L.drop i).take 2 = [44, 32])) (et_and (et_test (ev_eqI (ev_var rfl) ev_c)) fun _ => et_test (ev_eqS (b := [44, 32]) (Evl.ev_is (ev_slS (ev_var rfl) (eo_some (ev_var rfl)) (eo_some (ev_op (z := .int ((i + 2 : Nat) : Int)) (ev_var rfl) ev_c rv_I0)) (hsl 0 0)) (by rw [cut_nn, Nat.add_sub_cancel_left])) ev_c)) (fun hb H1 f1 => ?_) (fun hb H1 f1 => ?_)
          · rw [Bool.and_eq_true, decide_eq_true_eq, decide_eq_true_eq] at hb
            refine q_app (l := p) (f1 _ _ hpT) (ev_var rfl) (v := .str (S ((L.drop a).take (i - a)))) (Evl.ev_is (ev_slS (ev_var rfl) (eo_some (ev_var rfl)) (eo_some (ev_var rfl)) (hsl 0 0)) (by rw [cut_nn])) (by rw [List.length_map]; have := cap_line hL; show ps.length < 100000; have h3 : ps.length ≤ i := hl; have h4 : L.length ≤ 30000 := hL; omega) fun H2 f2 => ?_
            refine s_asg (ev_op (z := .int ((i + 2 : Nat) : Int)) (ev_var rfl) ev_c rv_I0) fun H3 f3 => ?_
            refine ⟨(ps ++ [(L.drop a).take (i - a)], n, i + 2), _, _, rfl, st' _ (hstep.trans (if_pos hb)), ?_, ?_, ?_⟩
            · show (ps ++ [_]).length ≤ i + 1
              have h3 : ps.length ≤ i := hl
              rw [List.length_append, List.length_singleton]
              omega
            · exact ((((eT.trans f1).trans f2).mut np).trans f3)
            · refine f3 _ _ ?_
              rw [upd_same, List.map_append]
              rfl
          · have hb' : ¬ (n = 0 ∧ (L.drop i).take 2 = [44, 32]) := by
              intro z
              rw [decide_eq_true z.1, decide_eq_true z.2] at hb
              cases hb
            exact ⟨(ps, n, a), _, _, rfl, st' _ (hstep.trans (if_neg hb')), Nat.le_succ_of_le hl, eT.trans f1, f1 _ _ hpT⟩
    · rintro σ H' ⟨⟨ps, n, a⟩, v4, v5, rfl, hs, hl, e, hp⟩
      have hz : (S L).cps.size = L.length := by simp
      rw [hz] at hs hl
      rw [List.drop_length] at hs
      replace hs : (ps, n, a) = scan L L 0 ([], 0, 0) := hs
      refine q_app (l := p) hp (ev_var rfl) (v := .str (S (L.drop a))) (Evl.ev_is (ev_slS (ev_var rfl) (eo_some (ev_var rfl)) eo_none (by rw [S_len]; exact cap_line hL)) (by rw [cut_n])) (by rw [List.length_map]; show ps.length < 100000; have h3 : ps.length ≤ L.length := hl; have h4 : L.length ≤ 30000 := hL; omega) fun H2 f2 => ?_
      refine s_ret (ev_var rfl) fun H3 f3 => ?_
      refine q p H3 np (((e.trans f2).mut np).trans f3) (f3 _ _ ?_)
      rw [upd_same]
      unfold partsOf
      rw [← hs, List.map_append]
      rfl

/-- a def of the text, ready to be called -/
structure Rd (P : Program) (w : World) (K : PySem.W.Frag) (mg : Str → Option Value) (base : Heap) (x : Str) (k : Nat) (ps : List Str) (sp : Sp) : Prop where
  ex : ∃ (f : Addr) (fd : FuncData), mg x = some (.ref f) ∧ PySem.W.keepIn K (.ref f) = true ∧ Binds K fd ps [] ∧ FnOk P w K mg base CX0 k f fd ps sp
theorem Rd.mono {x : Str} {j k : Nat} {ps : List Str} {sp : Sp} (r : Rd P w K mg base x j ps sp) (h : j ≤ k) : Rd P w K mg base x k ps sp := by
  obtain ⟨f, fd, g, kp, b, G⟩ := r.ex
  exact ⟨f, fd, g, kp, b, G.mono h⟩
theorem pe_rd {X : Cx} {x : Str} {k j : Nat} {ps : List Str} {sp : Sp} {e : Expr} {es : List Expr} {ta : TA} {p pos : Pos} (r : Rd X.prog X.w X.K X.mg X.base x k ps sp) (hr : Room j X.A) (hk : k ≤ j) (hg : Gl X x) (ha : PA X (e :: es) ta)
    (hdb : (x == ("__debug__" : Str)) = false := by decide) (he : starEach (e :: es) X.env = (false, eval e X.env) :: starEach es X.env := by rfl) (hpl : (backTo pos (starEach es X.env)).any (·.1) = false := by rfl) : PE X (.Call (.Name x p) (e :: es) [] pos) (tCall sp [] E0 ta) := by
  obtain ⟨f, fd, g1, kp, b, G⟩ := r.ex
  exact pe_call G (hr.mono hk) hg g1 kp b .nil pass0 ha hdb he hpl
/-- what is never asked -/
def spNo : Sp := fun _ _ _ _ => False
theorem rd_no {x : Str} {st : Stmt} {f : Addr} {fd : FuncData} {ps : List Str} (F : Fun K x x st f fd) (g : mg x = some (.ref f)) (b : Binds K fd ps []) (k : Nat) : Rd P w K mg base x k ps spNo :=
  ⟨f, fd, g, F.kp, b, ⟨fun _ _ _ _ h => h.elim, fun _ _ _ _ _ _ _ _ _ _ _ _ _ h => h.elim⟩⟩
theorem ev_m1 {σ : L2.St} {H : Hp} {to te : TE} {r : V → List V → Hp → VK → Prop} {a : Str} {y z : V} (h1 : Ev to σ H (.str a)) (h2 : Ev te σ H y) (hr : ∀ (H1 : Hp) (Q : VK), Q z H1 → r (.str a) [y] H1 Q) : Ev (tM1 r to te) σ H z := fun H1 e Q q =>
  h1 H1 e _ fun H2 e2 => ⟨⟨a, rfl⟩, h2 H2 (e.trans e2) _ fun H3 e3 => hr H3 Q (q H3 (e2.trans e3))⟩
theorem ev_all {σ : L2.St} {H : Hp} {tl : TE} {bs : List Bool} (h : EvL tl σ H (bs.map V.bl)) : Ev (tCB (rAll K) (tCons tl tNil)) σ H (.bl (bs.all id)) := fun H1 e Q q =>
  h H1 e _ fun p H2 np e2 hp => ⟨p, bs, rfl, SqL.of hp, q H2 e2⟩
theorem sp_parts {H : Hp} {L : List Nat} (h : L.length ≤ cap) : SpL spParts ([.str (S L)] ++ []) H ((partsOf L).map fun x => V.str (S x)) := fun H1 e Q q E => ⟨L, rfl, h, fun p H' np ex hp => q p H' np ex hp⟩
theorem sp_form {H : Hp} {L : List Nat} {n : Nat} (h : L.length ≤ cap) : SpV (spForm n) ([.str (S L), .int (n : Int)] ++ []) H (.bl (hasForm n L)) := fun H1 e Q q E => ⟨L, rfl, h, fun H' ex => q H' ex⟩
theorem sp_shape {H : Hp} {L : List Nat} (h : L.length ≤ cap) : SpV spShape ([.str (S L)] ++ []) H (.bl (isShape L)) := fun H1 e Q q E => ⟨L, rfl, h, fun H' ex => q H' ex⟩
theorem ev_starts {σ : L2.St} {H : Hp} {to te : TE} {L : List Nat} {c : Nat} (h1 : Ev to σ H (.str (S L))) (h2 : Ev te σ H (.str (S [c]))) :
    Ev (tM1 (fun x xs H Q => ∃ a b, x = .str a ∧ xs = [.str b] ∧ Q (.bl (Txt.startswith a b)) H) to te) σ H (.bl (L.head? == some c)) := ev_m1 h1 h2 fun H1 Q q => ⟨S L, S [c], rfl, rfl, by rw [starts1]; exact q⟩
theorem ev_ends {σ : L2.St} {H : Hp} {to te : TE} {L : List Nat} {c : Nat} (h1 : Ev to σ H (.str (S L))) (h2 : Ev te σ H (.str (S [c]))) :
    Ev (tM1 (fun x xs H Q => ∃ a b, x = .str a ∧ xs = [.str b] ∧ Q (.bl (Txt.endswith a b)) H) to te) σ H (.bl (L.getLast? == some c)) := ev_m1 h1 h2 fun H1 Q q => ⟨S L, S [c], rfl, rfl, by rw [ends1]; exact q⟩
theorem ev_count {σ : L2.St} {H : Hp} {to te : TE} {L : List Nat} {c : Nat} (h1 : Ev to σ H (.str (S L))) (h2 : Ev te σ H (.str (S [c]))) :
    Ev (tM1 (fun x xs H Q => ∃ a b, x = .str a ∧ xs = [.str b] ∧ Q (.int (Txt.count a b)) H) to te) σ H (.int ((L.count c : Nat) : Int)) := ev_m1 h1 h2 fun H1 Q q => ⟨S L, S [c], rfl, rfl, by rw [count1]; exact q⟩
theorem wipe1 {σ : L2.St} {j : Nat} (x : V) : wipe ((wipe σ [j]).set j (some x)) [j] = wipe σ [j] := by
  show ((σ.set j none).set j (some x)).set j none = σ.set j none
  rw [List.set_set, List.set_set]
abbrev nForm : List Str := ["text", "floors", "parts", "part"]
theorem scForm : FnScope nForm ["text", "floors"] (defScope sHasForm) := ⟨rfl, rfl, rfl, by decide +kernel, rfl, by decide +kernel, by decide +kernel⟩
theorem ok_form1 {f : Addr} {fd : FuncData} {k n : Nat} {spP : Sp} (F : Fun K "has_form" "has_form" sHasForm f fd) (T : TxtP mg) (rP : Rd P w K mg base "parts_of" k ["text"] spParts) (rF : Rd P w K mg base "has_form" k ["text", "floors"] spP)
    (hc : n = 0 ∨ ∃ m, n = m + 1 ∧ spP = spForm m) : FnOk P w K mg base CX0 (k + 1) f fd ["text", "floors"] (spForm n) := by
  refine F.ok scForm (fun vs H Q E h => ?_) (fun cdv A outer s H vs Q E hr h => ?_)
  · obtain ⟨L, rfl, _⟩ := h
    rfl
  · obtain ⟨L, rfl, hL, q⟩ := h
    obtain ⟨tI, hI⟩ := T.mI
    refine ⟨_, pss_cons (ps_if (pt_cmpR op_eq (pv 0) pe_str (nomark _)) (pss_one (ps_ret pe_bl)) pss_nil)
      (pss_cons (ps_if (PW.pt (pw_or (pt_cmpR op_eq (pv 1) pe_int (nomark _)) (pw_or (pt_not (pt_val (pe_m1 PySem.F.slot_str_startswith PySem.F.type_str_startswith mt_startswith (pv 0) pe_str))) (pw_or1 (pt_not (pt_val (pe_m1 PySem.F.slot_str_endswith PySem.F.type_str_endswith mt_endswith (pv 0) pe_str)))))))
          (pss_one (ps_ret pe_bl)) pss_nil)
      (pss_cons (ps_set (i := 2) scForm.nd rfl (.inl rfl) (pe_rd rP hr (Nat.le_refl _) (by rfl) (pa_cons (pe_slice sl_str (pv 0) (po_some pe_int) (po_some (pe_un un_neg pe_int))) pa_nil)))
      (pss_one (ps_ret (pe_and (pe_cmpR op_le (pe_callB call_len_seq (by rfl) T.len PySem.boot_len (pa_cons (pv 2) pa_nil)) (pe_glob (v := .int 3) (by rfl) hI ⟨_, rfl⟩) (nomark _))
        (pe_one (pe_callB (cr_all rfl) (by rfl) T.all boot_all (pa_cons (pe_lc (own := [("part", 3)]) (g := gName 3) (tt := tYes) rfl scForm.nd (pi_list (pv 2)) (blkOk_by (N := nForm) (sc := defScope sHasForm) (by decide +kernel)) (fun _ _ _ _ _ => pg_name (i := 3) scForm.nd rfl (.inl rfl)) (fun _ _ _ _ _ => pts_nil)
          (fun _ _ _ _ _ => pe_rd rF hr (Nat.le_refl _) (by rfl) (pa_cons (pv 3) (pa_cons (pe_op op_sub (pv 1) pe_int) pa_nil)))) pa_nil)))))))), ?_⟩
    refine q_when (et_test (ev_eqS (ev_var rfl) ev_c)) (fun hb H1 f1 => ?_) (fun hb H1 f1 => ?_)
    · refine s_ret ev_c fun H2 f2 => ?_
      have e : hasForm n L = true := by
        have e1 : L = [46] := of_decide_eq_true hb
        rw [e1]
        cases n <;> rfl
      rw [← e]
      exact q H2 (f1.trans f2)
    · have hne : L ≠ [46] := of_decide_eq_false hb
      refine q_when (et_or (et_test (ev_eqI (ev_var rfl) ev_c)) fun _ => et_or (et_not (et_B (ev_starts (c := 91) (ev_var rfl) ev_c))) fun _ => et_not (et_B (ev_ends (c := 93) (ev_var rfl) ev_c))) (fun hb2 H2 f2 => ?_) (fun hb2 H2 f2 => ?_)
      · refine s_ret ev_c fun H3 f3 => ?_
        have e : hasForm n L = false := by
          cases n with
          | zero => exact decide_eq_false hne
          | succ n =>
            unfold hasForm
            rw [decide_eq_false hne]
            rw [decide_eq_false (by omega)] at hb2
            revert hb2
            cases (L.head? == some 91) <;> cases (L.getLast? == some 93) <;> simp
        rw [← e]
        exact q H3 ((f1.trans f2).trans f3)
      · obtain ⟨m, rfl, rfl⟩ : ∃ m, n = m + 1 ∧ spP = spForm m := by
          rcases hc with rfl | h
          · simp at hb2
          · exact h
        have e : hasForm (m + 1) L = (decide ((partsOf (inner L)).length ≤ 3) && (partsOf (inner L)).all (hasForm m)) := by
          unfold hasForm
          rw [decide_eq_false hne]
          rw [decide_eq_false (by omega)] at hb2
          revert hb2
          cases (L.head? == some 91) <;> cases (L.getLast? == some 93) <;> simp
        have hi : (inner L).length ≤ cap := Nat.le_trans (inner_len L) hL
        refine q_asgL (el_call (ea_cons (Evl.ev_is (ev_slS (lo := some 1) (hi := some (-1)) (ev_var rfl) (eo_some ev_c) (eo_some (ev_un ev_c ru_neg)) (by rw [S_len]; exact cap_line hL)) (by rw [cut_in])) ea_nil) (sp_parts hi)) fun p H3 np f3 hp => ?_
        refine s_ret (ev_andV (ev_op (ev_len (ev_var rfl) (SqL.of hp)) ev_c rv_I0) fun _ => ev_all (bs := (partsOf (inner L)).map (hasForm m)) (by
          have z := el_map (K := K) (H := H3) (tl := tVar 2) (te := tCall (spForm m) [] E0 (tCons (tVar 3) (tCons (tOp (rI0 fun i j => .int (i - j)) (tVar 1) (tC (.int 1))) tNil))) (t := tYes) (j := 3) (vs := [3]) (σ := [some (.str (S L)), some (.int ((m + 1 : Nat) : Int)), some (.ref p), none]) (partsOf (inner L)) (fun x => V.str (S x)) (fun _ => true) (fun x => V.bl (hasForm m x)) (ev_var rfl) (SqL.of hp) ?_ wipe1 (fun x H1 _ _ => et_yes) (fun x H1 _ hx _ => ?_)
          · rw [List.filter_eq_self.mpr (fun _ _ => rfl)] at z
            rw [List.map_map]
            exact z
          · have h1 := partsOf_len (inner L)
            have h2 : (inner L).length ≤ 30000 := hi
            omega
          · refine ev_call (ea_cons (ev_var rfl) (ea_cons (ev_op (z := .int (m : Int)) (ev_var rfl) ev_c (by
              have e : ((m : Int)) = ((m + 1 : Nat) : Int) - 1 := by omega
              rw [e]
              exact rv_I0)) ea_nil)) (sp_form (Nat.le_trans (partsOf_items _ x hx) hi)))) fun H4 f4 => ?_
        have e2 : hasForm (m + 1) L = (decide ((((partsOf (inner L)).map fun x => V.str (S x)).length : Int) ≤ 3) && ((partsOf (inner L)).map (hasForm m)).all id) := by
          rw [e, List.length_map, List.all_map]
          congr 1
          · rw [decide_eq_decide]
            omega
        rw [← e2]
        exact q H4 (((f1.trans f2).trans f3).trans f4)
theorem rd_form {f : Addr} {fd : FuncData} {k : Nat} (F : Fun K "has_form" "has_form" sHasForm f fd) (g : mg "has_form" = some (.ref f)) (b : Binds K fd ["text", "floors"] []) (T : TxtP mg) (rP : Rd P w K mg base "parts_of" k ["text"] spParts) :
    ∀ n, Rd P w K mg base "has_form" (k + 1 + n) ["text", "floors"] (spForm n)
  | 0 => ⟨f, fd, g, F.kp, b, ok_form1 F T rP (rd_no F g b k) (.inl rfl)⟩
  | n + 1 => ⟨f, fd, g, F.kp, b, ok_form1 F T (rP.mono (show k ≤ k + 1 + n by omega)) (rd_form F g b T rP n) (.inr ⟨n, rfl, rfl⟩)⟩
theorem scIs : FnScope ["text"] ["text"] (defScope sIsShape) := ⟨rfl, rfl, rfl, by decide +kernel, rfl, by decide +kernel, by decide +kernel⟩
theorem ok_is {f : Addr} {fd : FuncData} {k : Nat} (F : Fun K "is_shape" "is_shape" sIsShape f fd) (T : TxtP mg) (rF : Rd P w K mg base "has_form" k ["text", "floors"] (spForm 3)) : FnOk P w K mg base CX0 (k + 1) f fd ["text"] spShape := by
  refine F.ok scIs (fun vs H Q E h => ?_) (fun cdv A outer s H vs Q E hr h => ?_)
  · obtain ⟨L, rfl, _⟩ := h
    rfl
  · obtain ⟨L, rfl, hL, q⟩ := h
    obtain ⟨tL, hI⟩ := T.mL
    obtain ⟨tD, hD⟩ := T.mD
    refine ⟨_, pss_one (ps_ret (pe_and (pe_cmpR op_le (pe_m1 PySem.F.slot_str_count PySem.F.type_str_count mt_count (pv 0) pe_str) (pe_glob (v := .int 5) (by rfl) hI ⟨_, rfl⟩) (nomark _))
      (pe_one (pe_rd rF hr (Nat.le_refl _) (by rfl) (pa_cons (pv 0) (pa_cons (pe_glob (v := .int 3) (by rfl) hD ⟨_, rfl⟩) pa_nil)))))), ?_⟩
    refine s_ret (ev_andV (ev_op (ev_count (c := 91) (ev_var rfl) ev_c) ev_c rv_I0) fun _ => ev_call (ea_cons (ev_var rfl) (ea_cons ev_c ea_nil)) (sp_form hL)) fun H1 f1 => ?_
    have e : isShape L = (decide (((L.count 91 : Nat) : Int) ≤ 5) && hasForm 3 L) := by
      unfold isShape
      congr 1
      rw [decide_eq_decide]
      omega
    rw [← e]
    exact q H1 f1
end
end Hs

set_option maxHeartbeats 4000000
/-! Shape(text), its fields and properties. -/
namespace Hs
open PySem PySem.Spec PyProof.Rows L2 Evl Hc
/-! ### evaluations whose value is told by a relation -/
def EvR (te : TE) (σ : L2.St) (H : Hp) (R : V → Hp → Prop) : Prop := ∀ H1, Ex H H1 → ∀ Q : VK, (∀ v H2, Ex H1 H2 → R v H2 → Q v H2) → te σ H1 Q
/-- item by item -/
def All2 {α : Type} (R : α → V → Hp → Prop) (ns : List α) (xs : List V) (H : Hp) : Prop := xs.length = ns.length ∧ ∀ (i : Nat) (n : α) (x : V), ns[i]? = some n → xs[i]? = some x → R n x H
/-- what stays: no list, and of the instances those with four fields -/
def Gd (o : HO) : Prop := (∀ xs, o ≠ .lst xs) ∧ ∀ C dx fs, o = .ins C dx fs → fs.length = 4
def NL (H H' : Hp) : Prop := ∀ b o, H b = some o → Gd o → H' b = some o
theorem NL.refl (H : Hp) : NL H H := fun _ _ h _ => h
theorem NL.trans {H H1 H2 : Hp} (a : NL H H1) (b : NL H1 H2) : NL H H2 := fun c o h n => b c o (a c o h n) n
theorem NL.ex {H H1 : Hp} (a : Ex H H1) : NL H H1 := fun c o h _ => a c o h
theorem NL.upd {H : Hp} {p : Addr} {o u : HO} (h : H p = some o) (n : ¬ Gd o) : NL H (L2.upd H p u) := fun b z e g => by
  rw [upd_ne (fun q => by rw [q, h] at e; exact n (by rw [Option.some.inj e]; exact g))]
  exact e
theorem NL.put {H : Hp} {p : Addr} {xs ys : List V} (h : H p = some (.lst xs)) : NL H (L2.upd H p (.lst ys)) := NL.upd h fun g => g.1 xs rfl
theorem gd_tup {xs : List V} : Gd (.tup xs) := ⟨fun ys z => (by cases z), fun C dx fs z => (by cases z)⟩
theorem NL.seqT {K : PySem.W.Frag} {H H' : Hp} {a : Addr} {xs : List V} (e : NL H H') (h : SqT K H a xs) : SqT K H' a xs := by
  rcases h with (h | ⟨o, h⟩) | h
  · exact .inl (.inl (e _ _ h gd_tup))
  · exact .inl (.inr ⟨o, e _ _ h ⟨fun ys z => (by cases z), fun C dx fs z => (by cases z)⟩⟩)
  · exact .inr h
def ExMon (R : V → Hp → Prop) : Prop := ∀ v H H', NL H H' → R v H → R v H'
theorem All2.ex {α : Type} {R : α → V → Hp → Prop} {ns : List α} {xs : List V} {H H' : Hp} (h : All2 R ns xs H) (m : ∀ n, ExMon (R n)) (e : NL H H') : All2 R ns xs H' := ⟨h.1, fun i n x a b => m n x H H' e (h.2 i n x a b)⟩
theorem All2.nil {α : Type} {R : α → V → Hp → Prop} {H : Hp} : All2 R [] [] H := ⟨rfl, fun i n x a _ => by simp at a⟩
theorem All2.snoc {α : Type} {R : α → V → Hp → Prop} {ns : List α} {n : α} {xs : List V} {x : V} {H : Hp} (h : All2 R ns xs H) (r : R n x H) : All2 R (ns ++ [n]) (xs ++ [x]) H := by
  refine ⟨by rw [List.length_append, List.length_append, h.1]; rfl, fun i m y a b => ?_⟩
  by_cases hi : i < ns.length
  · rw [List.getElem?_append_left hi] at a
    rw [List.getElem?_append_left (by rw [h.1]; exact hi)] at b
    exact h.2 i m y a b
  · rw [List.getElem?_append_right (by omega)] at a
    rw [List.getElem?_append_right (by rw [h.1]; omega), h.1] at b
    obtain ⟨k, hk⟩ : ∃ k, i - ns.length = k := ⟨_, rfl⟩
    rw [hk] at a b
    cases k with
    | zero =>
      simp at a b
      subst a
      subst b
      exact r
    | succ k => simp at a
/-- what a comprehension keeps that makes things -/
def Cr {α : Type} (R : α → V → Hp → Prop) (ns : List α) (H : Hp) (D : Addr) (i : Nat) (H' : Hp) : Prop := H D = none ∧ Ex H H' ∧ ∃ xs, H' D = some (.lst xs) ∧ All2 R (ns.take i) xs H'
section
variable {K : PySem.W.Frag} {σ : L2.St} {H : Hp} {te : TE}
theorem take_succ' {α : Type} {ns : List α} {i : Nat} {n : α} (h : ns[i]? = some n) : ns.take (i + 1) = ns.take i ++ [n] := by
  rw [List.take_add_one, h]
  rfl
theorem cr_turn {α : Type} {R : α → V → Hp → Prop} {ns : List α} {H' : Hp} {D : Addr} {i : Nat} {n : α} {σ2 : L2.St} (m : ∀ n, ExMon (R n)) (p : Cr R ns H D i H') (hn : ns[i]? = some n) (hz : ns.length ≤ 40000) (he : ∀ H1, Ex H H1 → EvR te σ2 H1 (R n)) :
    tYes σ2 H' fun b H3 => if b = true then te σ2 H3 fun y H4 => ∃ acc, H4 D = some (.lst acc) ∧ acc.length < sizeLine ∧ Cr R ns H D (i + 1) (upd H4 D (.lst (acc ++ [y]))) else Cr R ns H D (i + 1) H3 := by
  show te σ2 H' fun y H4 => ∃ acc, H4 D = some (.lst acc) ∧ acc.length < sizeLine ∧ Cr R ns H D (i + 1) (upd H4 D (.lst (acc ++ [y])))
  obtain ⟨p1, p2, xs, p3, p4⟩ := p
  have hi : i < ns.length := (List.getElem?_eq_some_iff.mp hn).1
  refine he H' p2 H' (Ex.refl H') _ fun y H4 e4 r => ⟨xs, e4 _ _ p3, sz_lt (by have := p4.1; rw [List.length_take] at this; omega), p1, (p2.trans e4).mut p1, xs ++ [y], upd_same, ?_⟩
  rw [take_succ' hn]
  have hD := e4 _ _ p3
  exact (p4.ex m ((NL.ex e4).trans (NL.put hD))).snoc (m n _ _ _ (NL.put hD) r)
/-- [te for x in a], a a list, made things told by R -/
theorem er_core {β : Type} {R : β → V → Hp → Prop} {a : Addr} {j : Nat} {vs : List Nat} {H1 : Hp} {D : Addr} {Qd : Hp → Prop} (m : ∀ n, ExMon (R n)) (ns : List β) (ys : List V) (hl : ys.length = ns.length) (hs : ∀ H2, Ex H1 H2 → SqL K H2 a ys) (hz : ns.length ≤ 40000)
    (hw : ∀ x, wipe ((wipe σ vs).set j (some x)) vs = wipe σ vs) (hD : H1 D = none) (he : ∀ (i : Nat) (n : β) (y : V) H2, Ex H1 H2 → ns[i]? = some n → ys[i]? = some y → EvR te ((wipe σ vs).set j (some y)) H2 (R n))
    (q : ∀ xs H2, Ex H1 H2 → H2 D = some (.lst xs) → All2 R ns xs H2 → Qd H2) :
    ∃ W : Nat → Nat → Hp → Prop, (∃ m, W 0 m (upd H1 D (.lst []))) ∧ ∀ i m H, W i m H →
      ((Itl K a).stop i H ∧ Qd H) ∨ ((Itl K a).go i H ∧ ∃ Nx : Hp → Prop, (∀ H', Nx H' → ∃ m', m' < m ∧ W (i + 1) m' H') ∧ ∀ x H', (Itl K a).yld i H x H' → gName j x (wipe σ vs) H' fun σ2 H2 => wipe σ2 vs = wipe σ vs ∧ tYes σ2 H2 fun b H3 =>
        if b = true then te σ2 H3 fun y H4 => ∃ acc, H4 D = some (.lst acc) ∧ acc.length < sizeLine ∧ Nx (upd H4 D (.lst (acc ++ [y]))) else Nx H3) :=
  lc_list (xs := ys) (Cr R ns H1 D) ⟨hD, Ex.new hD, [], upd_same, All2.nil⟩ (fun i H' _ p => hs _ p.2.1) (fun i y H' hi p => by
      obtain ⟨n, hn⟩ : ∃ n, ns[i]? = some n := ⟨_, List.getElem?_eq_getElem (by rw [← hl]; exact (List.getElem?_eq_some_iff.mp hi).1)⟩
      exact ⟨hw y, cr_turn m p hn hz fun H3 e3 => he i n y H3 e3 hn hi⟩)
      (fun H' p => by
        obtain ⟨p1, p2, xs, p3, p4⟩ := p
        rw [List.take_of_length_le (by omega)] at p4
        exact q xs H' p2 p3 p4)
theorem er_lcN {β : Type} {R : β → V → Hp → Prop} {tl : TE} {j : Nat} {vs : List Nat} (m : ∀ n, ExMon (R n)) (ns : List β) (ys : List V) (hl : ys.length = ns.length) (h : EvL tl σ H ys) (hz : ns.length ≤ 40000)
    (hw : ∀ x, wipe ((wipe σ vs).set j (some x)) vs = wipe σ vs) (he : ∀ (i : Nat) (n : β) (y : V) H1, Ex H H1 → ns[i]? = some n → ys[i]? = some y → EvR te ((wipe σ vs).set j (some y)) H1 (R n)) :
    ∀ H1, Ex H H1 → ∀ Q : VK, (∀ p xs H2, H1 p = none → Ex H1 H2 → H2 p = some (.lst xs) → All2 R ns xs H2 → Q (.ref p) H2) → tLc (iList K tl) (gName j) tYes te vs σ H1 Q := fun H0 e Q q =>
  h H0 e _ fun a H1 na e1 hx => ⟨a, rfl, ⟨ys, SqL.of hx⟩, fun D hD =>
    er_core m ns ys hl (fun H2 e2 => SqL.of (e2 _ _ hx)) hz hw hD (fun i n y H2 e2 => he i n y H2 ((e.trans e1).trans e2)) fun xs H2 e2 => q D xs H2 (fresh_back e1 hD) (e1.trans e2)⟩
theorem er_lcL {β : Type} {R : β → V → Hp → Prop} {a : Addr} {tl : TE} {j : Nat} {vs : List Nat} (m : ∀ n, ExMon (R n)) (ns : List β) (ys : List V) (hl : ys.length = ns.length) (h : Ev tl σ H (.ref a)) (hx : SqL K H a ys) (hz : ns.length ≤ 40000)
    (hw : ∀ x, wipe ((wipe σ vs).set j (some x)) vs = wipe σ vs) (he : ∀ (i : Nat) (n : β) (y : V) H1, Ex H H1 → ns[i]? = some n → ys[i]? = some y → EvR te ((wipe σ vs).set j (some y)) H1 (R n)) :
    ∀ H1, Ex H H1 → ∀ Q : VK, (∀ p xs H2, H1 p = none → Ex H1 H2 → H2 p = some (.lst xs) → All2 R ns xs H2 → Q (.ref p) H2) → tLc (iList K tl) (gName j) tYes te vs σ H1 Q := fun H0 e Q q =>
  h H0 e _ fun H1 e1 => ⟨a, rfl, ⟨ys, ex_l (e.trans e1) hx⟩, fun D hD =>
    er_core m ns ys hl (fun H2 e2 => ex_l ((e.trans e1).trans e2) hx) hz hw hD (fun i n y H2 e2 => he i n y H2 ((e.trans e1).trans e2)) fun xs H2 e2 => q D xs H2 (fresh_back e1 hD) (e1.trans e2)⟩
/-- .. over a tuple, the values known by index -/
theorem el_lcT {a : Addr} {xs : List V} {tl : TE} {j : Nat} {vs : List Nat} (v : Nat → V) (h : Ev tl σ H (.ref a)) (hx : SqT K H a xs) (hz : xs.length ≤ 40000) (hw : ∀ x, wipe ((wipe σ vs).set j (some x)) vs = wipe σ vs)
    (he : ∀ (i : Nat) (x : V) H1, Ex H H1 → xs[i]? = some x → Ev te ((wipe σ vs).set j (some x)) H1 (v i)) :
    EvL (tLc (iTup K tl) (gName j) tYes te vs) σ H ((List.range xs.length).map v) := fun H0 e Q q => h H0 e _ fun H1 e1 => ⟨a, rfl, ⟨xs, ex_t (e.trans e1) hx⟩, fun Dl hD =>
  lc_tup (xs := xs) (Cw H1 (fun _ => true) v Dl) ⟨hD, Ex.new hD, upd_same⟩ (fun i H' _ p => ex_t ((e.trans e1).trans p.2.1) hx) (fun i x H' hi p => ⟨hw x, cw_turn p (by have := (List.getElem?_eq_some_iff.mp hi).1; omega) et_yes (fun _ => he i x H1 (e.trans e1) hi)⟩)
    (fun H' p => q Dl H' (fresh_back e1 p.1) (e1.trans p.2.1) (by
      have z := p.2.2
      unfold given at z
      rw [List.filter_eq_self.mpr (fun _ _ => rfl)] at z
      exact z))⟩
end

/-! ### shapes as objects -/
def ShB (K : PySem.W.Frag) (C : Addr) (L : List Nat) (d k : Nat) (xs : List V) (v : V) (H : Hp) : Prop :=
  ∃ a dx p, v = .ref a ∧ H a = some (.ins C dx [("text", .str (S L)), ("_parts", .ref p), ("_depth", .int (d : Int)), ("_lists", .int (k : Int))]) ∧ SqT K H p xs
def ShV (K : PySem.W.Frag) (C : Addr) : (n : Nat) → Tre n → V → Hp → Prop
  | 0, _, v, H => ShB K C [46] 0 0 [] v H
  | n + 1, (l : List (Tre n)), v, H => ∃ xs, ShB K C (txt (n + 1) l) (dep (n + 1) l) (lsts (n + 1) l) xs v H ∧ All2 (fun t v H => ShV K C n t v H) l xs H
def Items (K : PySem.W.Frag) (C : Addr) : (n : Nat) → Tre n → List V → Hp → Prop
  | 0, _, xs, _ => xs = []
  | n + 1, (l : List (Tre n)), xs, H => All2 (fun t v H => ShV K C n t v H) l xs H
theorem shV_iff {K : PySem.W.Frag} {C : Addr} : ∀ (n : Nat) (t : Tre n) (v : V) (H : Hp), ShV K C n t v H ↔ ∃ xs, ShB K C (txt n t) (dep n t) (lsts n t) xs v H ∧ Items K C n t xs H
  | 0, _, v, H => ⟨fun h => ⟨[], h, rfl⟩, fun ⟨xs, h, e⟩ => by
    have e' : xs = [] := e
    subst e'
    exact h⟩
  | n + 1, l, v, H => Iff.rfl
theorem shB_mon {K : PySem.W.Frag} {C : Addr} {L : List Nat} {d k : Nat} {xs : List V} : ExMon (ShB K C L d k xs) := fun v H H' e h => by
  obtain ⟨a, dx, p, hv, ha, hp⟩ := h
  exact ⟨a, dx, p, hv, e _ _ ha ⟨fun ys z => (by cases z), fun C dx fs z => (by cases z; rfl)⟩, e.seqT hp⟩
theorem shV_mon {K : PySem.W.Frag} {C : Addr} : ∀ (n : Nat) (t : Tre n), ExMon (ShV K C n t)
  | 0, t => shB_mon
  | n + 1, l => fun v H H' e h => by
    obtain ⟨xs, h1, h2⟩ := h
    exact ⟨xs, shB_mon v H H' e h1, h2.ex (fun t => shV_mon n t) e⟩
theorem items_mon {K : PySem.W.Frag} {C : Addr} {H H' : Hp} {xs : List V} (e : NL H H') : ∀ (n : Nat) (t : Tre n), Items K C n t xs H → Items K C n t xs H'
  | 0, _, h => h
  | n + 1, l, h => All2.ex (R := fun t v H => ShV K C n t v H) h (fun t => shV_mon n t) e
theorem map_get {α β : Type} (f : α → β) {l : List α} {i : Nat} {x : α} (h : l[i]? = some x) : (l.map f)[i]? = some (f x) := by
  rw [List.getElem?_map, h]
  rfl
def deps : (n : Nat) → Tre n → List Nat
  | 0, _ => []
  | n + 1, (l : List (Tre n)) => l.map (dep n)
theorem items_deps {K : PySem.W.Frag} {C : Addr} {H : Hp} {xs : List V} : ∀ (n : Nat) (t : Tre n), Items K C n t xs H → xs.length = (deps n t).length ∧ ∀ (i : Nat) (y : V), xs[i]? = some y → ∃ a dx fs d, y = .ref a ∧ H a = some (.ins C dx fs) ∧ fs.lookup ("_depth" : Str) = some (.int ((d : Nat) : Int)) ∧ (deps n t)[i]? = some d
  | 0, _, h => by
    have h' : xs = [] := h
    subst h'
    exact ⟨rfl, fun i y e => by simp at e⟩
  | n + 1, l, h => by
    refine ⟨h.1.trans (List.length_map ..).symm, fun i y e => ?_⟩
    have hi : i < List.length l := by rw [← h.1]; exact (List.getElem?_eq_some_iff.mp e).1
    have ht := List.getElem?_eq_getElem hi
    have r := h.2 i _ y ht e
    obtain ⟨zs, ⟨a, dx, p, hv, ha, _⟩, _⟩ := (shV_iff n _ y H).mp r
    refine ⟨a, dx, _, _, hv, ha, rfl, ?_⟩
    exact map_get (dep n) ht
theorem fold_max (ds : List Nat) : ∀ b : Nat, ds.foldl max b ∈ b :: ds ∧ (∀ d ∈ b :: ds, d ≤ ds.foldl max b) := by
  induction ds with
  | nil => exact fun b => ⟨List.mem_cons_self, fun d h => by rw [List.mem_singleton.mp h]; exact Nat.le_refl _⟩
  | cons c r ih =>
    intro b
    obtain ⟨h1, h2⟩ := ih (max b c)
    refine ⟨?_, fun d hd => ?_⟩
    · show r.foldl max (max b c) ∈ _
      rcases List.mem_cons.mp h1 with e | e
      · rw [e]
        rcases Nat.le_total b c with z | z
        · rw [Nat.max_eq_right z]
          exact List.mem_cons_of_mem _ List.mem_cons_self
        · rw [Nat.max_eq_left z]
          exact List.mem_cons_self
      · exact List.mem_cons_of_mem _ (List.mem_cons_of_mem _ e)
    · show d ≤ r.foldl max (max b c)
      have hb := h2 _ List.mem_cons_self
      rcases List.mem_cons.mp hd with e | hd
      · omega
      · rcases List.mem_cons.mp hd with e | hd
        · omega
        · exact h2 d (List.mem_cons_of_mem _ hd)
theorem dep_max : ∀ (n : Nat) (t : Tre n) (m : Int), m ∈ (0 : Int) :: (deps n t).map (fun d => ((d : Nat) : Int) + 1) → (∀ y, y ∈ (0 : Int) :: (deps n t).map (fun d => ((d : Nat) : Int) + 1) → y ≤ m) → m = ((dep n t : Nat) : Int)
  | 0, _, m, h, _ => List.mem_singleton.mp h
  | n + 1, [], m, h, _ => List.mem_singleton.mp h
  | n + 1, x :: l, m, h, hm => by
    show m = ((1 + ((x :: l).map (dep n)).foldl max 0 : Nat) : Int)
    have hd : deps (n + 1) (x :: l : List (Tre n)) = (x :: l).map (dep n) := rfl
    rw [hd] at h hm
    obtain ⟨h1, h2⟩ := fold_max ((x :: l).map (dep n)) 0
    generalize ((x :: l).map (dep n)).foldl max 0 = M at h1 h2
    have up : m ≤ (M : Int) + 1 := by
      rcases List.mem_cons.mp h with e | e
      · omega
      · obtain ⟨d, hd1, rfl⟩ := List.mem_map.mp e
        have := h2 d (List.mem_cons_of_mem _ hd1)
        omega
    have lo : (M : Int) + 1 ≤ m := by
      have hM : M ∈ (x :: l).map (dep n) := by
        rcases List.mem_cons.mp h1 with e | e
        · have := h2 (dep n x) (List.mem_cons_of_mem _ List.mem_cons_self)
          rw [show M = dep n x by omega]
          exact List.mem_cons_self
        · exact e
      exact hm _ (List.mem_cons_of_mem _ (List.mem_map.mpr ⟨M, hM, rfl⟩))
    omega

/-- what of the class the text has -/
structure ShC (K : PySem.W.Frag) (C : Addr) : Prop where
  cl : Cls K C
  ha : PySem.W.findIn K (.ref C) "__class__" = some (some (.builtin "object.__class__"))
  hn : PySem.W.specialIn K (.builtin "object.__class__") "__get__" = some (some (.builtin "getset_descriptor.__get__"))
  htk : PySem.W.takesIn K (.builtin "object.__class__") = some true
  hm : PySem.W.mroIn K C (.type "object") = some true
  nT : NoAttr K C "text"
  nP : NoAttr K C "_parts"
  nD : NoAttr K C "_depth"
  nL : NoAttr K C "_lists"
/-- a property whose getter returns a field -/
structure Pr (P : Program) (w : World) (K : PySem.W.Frag) (mg : Str → Option Value) (base : Heap) (C : Addr) (f fld : Str) (k : Nat) : Prop where
  ex : ∃ (p g : Addr) (fd : FuncData), PropOf K C f p g ∧ Binds K fd ["self"] [] ∧ FnOk P w K mg base CX0 k g fd ["self"] (getSp C fld)
theorem pe_pr {X : Cx} {C : Addr} {f fld : Str} {k j : Nat} {e : Expr} {te : TE} {pos : Pos} (r : Pr X.prog X.w X.K X.mg X.base C f fld k) (c : Cls X.K C) (hr : Room j X.A) (hk : k + 1 ≤ j) (he : PE X e te) (hab : attributeBase e f X.env (eval e X.env) = eval e X.env := by rfl) : PE X (.Attribute e f pos) (tProp C (getSp C fld) [] E0 te) := by
  obtain ⟨p, g, fd, hp, b, G⟩ := r.ex
  exact pe_prop he c hp G (hr.mono hk) b .nil pass0 hab
/-- a class of the text, ready to be called -/
structure Rm (P : Program) (w : World) (K : PySem.W.Frag) (mg : Str → Option Value) (base : Heap) (x : Str) (C : Addr) (k : Nat) (ps : List Str) (sp : Sp) : Prop where
  ex : ∃ (f : Addr) (fd : FuncData), mg x = some (.ref C) ∧ Mk K C f ∧ Binds K fd ps [] ∧ FnOk P w K mg base CX0 k f fd ps sp
theorem Rm.mono {P : Program} {w : World} {K : PySem.W.Frag} {mg : Str → Option Value} {base : Heap} {x : Str} {C : Addr} {j k : Nat} {ps : List Str} {sp : Sp} (r : Rm P w K mg base x C j ps sp) (h : j ≤ k) : Rm P w K mg base x C k ps sp := by
  obtain ⟨f, fd, g, m, b, G⟩ := r.ex
  exact ⟨f, fd, g, m, b, G.mono h⟩
theorem pe_rm {X : Cx} {x : Str} {C : Addr} {k j : Nat} {ps : List Str} {sp : Sp} {e : Expr} {es : List Expr} {ta : TA} {p pos : Pos} (r : Rm X.prog X.w X.K X.mg X.base x C k ps sp) (hr : Room j X.A) (hk : k + 1 ≤ j) (hg : Gl X x) (ha : PA X (e :: es) ta)
    (hdb : (x == ("__debug__" : Str)) = false := by decide) (he : starEach (e :: es) X.env = (false, eval e X.env) :: starEach es X.env := by rfl) (hpl : (backTo pos (starEach es X.env)).any (·.1) = false := by rfl) : PE X (.Call (.Name x p) (e :: es) [] pos) (tMake C sp [] E0 ta) := by
  obtain ⟨f, fd, g1, m, b, G⟩ := r.ex
  exact pe_make m G (hr.mono hk) hg g1 b .nil pass0 ha hdb he hpl
/-- Shape(text) of a tree's text -/
def spInit (K : PySem.W.Frag) (C : Addr) (n : Nat) : Sp := fun vs H Q _ => ∃ (x dx : Addr) (t : Tre n), vs = [.ref x, .str (S (txt n t))] ∧ H x = some (.ins C dx []) ∧ slim n t = true ∧ lsts n t ≤ 5 ∧ (txt n t).length ≤ cap ∧
  ∀ H', Hc.Ext (fun b => b = x) H H' → ShV K C n t (.ref x) H' → Q .non H'
theorem er_make {K : PySem.W.Frag} {σ : L2.St} {H : Hp} {C : Addr} {n : Nat} {ta : TA} (t : Tre n) (ha : EvA ta σ H [.str (S (txt n t))]) (hs : slim n t = true) (hl : lsts n t ≤ 5) (hc : (txt n t).length ≤ cap) : EvR (tMake C (spInit K C n) [] E0 ta) σ H (ShV K C n t) := fun H1 e Q q =>
  ha H1 e _ fun H2 e2 => fun x dx nx nd ne => ⟨x, dx, t, rfl, upd_same, hs, hl, hc, fun H' k r => ⟨rfl, q (.ref x) H' (fun b o hb => by
    have h2 := e2 _ _ hb
    refine k b o ?_ (ne_of_none h2 nx)
    rw [upd_ne (ne_of_none h2 nx), upd_ne (ne_of_none h2 nd)]
    exact h2) r⟩⟩
theorem ev_prop {σ : L2.St} {H : Hp} {C a dx : Addr} {fs : List (Str × V)} {fld : Str} {v : V} {te : TE} (h : Ev te σ H (.ref a)) (ha : H a = some (.ins C dx fs)) (hl : fs.lookup fld = some v) : Ev (tProp C (getSp C fld) [] E0 te) σ H v := fun H1 e Q q =>
  h H1 e _ fun H2 e2 => ⟨a, dx, fs, rfl, e2 _ _ (e _ _ ha), a, dx, fs, v, rfl, e2 _ _ (e _ _ ha), hl, q H2 e2⟩
theorem ev_fld {K : PySem.W.Frag} {σ : L2.St} {H : Hp} {C a dx : Addr} {fs : List (Str × V)} {f : Str} {v : V} {te : TE} (h : Ev te σ H (.ref a)) (ha : H a = some (.ins C dx fs)) (c : Cls K C) (n : NoAttr K C f) (hl : fs.lookup f = some v) : Ev (tFld K te f) σ H v := fun H1 e Q q =>
  h H1 e _ fun H2 e2 => ⟨a, C, dx, fs, v, rfl, e2 _ _ (e _ _ ha), c, n, hl, q H2 e2⟩
/-- o.f = e, then the rest -/
theorem q_fld {K : PySem.W.Frag} {σ : L2.St} {H : Hp} {D : Ends} {tz : TS} {ta tv : TE} {f : Str} {C a dx : Addr} {fs : List (Str × V)} {R : V → Hp → Prop} (hv : EvR tv σ H R) (ho : ∀ H1, Ex H H1 → Ev ta σ H1 (.ref a)) (ha : H a = some (.ins C dx fs)) (c : Cls K C) (n : NoAttr K C f) (hl : fs.length < 1000) (m : ExMon R)
    (k : ∀ y H1, Ex H H1 → R y H1 → tz D σ (upd H1 a (.ins C dx (putF f y fs)))) : tSeq (sFld K ta tv f) tz D σ H :=
  hv H (Ex.refl H) _ fun y H1 e1 r => ho H1 e1 H1 (Ex.refl H1) _ fun H2 e2 => ⟨a, C, dx, fs, rfl, e2 _ _ (e1 _ _ ha), c, n, hl, k y H2 (e1.trans e2) (m y _ _ (NL.ex e2) r)⟩

/-- .. as the last statement -/
theorem s_fld {K : PySem.W.Frag} {σ : L2.St} {H : Hp} {D : Ends} {ta tv : TE} {f : Str} {C a dx : Addr} {fs : List (Str × V)} {R : V → Hp → Prop} (hv : EvR tv σ H R) (ho : ∀ H1, Ex H H1 → Ev ta σ H1 (.ref a)) (ha : H a = some (.ins C dx fs)) (c : Cls K C) (n : NoAttr K C f) (hl : fs.length < 1000) (m : ExMon R)
    (k : ∀ y H1, Ex H H1 → R y H1 → D.nx σ (upd H1 a (.ins C dx (putF f y fs)))) : sFld K ta tv f D σ H := q_fld (tz := tNext) hv ho ha c n hl m k
theorem range_getD {α : Type} (f : Nat → α) : ∀ l : List Nat, (List.range l.length).map (fun i => f (l.getD i 0)) = l.map f := by
  intro l
  apply List.ext_getElem
  · simp
  · intro i h1 h2
    simp at h1
    simp [h1]
theorem deps_len {n : Nat} {t : Tre n} (h : slim n t = true) : (deps n t).length ≤ 40000 := by
  match n, t, h with
  | 0, _, _ => exact Nat.zero_le _
  | n + 1, l, h =>
    have h' : (decide (List.length l ≤ 3) && List.all l (slim n)) = true := h
    rw [Bool.and_eq_true, decide_eq_true_eq] at h'
    exact Nat.le_trans (Nat.le_of_eq (List.length_map (dep n) (as := (l : List (Tre n))))) (Nat.le_trans h'.1 (by decide))
theorem ev_max {K : PySem.W.Frag} {σ : L2.St} {H : Hp} {tl : TE} {ns : List Int} {M : Int} (h : EvL tl σ H (ns.map V.int)) (h0 : 0 < ns.length) (hM : ∀ m, m ∈ ns → (∀ y, y ∈ ns → y ≤ m) → m = M) : Ev (tCB (rMax K) (tCons tl tNil)) σ H (.int M) := fun H1 e Q q =>
  h H1 e _ fun p H2 np e2 hp => ⟨p, ns, rfl, SqL.of hp, h0, fun m hm hm2 => by rw [hM m hm hm2]; exact q H2 e2⟩
theorem er_of {σ : L2.St} {H : Hp} {te : TE} {v : V} (h : Ev te σ H v) : EvR te σ H fun y _ => y = v := fun H1 e Q q => h H1 e Q fun H2 e2 => q _ H2 e2 rfl
theorem mon_eq {v : V} : ExMon fun y _ => y = v := fun _ _ _ _ h => h
theorem ev_isi {K : PySem.W.Frag} {σ : L2.St} {H : Hp} {te tc : TE} {x c : V} {t u : Value} {b : Bool} (h : Ev te σ H x) (hc : Ev tc σ H c) (kc : ClsV c u) (ty : ∀ H1, Ex H H1 → TyX K H1 x t) (hk : PySem.W.kitOne K t u = some b) : Ev (tCB (rIsi K) (tCons te (tCons tc tNil))) σ H (.bl b) :=
  ev_cb (ea_cons h (ea_cons hc ea_nil)) fun H1 e Q q => ⟨x, c, t, u, b, rfl, kc, ty H1 e, hk, q H1 (Ex.refl H1)⟩
theorem el_cat {σ : L2.St} {H : Hp} {ta tb : TE} {xs ys : List V} (ha : EvL ta σ H xs) (hb : EvL tb σ H ys) (hz : xs.length + ys.length ≤ 100000) : EvL (tOp rCat ta tb) σ H (xs ++ ys) := fun H1 e Q q =>
  ha H1 e _ fun p H2 n1 e2 h1 => hb H2 (e.trans e2) _ fun r H3 n2 e3 h2 => ⟨p, r, xs, ys, rfl, rfl, e3 _ _ h1, h2, sz_of hz, fun t nt => q t _ (fresh_back (e2.trans e3) nt) ((e2.trans e3).trans (Ex.new nt)) upd_same⟩
def rTupOf (K : PySem.W.Frag) : List V → Hp → VK → Prop := fun xs H Q => ∃ p ys, xs = [.ref p] ∧ ((SqL K H p ys ∧ ∀ l, H l = none → Q (.ref l) (upd H l (.tup ys))) ∨ (SqT K H p ys ∧ Q (.ref p) H))
/-- tuple(a new list) -/
theorem eru_tuple {K : PySem.W.Frag} {σ : L2.St} {H : Hp} {β : Type} {R : β → V → Hp → Prop} {ns : List β} {tl : TE} (m : ∀ n, ExMon (R n)) (h : ∀ H1, Ex H H1 → ∀ Q : VK, (∀ p xs H2, H1 p = none → Ex H1 H2 → H2 p = some (.lst xs) → All2 R ns xs H2 → Q (.ref p) H2) → tl σ H1 Q) :
    ∀ H1, Ex H H1 → ∀ Q : VK, (∀ u xs H2, H1 u = none → Ex H1 H2 → H2 u = some (.tup xs) → All2 R ns xs H2 → Q (.ref u) H2) → tCB (rTupOf K) (tCons tl tNil) σ H1 Q := fun H1 e Q q =>
  h H1 e _ fun p xs H2 np e2 hp hal => ⟨p, xs, rfl, .inl ⟨SqL.of hp, fun u nu => q u xs _ (fresh_back e2 nu) (e2.trans (Ex.new nu)) upd_same (hal.ex m (NL.ex (Ex.new nu)))⟩⟩
structure TxtS (mg : Str → Option Value) : Prop extends TxtP mg where
  isi : mg "isinstance" = none
  str : mg "str" = none
  tup : mg "tuple" = none
  max : mg "max" = none
abbrev nInit : List Str := ["self", "text", "part"]
abbrev sInit : Stmt := inClass cShape 0
theorem scInit : FnScope nInit ["self", "text"] (defScope sInit) := ⟨rfl, rfl, rfl, by decide +kernel, rfl, by decide +kernel, by decide +kernel⟩
theorem sum_mem {x : Nat} : ∀ {l : List Nat}, x ∈ l → x ≤ l.sum
  | y :: r, h => by
    rw [List.sum_cons]
    rcases List.mem_cons.mp h with rfl | h
    · omega
    · have := sum_mem h
      omega
theorem boot_strT : bootBuiltins "str" = some (.type "str") := by decide +kernel
section
variable {P : Program} {w : World} {K : PySem.W.Frag} {mg : Str → Option Value} {base : Heap}
theorem ok_init1 {f C : Addr} {fd : FuncData} {j n : Nat} {spP : Sp} (F : Fun K "__init__" "Shape.__init__" sInit f fd) (T : TxtS mg) (c : ShC K C) (rI : Rd P w K mg base "is_shape" j ["text"] spShape) (rP : Rd P w K mg base "parts_of" j ["text"] spParts)
    (rD : Pr P w K mg base C "depth" "_depth" 1) (rM : Rm P w K mg base "Shape" C j ["self", "text"] spP) (hj : 1 ≤ j) (hn : n ≤ 3) (hc : n = 0 ∨ ∃ m, n = m + 1 ∧ spP = spInit K C m) :
    FnOk P w K mg base CX0 (j + 2) f fd ["self", "text"] (spInit K C n) := by
  refine F.ok scInit (fun vs H Q E h => ?_) (fun cdv A outer s H vs Q E hr h => ?_)
  · obtain ⟨x, dx, t, rfl, _⟩ := h
    rfl
  · obtain ⟨x, dx, t, rfl, hx, hs, hl5, hcap, q⟩ := h
    refine ⟨_, pss_cons (ps_if (PW.pt (pw_or (pt_not (pt_val (pe_callB call_isi (by rfl) T.isi boot_isinstance (pa_cons (pv 1) (pa_cons (pe_bltn (v := .ty "str") (by rfl) T.str boot_strT rfl) pa_nil))))) (pw_or1 (pt_not (pt_val (pe_rd rI hr (Nat.le_succ j) (by rfl) (pa_cons (pv 1) pa_nil))))))) (pss_one ps_never) pss_nil)
      (pss_cons (ps_fld (pv 0) (pv 1) (by rfl))
      (pss_cons (ps_fld (pv 0) (pe_ifExp (pt_cmpR op_eq (pv 1) pe_str (nomark _)) (pe_tup pa_nil) (pe_callTy call_tuple_of (by rfl) T.tup boot_tuple (pa_cons (pe_lc (own := [("part", 2)]) (g := gName 2) (tt := tYes) rfl scInit.nd (pi_list (pe_rd rP hr (Nat.le_succ j) (by rfl) (pa_cons (pe_slice sl_str (pv 1) (po_some pe_int) (po_some (pe_un un_neg pe_int))) pa_nil)))
          (blkOk_by (N := nInit) (sc := defScope sInit) (by decide +kernel)) (fun _ _ _ _ _ => pg_name (i := 2) scInit.nd rfl (.inl rfl)) (fun _ _ _ _ _ => pts_nil) (fun _ _ _ _ _ => pe_rm rM hr (Nat.le_refl _) (by rfl) (pa_cons (pv 2) pa_nil))) pa_nil))) (by rfl))
      (pss_cons (ps_fld (pv 0) (pe_callB (cr_max rfl) (by rfl) T.max boot_max (pa_cons (pe_op op_cat (pe_lst (pa_cons pe_int pa_nil)) (pe_lc (own := [("part", 2)]) (g := gName 2) (tt := tYes) rfl scInit.nd (pi_tup (pe_fld (pv 0) (by rfl)))
          (blkOk_by (N := nInit) (sc := defScope sInit) (by decide +kernel)) (fun _ _ _ _ _ => pg_name (i := 2) scInit.nd rfl (.inl rfl)) (fun _ _ _ _ _ => pts_nil) (fun _ _ _ _ _ => pe_op op_add (pe_pr rD c.cl hr (Nat.succ_le_succ hj) (pv 2)) pe_int))) pa_nil)) (by rfl))
      (pss_one (ps_fld (pv 0) (pe_m1 PySem.F.slot_str_count PySem.F.type_str_count mt_count (pv 1) pe_str) (by rfl)))))), ?_⟩
    have hsh : isShape (txt n t) = true := by
      unfold isShape
      rw [txt_count, decide_eq_true hl5, form_le hn (txt_form n t hs)]
      rfl
    have hline : (S (txt n t)).length ≤ sizeLine := by rw [S_len]; exact cap_line hcap
    -- the test
    refine q_when (b := false) (et_is (et_or (et_not (et_B (ev_isi (ev_var rfl) ev_c (.ty "str") (fun _ _ => .base (.str _)) (kit_ty rfl)))) fun _ => et_not (et_B (ev_call (ea_cons (ev_var rfl) ea_nil) (sp_shape hcap)))) (by rw [hsh]; rfl)) (fun z => nomatch z) fun _ H1 f1 => ?_
    -- self.text
    refine q_fld (er_of (ev_var rfl)) (fun _ _ => ev_var rfl) (f1 _ _ hx) c.cl c.nT (by show 0 < 1000; decide) mon_eq fun y H2 f2 ry => ?_
    subst ry
    have o2 : Hc.Ext (fun b => b = x) H (upd H2 x (.ins C dx (putF "text" (.str (S (txt n t))) []))) := (Hc.Ext.same (f1.trans f2)).trans (Hc.Ext.put rfl)
    have h2 : (upd H2 x (.ins C dx (putF "text" (.str (S (txt n t))) []))) x = some (.ins C dx [("text", .str (S (txt n t)))]) := upd_same
    generalize upd H2 x (.ins C dx (putF "text" (.str (S (txt n t))) [])) = K2 at o2 h2 ⊢
    -- self._parts
    refine q_fld (R := fun v H => ∃ p xs, v = .ref p ∧ SqT K H p xs ∧ Items K C n t xs H) ?_ (fun _ _ => ev_var rfl) h2 c.cl c.nP (by show 1 < 1000; decide) (fun v H H' e h => by
      obtain ⟨p, xs, h1, h2, h3⟩ := h
      exact ⟨p, xs, h1, e.seqT h2, items_mon e n t h3⟩) fun y H3 f3 ry => ?_
    · intro H3 e3 Q qq
      refine et_test (ev_eqS (a := txt n t) (b := [46]) (ev_var rfl) ev_c) H3 e3 _ fun H4 e4 => ?_
      by_cases hd : txt n t = [46]
      · rw [decide_eq_true hd]
        refine iteT ⟨Nat.zero_le _, fun p np => qq (.ref p) _ (e4.trans (Ex.new np)) ⟨p, [], rfl, SqT.of upd_same, ?_⟩⟩
        match n, t, hd with
        | 0, _, _ => rfl
        | n + 1, [], _ => exact All2.nil
        | n + 1, y :: l, hd => exact absurd hd txt_dot
      · rw [decide_eq_false hd]
        refine iteF ?_
        obtain ⟨m, rfl, rfl⟩ : ∃ m, n = m + 1 ∧ spP = spInit K C m := by
          rcases hc with rfl | h
          · exact absurd rfl hd
          · exact h
        match t, hd, hs, hl5, hcap, hline, qq with
        | [], hd, _, _, _, _, _ => exact absurd rfl hd
        | y0 :: l, hd, hs, hl5, hcap, hline, qq =>
          have hi : (inner (txt (m + 1) (y0 :: l : List (Tre m)))).length ≤ cap := Nat.le_trans (inner_len _) hcap
          have hs' : (decide ((y0 :: l).length ≤ 3) && (y0 :: l).all (slim m)) = true := hs
          rw [Bool.and_eq_true, List.all_eq_true, decide_eq_true_eq] at hs'
          have hpt := parts_txt m y0 l
          have z := eru_tuple (K := K) (fun t => shV_mon m t) (er_lcN (K := K) (j := 2) (vs := [2]) (te := tMake C (spInit K C m) [] E0 (tCons (tVar 2) tNil)) (R := fun t v H => ShV K C m t v H) (σ := [some (.ref x), some (.str (S (txt (m + 1) (y0 :: l : List (Tre m))))), none]) (H := K2) (tl := tCall spParts [] E0 (tCons (tSl rSlS (tVar 1) (tPart (tC (.int 1))) (tPart (tUn (rU fun i => .int (-i)) (tC (.int 1))))) tNil)) (fun t => shV_mon m t) (y0 :: l) (((y0 :: l).map (txt m)).map fun z => V.str (S z)) (by rw [List.length_map, List.length_map]) (by
            rw [← hpt]
            exact el_call (ea_cons (Evl.ev_is (ev_slS (lo := some 1) (hi := some (-1)) (ev_var rfl) (eo_some ev_c) (eo_some (ev_un ev_c ru_neg)) hline) (by rw [cut_in])) ea_nil) (sp_parts hi)) (by omega) wipe1 (fun i n y H5 _ hn hy => ?_))
          · refine z H4 (e3.trans e4) _ fun p xs H5 np e5 hp hal => ?_
            exact qq (.ref p) _ (e4.trans e5) ⟨p, xs, rfl, SqT.of hp, hal⟩
          · have ey : y = V.str (S (txt m n)) := by
              rw [map_get _ (map_get (txt m) hn)] at hy
              exact (Option.some.inj hy).symm
            subst ey
            have hmem := List.mem_of_getElem? hn
            refine er_make n (ea_cons (ev_var rfl) ea_nil) (hs'.2 n hmem) ?_ ?_
            · have e1 : lsts (m + 1) (y0 :: l : List (Tre m)) = 1 + ((y0 :: l).map (lsts m)).sum := rfl
              have e2 := sum_mem (List.mem_map.mpr ⟨n, hmem, rfl⟩ : lsts m n ∈ (y0 :: l).map (lsts m))
              omega
            · have := partsOf_items (inner (txt (m + 1) (y0 :: l : List (Tre m)))) (txt m n) (by rw [hpt]; exact List.mem_map.mpr ⟨n, hmem, rfl⟩)
              exact Nat.le_trans this hi
    · obtain ⟨p, xs, rfl, hp, hit⟩ := ry
      have h3 := f3 _ _ h2
      have g3 : ¬ Gd (HO.ins C dx [("text", .str (S (txt n t)))]) := fun g => absurd (g.2 _ _ _ rfl) (show ¬ (1 = 4) by decide)
      have n3 := NL.upd (u := .ins C dx (putF "_parts" (.ref p) [("text", .str (S (txt n t)))])) h3 g3
      have o3 : Hc.Ext (fun b => b = x) H (upd H3 x (.ins C dx (putF "_parts" (.ref p) [("text", .str (S (txt n t)))]))) := (o2.trans (Hc.Ext.same f3)).trans (Hc.Ext.put rfl)
      have h3' : (upd H3 x (.ins C dx (putF "_parts" (.ref p) [("text", .str (S (txt n t)))]))) x = some (.ins C dx [("text", .str (S (txt n t))), ("_parts", .ref p)]) := upd_same
      replace hp := n3.seqT hp
      replace hit := items_mon n3 n t hit
      generalize upd H3 x (.ins C dx (putF "_parts" (.ref p) [("text", .str (S (txt n t)))])) = K3 at o3 h3' hp hit ⊢
      -- self._depth
      obtain ⟨hlen, hdep⟩ := items_deps n t hit
      refine q_fld (R := fun v _ => v = .int ((dep n t : Nat) : Int)) ?_ (fun _ _ => ev_var rfl) h3' c.cl c.nD (by show 2 < 1000; decide) mon_eq fun y H4 f4 ry => ?_
      · refine er_of (ev_max (ns := (0 : Int) :: (deps n t).map (fun d => ((d : Nat) : Int) + 1)) ?_ (by simp) (dep_max n t))
        have z := el_lcT (K := K) (H := K3) (σ := [some (.ref x), some (.str (S (txt n t))), none]) (a := p) (xs := xs) (tl := tFld K (tVar 0) "_parts") (j := 2) (vs := [2]) (te := tOp (rI0 fun i j => .int (i + j)) (tProp C (getSp C "_depth") [] E0 (tVar 2)) (tC (.int 1))) (fun i => V.int ((((deps n t).getD i 0 : Nat) : Int) + 1))
          (ev_fld (ev_var rfl) h3' c.cl c.nP rfl) hp (by rw [hlen]; exact deps_len hs) wipe1 (fun i y H5 f5 hy => by
            obtain ⟨a, dx', fs, d, rfl, ha, hd, hdd⟩ := hdep i y hy
            have e : (deps n t).getD i 0 = d := by rw [List.getD_eq_getElem?_getD, hdd]; rfl
            rw [e]
            exact ev_op (ev_prop (ev_var rfl) (f5 _ _ ha) hd) ev_c rv_I0)
        rw [hlen] at z
        have e0 : ((0 : Int) :: (deps n t).map (fun d => ((d : Nat) : Int) + 1)).map V.int = [V.int 0] ++ (List.range (deps n t).length).map (fun i => V.int ((((deps n t).getD i 0 : Nat) : Int) + 1)) := by
          rw [List.map_cons, List.map_map]
          congr 1
          exact (range_getD (fun d : Nat => V.int (((d : Nat) : Int) + 1)) (deps n t)).symm
        rw [e0]
        exact el_cat (el_lst (ea_cons ev_c ea_nil) (by show 1 ≤ 100000; decide)) z (by
          have := deps_len hs
          rw [List.length_map, List.length_range]
          show 1 + _ ≤ 100000
          omega)
      · subst ry
        have h4 := f4 _ _ h3'
        have g4 : ¬ Gd (HO.ins C dx [("text", .str (S (txt n t))), ("_parts", .ref p)]) := fun g => absurd (g.2 _ _ _ rfl) (show ¬ (2 = 4) by decide)
        have n4 := (NL.ex f4).trans (NL.upd (u := .ins C dx (putF "_depth" (.int ((dep n t : Nat) : Int)) [("text", .str (S (txt n t))), ("_parts", .ref p)])) h4 g4)
        have o4 : Hc.Ext (fun b => b = x) H (upd H4 x (.ins C dx (putF "_depth" (.int ((dep n t : Nat) : Int)) [("text", .str (S (txt n t))), ("_parts", .ref p)]))) := (o3.trans (Hc.Ext.same f4)).trans (Hc.Ext.put rfl)
        have h4' : (upd H4 x (.ins C dx (putF "_depth" (.int ((dep n t : Nat) : Int)) [("text", .str (S (txt n t))), ("_parts", .ref p)]))) x = some (.ins C dx [("text", .str (S (txt n t))), ("_parts", .ref p), ("_depth", .int ((dep n t : Nat) : Int))]) := upd_same
        replace hp := n4.seqT hp
        replace hit := items_mon n4 n t hit
        generalize upd H4 x (.ins C dx (putF "_depth" (.int ((dep n t : Nat) : Int)) [("text", .str (S (txt n t))), ("_parts", .ref p)])) = K4 at o4 h4' hp hit ⊢
        -- self._lists
        refine s_fld (er_of (ev_count (c := 91) (L := txt n t) (ev_var rfl) ev_c)) (fun _ _ => ev_var rfl) h4' c.cl c.nL (by show 3 < 1000; decide) mon_eq fun y H5 f5 ry => ?_
        subst ry
        rw [txt_count]
        have h5 := f5 _ _ h4'
        have g5 : ¬ Gd (HO.ins C dx [("text", .str (S (txt n t))), ("_parts", .ref p), ("_depth", .int ((dep n t : Nat) : Int))]) := fun g => absurd (g.2 _ _ _ rfl) (show ¬ (3 = 4) by decide)
        have n5 := (NL.ex f5).trans (NL.upd (u := .ins C dx (putF "_lists" (.int ((lsts n t : Nat) : Int)) [("text", .str (S (txt n t))), ("_parts", .ref p), ("_depth", .int ((dep n t : Nat) : Int))])) h5 g5)
        refine q _ ((o4.trans (Hc.Ext.same f5)).trans (Hc.Ext.put rfl)) ((shV_iff n t _ _).mpr ⟨xs, ⟨x, dx, p, rfl, upd_same, n5.seqT hp⟩, items_mon n5 n t hit⟩)
theorem rm_init {f C : Addr} {fd : FuncData} (F : Fun K "__init__" "Shape.__init__" sInit f fd) (T : TxtS mg) (c : ShC K C) (g : mg "Shape" = some (.ref C)) (m : Mk K C f) (b : Binds K fd ["self", "text"] []) {j : Nat} (rI : Rd P w K mg base "is_shape" j ["text"] spShape) (rP : Rd P w K mg base "parts_of" j ["text"] spParts)
    (rD : Pr P w K mg base C "depth" "_depth" 1) (hj : 1 ≤ j) : ∀ n, n ≤ 3 → Rm P w K mg base "Shape" C (j + 2 + 2 * n) ["self", "text"] (spInit K C n)
  | 0, h => ⟨f, fd, g, m, b, (ok_init1 F T c rI rP rD (spP := spNo) ⟨f, fd, g, m, b, ⟨fun _ _ _ _ h => h.elim, fun _ _ _ _ _ _ _ _ _ _ _ _ _ h => h.elim⟩⟩ hj h (.inl rfl))⟩
  | n + 1, h => ⟨f, fd, g, m, b, (ok_init1 F T c (rI.mono (show j ≤ j + 2 + 2 * n by omega)) (rP.mono (show j ≤ j + 2 + 2 * n by omega)) rD (rm_init F T c g m b rI rP rD hj n (by omega)) (by omega) h (.inr ⟨n, rfl, rfl⟩)).mono (by omega)⟩
end
end Hs

set_option maxHeartbeats 4000000
/-! The draws of a law: where its state stands, and that each draw gives some number below its bound and leaves all else. -/
namespace Hc
open PySem PySem.Spec PyProof.Rows L2

/-- a draw's state: the list st, with the great numbers at g, the small ones at sm -/
def DrawSt (H : Hp) (st g sm : Addr) : Prop := ∃ (gs ss : List Int) (n z : Int), H st = some (.lst [.ref g, .ref sm, .int n, .int z]) ∧ H g = some (.lst (gs.map V.int)) ∧ H sm = some (.lst (ss.map V.int)) ∧
  (∀ x ∈ gs, 0 ≤ x) ∧ (∀ x ∈ ss, 0 ≤ x ∧ x < 2 ^ 40) ∧ ss.length ≤ 63 ∧ gs.length ≤ 63 ∧ 0 ≤ n ∧ 0 ≤ z ∧ z < 2 ^ 63 ∧ g ≠ sm
/-- what a draw writes -/
def Dr (st g : Addr) : Addr → Prop := fun b => b = st ∨ b = g
theorem DrawSt.ext {H H' : Hp} {st g sm : Addr} {S : Addr → Prop} (d : DrawSt H st g sm) (e : Ext S H H') (h1 : ¬ S st) (h2 : ¬ S g) (h3 : ¬ S sm) : DrawSt H' st g sm := by
  obtain ⟨gs, ss, n, z, a1, a2, a3, r⟩ := d
  exact ⟨gs, ss, n, z, e _ _ a1 h1, e _ _ a2 h2, e _ _ a3 h3, r⟩
theorem DrawSt.same {H H' : Hp} {st g sm : Addr} (d : DrawSt H st g sm) (e : Same H H') : DrawSt H' st g sm := by
  obtain ⟨gs, ss, n, z, a1, a2, a3, r⟩ := d
  exact ⟨gs, ss, n, z, e _ _ a1, e _ _ a2, e _ _ a3, r⟩

/-- a free place is none of the state's -/
theorem DrawSt.off {H : Hp} {st g sm p : Addr} (d : DrawSt H st g sm) (h : H p = none) : p ≠ st ∧ p ≠ g ∧ p ≠ sm := by
  obtain ⟨_, _, _, _, a1, a2, a3, _⟩ := d
  exact ⟨(ne_of_none a1 h).symm, (ne_of_none a2 h).symm, (ne_of_none a3 h).symm⟩
theorem DrawSt.put {H : Hp} {st g sm p : Addr} {o : HO} (d : DrawSt H st g sm) (n : p ≠ st ∧ p ≠ g ∧ p ≠ sm) : DrawSt (upd H p o) st g sm := by
  obtain ⟨gs, ss, a, z, a1, a2, a3, r⟩ := d
  exact ⟨gs, ss, a, z, (upd_ne n.1.symm).trans a1, (upd_ne n.2.1.symm).trans a2, (upd_ne n.2.2.symm).trans a3, r⟩
theorem dr_off {st g sm p : Addr} (n : p ≠ st ∧ p ≠ g ∧ p ≠ sm) : ¬ Dr st g p := fun z => z.elim n.1 n.2.1
/-- what was written behind H at a place that is free in H -/
theorem Ext.puts {S : Addr → Prop} {H H' : Hp} {p : Addr} {o : HO} (e : Ext S H H') (h : H p = none) : Ext S H (upd H' p o) := fun b u z n => by
  rw [upd_ne (ne_of_none z h)]
  exact e b u z n

structure TxtD (mg : Str → Option Value) : Prop where
  int : mg "int" = none
  abs : mg "abs" = none
  len : mg "len" = none

def spStart (K : PySem.W.Frag) : Sp := fun vs H Q _ => ∃ (a : Addr) (ns : List Int), vs = [.ref a] ∧ SqL K H a (ns.map V.int) ∧ ns.length ≤ 63 ∧
  ∀ (H' : Hp) (st g sm : Addr), Same H H' → H st = none → H g = none → H sm = none → DrawSt H' st g sm → Q (.ref st) H'
def spDraw : Sp := fun vs H Q _ => ∃ (st g sm : Addr) (m : Int), vs = [.ref st, .int m] ∧ DrawSt H st g sm ∧ 0 < m ∧ m < 2 ^ 60 ∧
  ∀ (r : Int) (H' : Hp), 0 ≤ r → r < m → Ext (Dr st g) H H' → DrawSt H' st g sm → Q (.int r) H'
def spOf (K : PySem.W.Frag) : Sp := fun vs H Q _ => ∃ (st g sm l : Addr) (xs : List V), vs = [.ref st, .ref l] ∧ DrawSt H st g sm ∧ (SqL K H l xs ∨ SqT K H l xs) ∧ ¬ Dr st g l ∧ 0 < xs.length ∧ xs.length < 2 ^ 60 ∧
  ∀ (i : Nat) (v : V) (H' : Hp), xs[i]? = some v → Ext (Dr st g) H H' → DrawSt H' st g sm → Q v H'

section
variable {P : Program} {w : World} {K : PySem.W.Frag} {mg : Str → Option Value} {base : Heap}
abbrev nStart : List Str := ["_law_script", "_law_cells", "_law_great", "_law_small", "_law_cell"]
theorem scStart : FnScope nStart ["_law_script"] (defScope sStart) := ⟨rfl, rfl, rfl, by decide +kernel, rfl, by decide +kernel, by decide +kernel⟩
theorem scDraw : FnScope ["_law_state", "_law_many", "_law_great", "_law_small", "_law_taken", "_law_own", "_law_mixed"] ["_law_state", "_law_many"] (defScope sDraw) := ⟨rfl, rfl, rfl, by decide +kernel, rfl, by decide +kernel, by decide +kernel⟩
theorem scOf : FnScope ["_law_state", "_law_some"] ["_law_state", "_law_some"] (defScope sOf) := ⟨rfl, rfl, rfl, by decide +kernel, rfl, by decide +kernel, by decide +kernel⟩

theorem boot_int : bootBuiltins "int" = some (.type "int") := by decide +kernel
theorem boot_abs : bootBuiltins "abs" = some (.builtin "abs") := by decide +kernel

theorem ok_draw {f : Addr} {fd : FuncData} {k : Nat} (F : Fun K "_law_draw" "_law_draw" sDraw f fd) (T : TxtD mg) : FnOk P w K mg base CX0 (k + 1) f fd ["_law_state", "_law_many"] spDraw := by
  refine F.ok scDraw (fun vs H Q E h => ?_) (fun cdv A outer s H vs Q E hr h => ?_)
  · obtain ⟨st, g, sm, m, rfl, _⟩ := h
    rfl
  · obtain ⟨st, g, sm, m, rfl, ⟨gs, ss, n, z, hst, hg, hsm, gpos, spos, slen, glen, n0, z0, z1, gsm⟩, m0, m1, q⟩ := h
    refine ⟨_, pss_cons (ps_par (i := 2) (j := 3) (by rfl) scDraw.nd rfl rfl (by decide) rfl rfl (pa_cons (pe_ix ix_list (pv 0) pe_int (fun _ _ => rfl)) (pa_cons (pe_ix ix_list (pv 0) pe_int (fun _ _ => rfl)) pa_nil)) (by rfl))
      (pss_cons (ps_augS (pv 0) pe_int pg_list pe_int ip_add set_list)
      (Evl.pss_cut (ps_if (PW.pt (pw_and (pt_truth (pv 2) (by intro _; rfl)) (pw_and1 (pt_cmpR op_eq (pe_ix ix_list (pv 2) pe_int (fun _ _ => rfl)) pe_int (nomark _)))))
          (pss_one (ps_expr (pe_bm PySem.F.plainAttrs_list PySem.F.slot_list_pop PySem.F.type_list_pop mt_popAt (pv 2) (pa_cons pe_int pa_nil)))) pss_nil)
      (pss_cons (ps_if (pt_truth (pv 2) (by intro _; rfl))
          (pss_cons (ps_set (i := 4) scDraw.nd rfl (.inl rfl) (pe_op op_mod (pe_callTy call_int1 (by rfl) T.int boot_int (pa_cons (pe_ix ix_list (pv 2) pe_int (fun _ _ => rfl)) pa_nil)) (pv 1)))
            (pss_cons (ps_asg (pe_op op_fdivW (pe_ix ix_list (pv 2) pe_int (fun _ _ => rfl)) (pv 1)) (pg_sub (pv 2) pe_int set_list))
            (pss_one (ps_ret (pv 4))))) pss_nil)
      (Evl.pss_cut (ps_set (i := 5) scDraw.nd rfl (.inl rfl) (pe_ifExp (pt_truth (pv 3) (by intro _; rfl)) (pe_ix ix_list (pv 3) (pe_op op_mod (pe_callTy call_int1 (by rfl) T.int boot_int (pa_cons (pe_ix ix_list (pv 0) pe_int (fun _ _ => rfl)) pa_nil)) (pe_callB call_len_seq (by rfl) T.len PySem.boot_len (pa_cons (pv 3) pa_nil))) (fun _ _ => rfl)) pe_int))
      (pss_cons (ps_asg (pe_op op_mod (pe_callTy call_int1 (by rfl) T.int boot_int (pa_cons
            (pe_op op_add (pe_op op_add (pe_op op_add (pe_op op_mul (pe_ix ix_list (pv 0) pe_int (fun _ _ => rfl)) pe_int) (pe_op op_mul (pv 5) pe_int)) (pe_op op_mul (pe_ix ix_list (pv 0) pe_int (fun _ _ => rfl)) pe_int)) pe_int) pa_nil)) pe_int) (pg_sub (pv 0) pe_int set_list))
      (pss_cons (ps_set (i := 6) scDraw.nd rfl (.inl rfl) (pe_op op_mod (pe_callTy call_int1 (by rfl) T.int boot_int (pa_cons
            (pe_op op_add (pe_op op_mul (pe_ix ix_list (pv 0) pe_int (fun _ _ => rfl)) (pe_ix ix_list (pv 0) pe_int (fun _ _ => rfl))) (pe_op op_mul pe_int (pe_ix ix_list (pv 0) pe_int (fun _ _ => rfl)))) pa_nil)) pe_int))
      (pss_one (ps_ret (pe_op op_mod (pe_callTy call_int1 (by rfl) T.int boot_int (pa_cons (pe_op op_fdiv (pv 6) pe_int) pa_nil)) (pv 1)))))))))), ?_⟩
    have nsg : st ≠ g := ne_of hst hg (by intro z; cases gs <;> cases z)
    have nss : st ≠ sm := ne_of hst hsm (by intro z; cases ss <;> cases z)
    -- great, small = (state[0], state[1])
    refine ⟨_, rfl, st, _, 0, _, rfl, rfl, SqL.of hst, atI_nat (j := 0) rfl, _, rfl, st, _, 1, _, rfl, rfl, SqL.of hst, atI_nat (j := 1) rfl, _, _, rfl, ?_⟩
    -- state[2] += 1
    refine ⟨_, rfl, st, _, 2, _, rfl, rfl, SqL.of hst, atI_nat (j := 2) rfl, n, 1, rfl, rfl, st, _, 2, 2, rfl, rfl, hst, rfl, ?_⟩
    -- if great and great[0] == 0: great.pop(0)
    refine ⟨fun σ' H' => σ' = [some (.ref st), some (.int m), some (.ref g), some (.ref sm), none, none, none] ∧ ∃ gs' : List Int, H' st = some (.lst [.ref g, .ref sm, .int (n + 1), .int z]) ∧ H' g = some (.lst (gs'.map V.int)) ∧
      Ext (Dr st g) H H' ∧ (∀ x ∈ gs', 0 ≤ x) ∧ gs'.length ≤ 63, ?_, ?_⟩
    · have e1 : (upd H st (.lst ([V.ref g, V.ref sm, V.int n, V.int z].set 2 (V.int (n + 1))))) g = some (.lst (gs.map V.int)) := by
        rw [upd_ne nsg.symm]
        exact hg
      refine ⟨_, rfl, !(gs.map V.int).isEmpty, .inl ⟨_, SqL.of e1, rfl⟩, ?_⟩
      cases gs with
      | nil => exact iteF (iteF ⟨rfl, [], upd_same, e1, Ext.put (.inl rfl), gpos, glen⟩)
      | cons x r =>
        refine iteT ⟨_, rfl, g, _, 0, _, rfl, rfl, SqL.of e1, atI_nat (j := 0) rfl, rfl, _, rfl, ?_⟩
        refine ite2 (fun _ => ?_) (fun _ => ?_)
        · refine ⟨_, rfl, .inl ⟨rfl, _, SqL.of e1⟩, g, _, 0, 0, _, rfl, rfl, e1, by decide, by decide, seqIndex_of (by decide) (by rw [List.length_map, List.length_cons]; omega), rfl, ?_⟩
          refine ⟨rfl, r, ?_, ?_, (Ext.put (.inl rfl)).trans (Ext.put (.inr rfl)), fun y hy => gpos y (List.mem_cons_of_mem _ hy), by rw [List.length_cons] at glen; omega⟩
          · rw [upd_ne nsg, upd_same]
            rfl
          · rw [upd_same]
            rfl
        · exact ⟨rfl, x :: r, upd_same, e1, Ext.put (.inl rfl), gpos, glen⟩
    · rintro σ' H1 ⟨rfl, gs', f1, f2, ex, gpos', glen'⟩
      -- if great: ..
      have f3 : H1 sm = some (.lst (ss.map V.int)) := ex _ _ hsm (by rintro (e | e); exact nss e.symm; exact gsm e.symm)
      refine ⟨_, rfl, !(gs'.map V.int).isEmpty, .inl ⟨_, SqL.of f2, rfl⟩, ?_⟩
      cases gs' with
      | cons x r =>
        have x0 : 0 ≤ x := gpos' x List.mem_cons_self
        refine iteT ⟨_, rfl, g, _, 0, _, rfl, rfl, SqL.of f2, atI_nat (j := 0) rfl, .inl ⟨x, rfl, ?_⟩⟩
        refine ⟨_, rfl, x, m, rfl, rfl, m0, ?_⟩
        refine ⟨_, rfl, g, _, 0, _, rfl, rfl, SqL.of f2, atI_nat (j := 0) rfl, _, rfl, x, m, rfl, rfl, wide_div (b := 60) m0 (by omega) (by decide) (by decide), ?_⟩
        refine ⟨_, rfl, g, _, 0, 0, rfl, rfl, f2, Evl.ixN_nat (j := 0) (by rw [List.length_map, List.length_cons]; omega), ?_⟩
        refine ⟨_, rfl, q _ _ (Int.emod_nonneg _ (by omega)) (Int.emod_lt_of_pos _ m0) (ex.trans (Ext.put (.inr rfl))) ⟨(x / m) :: r, ss, n + 1, z, ?_, ?_, ?_, ?_, spos, slen, glen', by omega, z0, z1, gsm⟩⟩
        · rw [upd_ne nsg]
          exact f1
        · rw [upd_same]
          rfl
        · rw [upd_ne (Ne.symm gsm)]
          exact f3
        · intro y hy
          rcases List.mem_cons.mp hy with e | hy
          · rw [e]
            exact Int.ediv_nonneg x0 (by omega)
          · exact gpos' y (List.mem_cons_of_mem _ hy)
      | nil =>
        refine iteF ?_
        -- own = small[..] if small else 3
        refine ⟨fun σ' H' => H' = H1 ∧ ∃ o : Int, 0 ≤ o ∧ o < 2 ^ 40 ∧ σ' = [some (.ref st), some (.int m), some (.ref g), some (.ref sm), none, some (.int o), none], ?_, ?_⟩
        · refine ⟨_, rfl, !(ss.map V.int).isEmpty, .inl ⟨_, SqL.of f3, rfl⟩, ?_⟩
          cases ss with
          | nil => exact iteF ⟨rfl, 3, by decide, by decide, rfl⟩
          | cons y r =>
            have hl : (0 : Int) < (((y :: r).map V.int).length : Nat) := by simp
            have h1 := Int.emod_nonneg (n + 1) (show ((((y :: r).map V.int).length : Nat) : Int) ≠ 0 by omega)
            have h2 := Int.emod_lt_of_pos (n + 1) hl
            obtain ⟨j, hj⟩ := Int.eq_ofNat_of_zero_le h1
            have hj2 : j < (y :: r).length := by
              rw [hj] at h2
              rw [List.length_map] at h2
              omega
            have hv : ((y :: r).map V.int)[j]? = some (.int (y :: r)[j]) := by
              rw [List.getElem?_map, List.getElem?_eq_getElem hj2]
              rfl
            have hm := spos _ (List.getElem_mem hj2)
            refine iteT ⟨_, rfl, _, rfl, st, _, 2, _, rfl, rfl, SqL.of f1, atI_nat (j := 2) rfl, .inl ⟨_, rfl, ?_⟩⟩
            refine ⟨_, rfl, sm, _, rfl, .inl (SqL.of f3), n + 1, _, rfl, rfl, hl, sm, _, _, _, rfl, rfl, SqL.of f3, at_of hj hv, rfl, _, hm.1, hm.2, rfl⟩
        · rintro σ' H' ⟨rfl, o, o0, o1, rfl⟩
          -- state[3] = ..
          refine ⟨_, rfl, st, _, 3, _, rfl, rfl, SqL.of f1, atI_nat (j := 3) rfl, z, 48271, rfl, rfl, .inr (by decide), ?_⟩
          refine ⟨_, rfl, o, 40692, rfl, rfl, .inr (by decide), _, _, rfl, rfl, ?_⟩
          refine ⟨_, rfl, st, _, 2, _, rfl, rfl, SqL.of f1, atI_nat (j := 2) rfl, n + 1, 69621, rfl, rfl, .inr (by decide), _, _, rfl, rfl, _, _, rfl, rfl, .inl ⟨_, rfl, ?_⟩⟩
          refine ⟨_, _, rfl, rfl, by show (0 : Int) < 2305843009213693951; decide, ?_⟩
          refine ⟨_, rfl, st, _, 3, 3, rfl, rfl, f1, rfl, ?_⟩
          dsimp only
          generalize hz' : (z * 48271 + o * 40692 + (n + 1) * 69621 + 11) % 2305843009213693951 = z'
          have z0' : 0 ≤ z' := by
            rw [← hz']
            exact Int.emod_nonneg _ (by decide)
          have z1' : z' < 2305843009213693951 := by
            rw [← hz']
            exact Int.emod_lt_of_pos _ (by decide)
          have e1 : (upd H' st (.lst ([V.ref g, V.ref sm, V.int (n + 1), V.int z].set 3 (V.int z')))) st = some (.lst [V.ref g, V.ref sm, V.int (n + 1), V.int z']) := upd_same
          -- mixed = ..
          refine ⟨_, rfl, st, _, 3, _, rfl, rfl, SqL.of e1, atI_nat (j := 3) rfl, _, rfl, st, _, 3, _, rfl, rfl, SqL.of e1, atI_nat (j := 3) rfl, z', z', rfl, rfl, .inl ⟨by omega, by omega⟩, ?_⟩
          refine ⟨_, rfl, st, _, 2, _, rfl, rfl, SqL.of e1, atI_nat (j := 2) rfl, 1000003, n + 1, rfl, rfl, .inl (by decide), _, _, rfl, rfl, .inl ⟨_, rfl, ?_⟩⟩
          refine ⟨_, _, rfl, rfl, by show (0 : Int) < 2305843009213693921; decide, ?_⟩
          refine ⟨_, rfl, _, _, rfl, rfl, ⟨by decide, by decide⟩, .inl ⟨_, rfl, ?_⟩⟩
          refine ⟨_, rfl, _, m, rfl, rfl, m0, ?_⟩
          refine q _ _ (Int.emod_nonneg _ (by omega)) (Int.emod_lt_of_pos _ m0) (ex.trans (Ext.put (.inl rfl))) ⟨[], ss, n + 1, z', e1, ?_, ?_, fun y hy => (nomatch hy), spos, slen, by decide, by omega, z0', by omega, gsm⟩
          · rw [upd_ne nsg.symm]
            exact f2
          · rw [upd_ne nss.symm]
            exact f3

theorem cut63 (xs : List V) (h : xs.length ≤ 63) : cutV xs none (some 63) = xs := by
  unfold cutV
  rw [HT.sIx_none, show ((63 : Int)) = ((63 : Nat) : Int) from rfl, HT.sIx_nat, List.drop_zero, Nat.sub_zero, Nat.min_eq_right h, List.take_length]
theorem wipe1 {σ : L2.St} {j : Nat} (x : V) : wipe ((wipe σ [j]).set j (some x)) [j] = wipe σ [j] := by
  show ((σ.set j none).set j (some x)).set j none = σ.set j none
  rw [List.set_set, List.set_set]
theorem absI (n : Int) : (if n < 0 then -n else n) = (n.natAbs : Int) := by
  by_cases h : n < 0
  · rw [if_pos h]
    omega
  · rw [if_neg h]
    omega
open Evl in
theorem ev_int {σ : L2.St} {H : Hp} {te : TE} {n : Int} (h : Ev te σ H (.int n)) : Ev (tCB (fun (xs : List V) (H : Hp) (Q : VK) => (∃ i, xs = [.int i] ∧ Q (.int i) H) ∨ ∃ k, xs = [.bl k] ∧ Q (.int (if k then 1 else 0)) H) (tCons te tNil)) σ H (.int n) :=
  ev_cb (ea_cons h ea_nil) fun H1 _ Q q => .inl ⟨n, rfl, q H1 (Ex.refl H1)⟩
open Evl in
theorem ev_abs {σ : L2.St} {H : Hp} {te : TE} {n : Int} (h : Ev te σ H (.int n)) : Ev (tCB (fun (xs : List V) (H : Hp) (Q : VK) => ∃ i, xs = [.int i] ∧ Q (.int (if i < 0 then -i else i)) H) (tCons te tNil)) σ H (.int (n.natAbs : Int)) :=
  ev_cb (ea_cons h ea_nil) fun H1 _ Q q => ⟨n, rfl, by rw [absI]; exact q H1 (Ex.refl H1)⟩
open Evl in
theorem ok_start {f : Addr} {fd : FuncData} {k : Nat} (F : Fun K "_law_start" "_law_start" sStart f fd) (T : TxtD mg) : FnOk P w K mg base CX0 (k + 1) f fd ["_law_script"] (spStart K) := by
  refine F.ok scStart (fun vs H Q E h => ?_) (fun cdv A outer s H vs Q E hr h => ?_)
  · obtain ⟨a, ns, rfl, _⟩ := h
    rfl
  · obtain ⟨a, ns, rfl, hS, hlen, q⟩ := h
    refine ⟨_, pss_cons (ps_setLc (i := 1) (own := [("_law_cell", 4)]) (g := gName 4) (tt := tYes) rfl scStart.nd rfl rfl (sw_true rfl rfl rfl (by decide +kernel)) (pi_list (pe_slice sl_list (pv 0) po_none (po_some pe_int)))
          (blkOk_by (N := nStart) (sc := defScope sStart) (by decide +kernel)) (fun _ _ _ _ _ => pg_name (i := 4) scStart.nd rfl (.inl rfl)) (fun _ _ _ _ _ => pts_nil) (fun _ _ _ _ _ => pe_callTy call_int1 (by rfl) T.int boot_int (pa_cons (pv 4) pa_nil)))
      (pss_cons (ps_setLc (i := 2) (own := [("_law_cell", 4)]) (g := gName 4) rfl scStart.nd rfl rfl (sw_true rfl rfl rfl (by decide +kernel)) (pi_list (pv 1))
          (blkOk_by (N := nStart) (sc := defScope sStart) (by decide +kernel)) (fun _ _ _ _ _ => pg_name (i := 4) scStart.nd rfl (.inl rfl)) (fun _ _ _ _ _ => pts_one (pt_cmpR op_ge (pe_callB call_abs (by rfl) T.abs boot_abs (pa_cons (pv 4) pa_nil)) (pe_op op_pow pe_int pe_int) (nomark _)))
          (fun _ _ _ _ _ => pe_callB call_abs (by rfl) T.abs boot_abs (pa_cons (pv 4) pa_nil)))
      (pss_cons (ps_setLc (i := 3) (own := [("_law_cell", 4)]) (g := gName 4) rfl scStart.nd rfl rfl (sw_true rfl rfl rfl (by decide +kernel)) (pi_list (pv 1))
          (blkOk_by (N := nStart) (sc := defScope sStart) (by decide +kernel)) (fun _ _ _ _ _ => pg_name (i := 4) scStart.nd rfl (.inl rfl)) (fun _ _ _ _ _ => pts_one (pt_cmpR op_lt (pe_callB call_abs (by rfl) T.abs boot_abs (pa_cons (pv 4) pa_nil)) (pe_op op_pow pe_int pe_int) (nomark _)))
          (fun _ _ _ _ _ => pe_op op_add (pe_op op_mod (pe_callTy call_int1 (by rfl) T.int boot_int (pa_cons (pv 4) pa_nil)) pe_int) pe_int))
      (pss_one (ps_ret (pe_lst (pa_cons (pv 2) (pa_cons (pv 3) (pa_cons pe_int (pa_cons (pe_op op_add pe_int (pe_callB call_len_seq (by rfl) T.len PySem.boot_len (pa_cons (pv 1) pa_nil))) pa_nil))))))))), ?_⟩
    have hpow : ∀ (H1 : Hp) (σ : L2.St), Ev (tOp (rI CPow fun i j => V.int (i ^ j.toNat)) (tC (.int 10)) (tC (.int 18))) σ H1 (.int (10 ^ 18)) := fun H1 σ => ev_op ev_c ev_c (rv_I ⟨by decide, by decide, by decide⟩)
    -- cells
    refine q_asgL (el_mapN ns V.int (fun _ => true) V.int (by
      have z := el_sl (K := K) (te := tVar 0) (tl := tNoPart) (th := tPart (tC (.int 63))) (σ := start ["_law_script", "_law_cells", "_law_great", "_law_small", "_law_cell"] [V.ref a]) (H := H) (ev_var rfl) eo_none (eo_some ev_c) hS
      rw [cut63 _ (by rw [List.length_map]; exact hlen)] at z
      exact z) (by omega) wipe1 (fun x H1 _ _ => et_yes) (fun x H1 _ _ _ => ev_int (ev_var rfl))) fun c H1 nc e1 hc => ?_
    rw [List.filter_eq_self.mpr (fun _ _ => rfl)] at hc
    -- great
    refine q_asgL (el_map ns V.int (fun x => decide (10 ^ 18 ≤ (x.natAbs : Int))) (fun x => V.int (x.natAbs : Int)) (ev_var rfl) (SqL.of hc) (by omega) wipe1 (fun x H1 _ _ => et_test (ev_op (ev_abs (ev_var rfl)) (hpow _ _) rv_I0)) (fun x H1 _ _ _ => ev_abs (ev_var rfl))) fun g H2 ng e2 hg => ?_
    -- small
    refine q_asgL (el_map ns V.int (fun x => decide ((x.natAbs : Int) < 10 ^ 18)) (fun x => V.int (x % 2147483629 + 1)) (ev_var rfl) (SqL.of (e2 _ _ hc)) (by omega) wipe1 (fun x H1 _ _ => et_test (ev_op (ev_abs (ev_var rfl)) (hpow _ _) rv_I0)) (fun x H1 _ _ _ => ev_op (ev_op (ev_int (ev_var rfl)) ev_c (rv_I (by decide))) ev_c rv_I0)) fun sm H3 nsm e3 hsm => ?_
    -- return
    refine s_retL (el_lst (ea_cons (ev_var rfl) (ea_cons (ev_var rfl) (ea_cons ev_c (ea_cons (ev_op ev_c (ev_len (ev_var rfl) (SqL.of (e3 _ _ (e2 _ _ hc)))) rv_I0) ea_nil)))) (by show 4 ≤ 100000; decide)) fun st H4 nst e4 hst => ?_
    have f1 : H g = none := fresh_back e1 ng
    have f2 : H sm = none := fresh_back (e1.trans e2) nsm
    have f3 : H st = none := fresh_back ((e1.trans e2).trans e3) nst
    refine q H4 st g sm (((e1.trans e2).trans e3).trans e4) f3 f1 f2 ⟨(ns.filter fun x => decide (10 ^ 18 ≤ (x.natAbs : Int))).map fun x => (x.natAbs : Int), (ns.filter fun x => decide ((x.natAbs : Int) < 10 ^ 18)).map fun x => x % 2147483629 + 1, 0, 7 + (ns.length : Int), ?_, ?_, ?_, ?_, ?_, ?_, ?_, by decide, by omega, by omega, ?_⟩
    · rw [List.length_map] at hst
      exact hst
    · rw [List.map_map]
      exact e4 _ _ (e3 _ _ hg)
    · rw [List.map_map]
      exact e4 _ _ hsm
    · intro x hx
      obtain ⟨y, _, rfl⟩ := List.mem_map.mp hx
      omega
    · intro x hx
      obtain ⟨y, _, rfl⟩ := List.mem_map.mp hx
      have h1 := Int.emod_nonneg y (show (2147483629 : Int) ≠ 0 by decide)
      have h2 := Int.emod_lt_of_pos y (show (0 : Int) < 2147483629 by decide)
      omega
    · rw [List.length_map]
      exact Nat.le_trans (List.length_filter_le _ _) hlen
    · rw [List.length_map]
      exact Nat.le_trans (List.length_filter_le _ _) hlen
    · exact ne_of_none hg nsm

theorem ok_of {f fD : Addr} {fd fdD : FuncData} {k : Nat} (F : Fun K "_law_of" "_law_of" sOf f fd) (T : TxtD mg) (FD : Fun K "_law_draw" "_law_draw" sDraw fD fdD) (bD : Binds K fdD ["_law_state", "_law_many"] []) (gD : mg "_law_draw" = some (.ref fD)) :
    FnOk P w K mg base CX0 (k + 2) f fd ["_law_state", "_law_some"] (spOf K) := by
  have GD : FnOk P w K mg base CX0 (k + 1) fD fdD ["_law_state", "_law_many"] spDraw := ok_draw FD T
  refine F.ok scOf (fun vs H Q E h => ?_) (fun cdv A outer s H vs Q E hr h => ?_)
  · obtain ⟨st, g, sm, l, xs, rfl, _⟩ := h
    rfl
  · obtain ⟨st, g, sm, l, xs, rfl, hd, hl, nl, l0, l1, q⟩ := h
    refine ⟨_, pss_one (ps_ret (pe_ix ix_seq (pv 1) (pe_call GD hr rfl gD FD.kp bD .nil pass0 (pa_cons (pv 0) (pa_cons (pe_callB call_len_seq (by rfl) T.len PySem.boot_len (pa_cons (pv 1) pa_nil)) pa_nil))) (fun _ _ => rfl))), ?_⟩
    refine ⟨_, rfl, _, rfl, _, rfl, l, xs, rfl, hl, st, g, sm, _, rfl, hd, by omega, by omega, fun r H1 r0 r1 e1 d1 => ?_⟩
    obtain ⟨j, hj⟩ := Int.eq_ofNat_of_zero_le r0
    have hj2 : j < xs.length := by omega
    rcases hl with hl | hl
    · exact .inl ⟨l, xs, r, xs[j], rfl, rfl, e1.seq nl hl, at_of hj (List.getElem?_eq_getElem hj2), q j _ H1 (List.getElem?_eq_getElem hj2) e1 d1⟩
    · exact .inr (.inl ⟨l, xs, r, xs[j], rfl, rfl, e1.seqT nl hl, at_of hj (List.getElem?_eq_getElem hj2), q j _ H1 (List.getElem?_eq_getElem hj2) e1 d1⟩)
end
end Hc

set_option maxHeartbeats 4000000
/-! The law's trees: nested tuples; their lists, depth and text. -/
namespace Hs
open PySem PySem.Spec PyProof.Rows L2 Evl
def TrV (K : PySem.W.Frag) : (n : Nat) → Tre n → V → Hp → Prop
  | 0, _, v, H => ∃ a, v = .ref a ∧ SqT K H a []
  | n + 1, (l : List (Tre n)), v, H => ∃ a xs, v = .ref a ∧ SqT K H a xs ∧ All2 (fun t v H => TrV K n t v H) l xs H
theorem trV_mon {K : PySem.W.Frag} : ∀ (n : Nat) (t : Tre n), ExMon (TrV K n t)
  | 0, t => fun v H H' e h => by
    obtain ⟨a, h1, h2⟩ := h
    exact ⟨a, h1, e.seqT h2⟩
  | n + 1, l => fun v H H' e h => by
    obtain ⟨a, xs, h1, h2, h3⟩ := h
    exact ⟨a, xs, h1, e.seqT h2, h3.ex (fun t => trV_mon n t) e⟩
def kids : (n : Nat) → Tre n → List (Tre (n - 1))
  | 0, _ => []
  | n + 1, (l : List (Tre n)) => l
theorem trV_iff {K : PySem.W.Frag} : ∀ (n : Nat) (t : Tre n) (v : V) (H : Hp), TrV K n t v H ↔ ∃ a xs, v = .ref a ∧ SqT K H a xs ∧ All2 (fun t v H => TrV K (n - 1) t v H) (kids n t) xs H
  | 0, _, v, H => ⟨fun ⟨a, h1, h2⟩ => ⟨a, [], h1, h2, All2.nil⟩, fun ⟨a, xs, h1, h2, h3⟩ => by
    have e : xs = [] := List.length_eq_zero_iff.mp h3.1
    subst e
    exact ⟨a, h1, h2⟩⟩
  | n + 1, l, v, H => Iff.rfl
def dat : (n : Nat) → Tre n → PyData
  | 0, _ => .tuple []
  | n + 1, (l : List (Tre n)) => .tuple (l.map (dat n))
theorem dat_dp {K : PySem.W.Frag} {H : Hp} : ∀ (n : Nat) (t : Tre n) (v : V), TrV K n t v H → Dp K H v (dat n t)
  | 0, _, v, h => by
    obtain ⟨a, rfl, h2⟩ := h
    exact .tup h2 .nil
  | n + 1, l, v, h => by
    obtain ⟨a, xs, rfl, h2, h3⟩ := h
    refine .tup h2 ?_
    have key : ∀ (l : List (Tre n)) (xs : List V), All2 (fun t v H => TrV K n t v H) l xs H → DpAll K H xs (l.map (dat n)) := by
      intro l
      induction l with
      | nil =>
        intro xs h
        have e : xs = [] := List.length_eq_zero_iff.mp h.1
        subst e
        exact .nil
      | cons t l ih =>
        intro xs h
        cases xs with
        | nil => exact absurd h.1 (by simp)
        | cons x xs =>
          refine .cons (dat_dp n t x (h.2 0 t x rfl rfl)) (ih xs ⟨by have := h.1; simpa using this, fun i m y a b => h.2 (i + 1) m y (by simpa using a) (by simpa using b)⟩)
    exact key l xs h3
theorem dat_lay : ∀ (n : Nat) (t : Tre n), (dat n t).canLay0 = true
  | 0, _ => by
    show PyData.canLay0 (.tuple []) = true
    unfold PyData.canLay0
    rfl
  | n + 1, l => by
    show PyData.canLay0 (.tuple (List.map (dat n) l)) = true
    unfold PyData.canLay0
    have key : ∀ (l : List (Tre n)), PyData.canLayAll0 (l.map (dat n)) = true := by
      intro l
      induction l with
      | nil => rfl
      | cons t l ih =>
        rw [List.map_cons]
        unfold PyData.canLayAll0
        rw [dat_lay n t, ih]
        rfl
    exact key l
theorem dat_depth : ∀ (n : Nat) (t : Tre n), (dat n t).depth ≤ n + 1
  | 0, _ => by
    show PyData.depth (.tuple []) ≤ 1
    unfold PyData.depth PyData.depthAll
    omega
  | n + 1, l => by
    show PyData.depth (.tuple (List.map (dat n) l)) ≤ n + 2
    unfold PyData.depth
    have key : ∀ (l : List (Tre n)), PyData.depthAll (l.map (dat n)) ≤ n + 1 := by
      intro l
      induction l with
      | nil =>
        rw [List.map_nil]
        unfold PyData.depthAll
        omega
      | cons t l ih =>
        rw [List.map_cons]
        unfold PyData.depthAll
        have := dat_depth n t
        omega
    have := key l
    omega
theorem dat_shaped {n : Nat} (hn : n ≤ 3) (t : Tre n) : SeqAt.shaped (dat n t) = true := by
  unfold SeqAt.shaped
  rw [dat_lay, Bool.true_and]
  have := dat_depth n t
  exact decide_eq_true (by omega)
theorem dat_eqv : ∀ (n : Nat) (a b : Tre n), PyData.eqv (dat n a) (dat n b) = decide (txt n a = txt n b)
  | 0, _, _ => by
    show PyData.eqv (.tuple []) (.tuple []) = decide ([46] = [46])
    unfold PyData.eqv PyData.eqvAll
    rfl
  | n + 1, a, b => by
    have key : ∀ (a b : List (Tre n)), PyData.eqvAll (a.map (dat n)) (b.map (dat n)) = decide (a.map (txt n) = b.map (txt n)) := by
      intro a
      induction a with
      | nil =>
        intro b
        cases b with
        | nil =>
          show PyData.eqvAll [] [] = _
          unfold PyData.eqvAll
          rfl
        | cons y b =>
          show PyData.eqvAll [] (dat n y :: b.map (dat n)) = _
          unfold PyData.eqvAll
          rfl
      | cons x a ih =>
        intro b
        cases b with
        | nil =>
          show PyData.eqvAll (dat n x :: a.map (dat n)) [] = _
          unfold PyData.eqvAll
          rfl
        | cons y b =>
          show PyData.eqvAll (dat n x :: a.map (dat n)) (dat n y :: b.map (dat n)) = _
          unfold PyData.eqvAll
          rw [dat_eqv n x y, ih b, List.map_cons, List.map_cons]
          by_cases h1 : txt n x = txt n y <;> by_cases h2 : a.map (txt n) = b.map (txt n) <;> simp [h1, h2]
    have e1 : PyData.eqv (dat (n + 1) a) (dat (n + 1) b) = PyData.eqvAll (List.map (dat n) a) (List.map (dat n) b) := by
      show PyData.eqv (.tuple (List.map (dat n) a)) (.tuple (List.map (dat n) b)) = _
      rw [PyData.eqv]
    rw [e1, key a b]
    refine decide_eq_decide.mpr ⟨fun h => ?_, fun h => ?_⟩
    · match a, b, h with
      | [], [], _ => rfl
      | x :: a, y :: b, h =>
        rw [txt_cons, txt_cons, show (x :: a).map (txt n) = (y :: b).map (txt n) from h]
      | [], y :: b, h => simp at h
      | x :: a, [], h => simp at h
    · rw [txt_inj (n + 1) a b h]
/-- a tree that is () -/
def leaf : (n : Nat) → Tre n
  | 0 => ()
  | n + 1 => ([] : List (Tre n))
theorem txt_leaf : ∀ n, txt n (leaf n) = [46]
  | 0 => rfl
  | n + 1 => rfl
theorem dat_leaf : ∀ n, dat n (leaf n) = .tuple []
  | 0 => rfl
  | n + 1 => rfl
theorem leaf_V {K : PySem.W.Frag} {H : Hp} {a : Addr} (h : SqT K H a []) : ∀ n, TrV K n (leaf n) (.ref a) H
  | 0 => ⟨a, rfl, h⟩
  | n + 1 => ⟨a, [], rfl, h, All2.nil⟩
theorem lsts_leaf : ∀ n, lsts n (leaf n) = 0
  | 0 => rfl
  | n + 1 => rfl
theorem slim_leaf : ∀ n, slim n (leaf n) = true
  | 0 => rfl
  | n + 1 => rfl
theorem txt_len : ∀ (n : Nat) (t : Tre n), slim n t = true → (txt n t).length + 3 ≤ 4 * 3 ^ n
  | 0, _, _ => by show 1 + 3 ≤ 4; decide
  | n + 1, [], _ => by
    rw [txt_nil]
    have : 0 < 3 ^ (n + 1) := Nat.pow_pos (by decide)
    show 1 + 3 ≤ _
    omega
  | n + 1, x :: l, h => by
    have h' : (decide ((x :: l).length ≤ 3) && (x :: l).all (slim n)) = true := h
    rw [Bool.and_eq_true, List.all_eq_true, decide_eq_true_eq] at h'
    obtain ⟨h1, h2⟩ := h'
    have key : ∀ (l : List (Tre n)), (∀ t ∈ l, slim n t = true) → (TL.joinL [44, 32] (l.map (txt n))).length ≤ l.length * (4 * 3 ^ n - 3) + (l.length - 1) * 2 := by
      intro l
      induction l with
      | nil => exact fun _ => Nat.zero_le _
      | cons y l ih =>
        intro hl
        have hy := txt_len n y (hl y List.mem_cons_self)
        cases l with
        | nil =>
          show (txt n y).length ≤ _
          rw [List.length_singleton]
          omega
        | cons z l =>
          have := ih fun t ht => hl t (List.mem_cons_of_mem _ ht)
          rw [List.map_cons, List.map_cons, joinL_cons, List.length_append, List.length_append]
          have hk : 1 ≤ (z :: l).length := by simp
          rw [List.map_cons] at this
          rw [show (y :: z :: l).length = (z :: l).length + 1 from rfl, Nat.succ_mul]
          show _ + (2 + _) ≤ _
          generalize (z :: l).length * (4 * 3 ^ n - 3) = M at this ⊢
          omega
    have hk := key (x :: l) h2
    rw [txt_cons, List.length_cons, List.length_append, List.length_singleton]
    have hp : 1 ≤ 3 ^ n := Nat.pow_pos (by decide)
    rw [Nat.pow_succ]
    have h3 : (x :: l).length * (4 * 3 ^ n - 3) ≤ 3 * (4 * 3 ^ n - 3) := Nat.mul_le_mul_right _ h1
    omega
theorem txt_cap {n : Nat} (hn : n ≤ 3) {t : Tre n} (h : slim n t = true) : (txt n t).length ≤ 105 := by
  have h1 := txt_len n t h
  have h2 : 3 ^ n ≤ 3 ^ 3 := Nat.pow_le_pow_right (by decide) hn
  omega
theorem cap_of {n : Nat} (hn : n ≤ 3) {t : Tre n} (h : slim n t = true) : (txt n t).length ≤ cap := Nat.le_trans (txt_cap hn h) (by decide)
theorem slim_iff (n : Nat) (l : List (Tre n)) : slim (n + 1) l = true ↔ l.length ≤ 3 ∧ ∀ x ∈ l, slim n x = true := by
  show (decide (l.length ≤ 3) && l.all (slim n)) = true ↔ _
  rw [Bool.and_eq_true, List.all_eq_true, decide_eq_true_eq]
theorem kids_slim : ∀ {n : Nat} {t : Tre n}, slim n t = true → (kids n t).length ≤ 3 ∧ ∀ x ∈ kids n t, slim (n - 1) x = true
  | 0, _, _ => ⟨Nat.zero_le _, fun x h => nomatch h⟩
  | n + 1, l, h => (slim_iff n l).mp h
end Hs

set_option maxHeartbeats 4000000
namespace Hs
open PySem PySem.Spec PyProof.Rows L2 Evl Hc
theorem lsts_kids : ∀ {n : Nat} {t : Tre n}, txt n t ≠ [46] → lsts n t = 1 + ((kids n t).map (lsts (n - 1))).sum
  | 0, _, h => absurd rfl h
  | n + 1, [], h => absurd rfl h
  | n + 1, x :: l, _ => rfl
theorem dep_kids : ∀ {n : Nat} {t : Tre n}, txt n t ≠ [46] → dep n t = 1 + ((kids n t).map (dep (n - 1))).foldl max 0
  | 0, _, h => absurd rfl h
  | n + 1, [], h => absurd rfl h
  | n + 1, x :: l, _ => rfl
theorem txt_kids : ∀ {n : Nat} {t : Tre n}, txt n t ≠ [46] → txt n t = 91 :: (TL.joinL [44, 32] ((kids n t).map (txt (n - 1))) ++ [93])
  | 0, _, h => absurd rfl h
  | n + 1, [], h => absurd rfl h
  | n + 1, x :: l, _ => rfl
theorem kids_ne : ∀ {n : Nat} {t : Tre n}, txt n t ≠ [46] → kids n t ≠ []
  | 0, _, h => absurd rfl h
  | n + 1, [], h => absurd rfl h
  | n + 1, x :: l, _ => by
    intro z
    cases z
theorem leaf_val : ∀ {n : Nat} {t : Tre n}, txt n t = [46] → lsts n t = 0 ∧ dep n t = 0
  | 0, _, _ => ⟨rfl, rfl⟩
  | n + 1, [], _ => ⟨rfl, rfl⟩
  | n + 1, x :: l, h => absurd h txt_dot
section
variable {K : PySem.W.Frag} {σ : L2.St} {H : Hp} {te tl : TE}
theorem range_opt {α : Type} (g : α → V) (l : List α) : (List.range l.length).map (fun i => (l[i]?).elim .non g) = l.map g := by
  apply List.ext_getElem
  · simp
  · intro i h1 h2
    simp at h1
    simp [h1]
theorem el_kids {n : Nat} {t : Tre n} {v : V} {j : Nat} {vs : List Nat} (g : Tre (n - 1) → V) (h : TrV K n t v H) (hs : slim n t = true) (hv : Ev tl σ H v) (hw : ∀ x, wipe ((wipe σ vs).set j (some x)) vs = wipe σ vs)
    (he : ∀ x y H1, Ex H H1 → x ∈ kids n t → TrV K (n - 1) x y H1 → Ev te ((wipe σ vs).set j (some y)) H1 (g x)) : EvL (tLc (iTup K tl) (gName j) tYes te vs) σ H ((kids n t).map g) := by
  obtain ⟨a, xs, rfl, hx, hal⟩ := (trV_iff n t v H).mp h
  have z := el_lcT (K := K) (te := te) (fun i => ((kids n t)[i]?).elim .non g) hv hx (by rw [hal.1]; have := (kids_slim hs).1; omega) hw (fun i y H1 e1 hy => by
    have hi : i < (kids n t).length := by rw [← hal.1]; exact (List.getElem?_eq_some_iff.mp hy).1
    have hk := List.getElem?_eq_getElem hi
    rw [hk]
    exact he _ y H1 e1 (List.getElem_mem hi) (trV_mon (n - 1) _ y H H1 (NL.ex e1) (hal.2 i _ y hk hy)))
  rw [hal.1, range_opt] at z
  exact z
theorem ev_eqD {x y : V} {d e : PyData} {ta tb : TE} (ha : Ev ta σ H x) (hb : Ev tb σ H y) (hx : ∀ H1, Ex H H1 → Dp K H1 x d) (hy : ∀ H1, Ex H H1 → Dp K H1 y e) (sd : SeqAt.shaped d = true) (se : SeqAt.shaped e = true) : Ev (tOp (rEqD K) ta tb) σ H (.bl (PyData.eqv d e)) :=
  ev_op ha hb (fun H1 e1 Q q => ⟨d, e, hx H1 e1, hy H1 e1, sd, se, q H1 (Ex.refl H1)⟩)
theorem trV_ex {n : Nat} {t : Tre n} {v : V} {H' : Hp} (h : TrV K n t v H) (e : Ex H H') : TrV K n t v H' := trV_mon n t v H H' (NL.ex e) h
theorem et_leaf {n : Nat} {t : Tre n} {v : V} (hn : n ≤ 3) (h : TrV K n t v H) (hv : Ev te σ H v) : EvT (tTest (tOp (rEqD K) te (tTup tNil))) σ H (decide (txt n t = [46])) := by
  refine et_is (et_test (ev_opU (z := .bl (PyData.eqv (dat n t) (dat n (leaf n)))) hv (eu_tup ea_nil (Nat.zero_le _)) fun p H1 hp e1 => fun H2 e2 Q q => ?_)) (by rw [dat_eqv, txt_leaf])
  exact ⟨dat n t, dat n (leaf n), dat_dp n t v (trV_ex h (e1.trans e2)), dat_dp n (leaf n) _ (leaf_V (SqT.of (e2 _ _ hp)) n), dat_shaped hn t, dat_shaped hn _, q H2 (Ex.refl H2)⟩
def rJoin (K : PySem.W.Frag) : V → List V → Hp → VK → Prop := fun x xs H Q => ∃ a p, ∃ ys : List Str, x = .str a ∧ xs = [.ref p] ∧ (SqL K H p (ys.map V.str) ∨ SqT K H p (ys.map V.str)) ∧ (ys.map (·.length)).sum + ys.length * a.length ≤ 16777216 ∧ Q (.str (Txt.join a ys)) H
theorem ev_join {a : List Nat} {ys : List (List Nat)} {to : TE} (h1 : Ev to σ H (.str (S a))) (h2 : EvL tl σ H ((ys.map S).map V.str)) (hz : ((ys.map S).map (·.length)).sum + (ys.map S).length * (S a).length ≤ 16777216) : Ev (tM1 (rJoin K) to tl) σ H (.str (S (TL.joinL a ys))) := fun H1 e Q q =>
  h1 H1 e _ fun H2 e2 => ⟨⟨_, rfl⟩, h2 H2 (e.trans e2) _ fun p H3 np e3 hp => ⟨S a, p, ys.map S, rfl, rfl, .inl (SqL.of hp), hz, by rw [join_S]; exact q H3 (e2.trans e3)⟩⟩
theorem ev_addS {x y : Str} {ta tb : TE} (h1 : Ev ta σ H (.str x)) (h2 : Ev tb σ H (.str y)) (hz : x.length + y.length ≤ sizeLine) : Ev (tOp (fun x y H Q => ∃ i j, x = .str i ∧ y = .str j ∧ i.length + j.length ≤ sizeLine ∧ Q (.str (i ++ j)) H) ta tb) σ H (.str (x ++ y)) :=
  ev_op h1 h2 fun H1 e Q q => ⟨x, y, rfl, rfl, hz, q H1 (Ex.refl H1)⟩
theorem sum_le {c : Nat} : ∀ l : List Nat, (∀ x ∈ l, x ≤ c) → l.sum ≤ l.length * c
  | [], _ => Nat.zero_le _
  | x :: l, h => by
    have h1 := h x List.mem_cons_self
    have h2 := sum_le l fun y hy => h y (List.mem_cons_of_mem _ hy)
    rw [List.sum_cons, List.length_cons, Nat.succ_mul]
    omega
theorem evl_is {xs ys : List V} (h : EvL te σ H xs) (e : xs = ys) : EvL te σ H ys := e ▸ h
theorem ev_sum {ns : List Int} (h : EvL tl σ H (ns.map V.int)) : Ev (tCB (rSum K) (tCons tl tNil)) σ H (.int ns.sum) := fun H1 e Q q =>
  h H1 e _ fun p H2 np e2 hp => ⟨p, ns, rfl, SqL.of hp, q H2 e2⟩
end
def spLists (K : PySem.W.Frag) (n : Nat) : Sp := fun vs H Q _ => ∃ v t, vs = [v] ∧ TrV K n t v H ∧ slim n t = true ∧ ∀ H', Ex H H' → Q (.int ((lsts n t : Nat) : Int)) H'
def spDepth (K : PySem.W.Frag) (n : Nat) : Sp := fun vs H Q _ => ∃ v t, vs = [v] ∧ TrV K n t v H ∧ slim n t = true ∧ ∀ H', Ex H H' → Q (.int ((dep n t : Nat) : Int)) H'
def spText (K : PySem.W.Frag) (n : Nat) : Sp := fun vs H Q _ => ∃ v t, vs = [v] ∧ TrV K n t v H ∧ slim n t = true ∧ ∀ H', Ex H H' → Q (.str (S (txt n t))) H'
theorem sp_lists {K : PySem.W.Frag} {n : Nat} {t : Tre n} {v : V} {H : Hp} (h : TrV K n t v H) (hs : slim n t = true) : SpV (spLists K n) ([v] ++ []) H (.int ((lsts n t : Nat) : Int)) := fun H1 e Q q E => ⟨v, t, rfl, trV_ex h e, hs, q⟩
theorem sp_depth {K : PySem.W.Frag} {n : Nat} {t : Tre n} {v : V} {H : Hp} (h : TrV K n t v H) (hs : slim n t = true) : SpV (spDepth K n) ([v] ++ []) H (.int ((dep n t : Nat) : Int)) := fun H1 e Q q E => ⟨v, t, rfl, trV_ex h e, hs, q⟩
theorem sp_text {K : PySem.W.Frag} {n : Nat} {t : Tre n} {v : V} {H : Hp} (h : TrV K n t v H) (hs : slim n t = true) : SpV (spText K n) ([v] ++ []) H (.str (S (txt n t))) := fun H1 e Q q E => ⟨v, t, rfl, trV_ex h e, hs, q⟩
structure TxtF (mg : Str → Option Value) : Prop extends TxtS mg where
  sum : mg "sum" = none
abbrev nF : List Str := ["_law_tree_here", "_law_item"]
theorem scL : FnScope nF ["_law_tree_here"] (defScope sLists) := ⟨rfl, rfl, rfl, by decide +kernel, rfl, by decide +kernel, by decide +kernel⟩
theorem scD : FnScope nF ["_law_tree_here"] (defScope sDepth) := ⟨rfl, rfl, rfl, by decide +kernel, rfl, by decide +kernel, by decide +kernel⟩
theorem scT : FnScope nF ["_law_tree_here"] (defScope sText) := ⟨rfl, rfl, rfl, by decide +kernel, rfl, by decide +kernel, by decide +kernel⟩
section
variable {P : Program} {w : World} {K : PySem.W.Frag} {mg : Str → Option Value} {base : Heap}
theorem ok_lists1 {f : Addr} {fd : FuncData} {k n : Nat} {spP : Sp} (F : Fun K "_law_lists" "_law_lists" sLists f fd) (T : TxtF mg) (rL : Rd P w K mg base "_law_lists" k ["_law_tree_here"] spP) (hn : n ≤ 3) (hc : n = 0 ∨ ∃ m, n = m + 1 ∧ spP = spLists K m) : FnOk P w K mg base CX0 (k + 1) f fd ["_law_tree_here"] (spLists K n) := by
  refine F.ok scL (fun vs H Q E h => ?_) (fun cdv A outer s H vs Q E hr h => ?_)
  · obtain ⟨v, t, rfl, _⟩ := h
    rfl
  · obtain ⟨v, t, rfl, ht, hs, q⟩ := h
    refine ⟨_, pss_one (ps_ret (pe_ifExp (pt_cmpR (op_eqD hr.units) (pv 0) (pe_tup pa_nil) (nomark _)) pe_int (pe_op op_add pe_int (pe_callB (cr_sum rfl) (by rfl) T.sum boot_sum (pa_cons (pe_lc (own := [("_law_item", 1)]) (g := gName 1) (tt := tYes) rfl scL.nd (pi_tup (pv 0)) (blkOk_by (N := nF) (sc := defScope sLists) (by decide +kernel))
      (fun _ _ _ _ _ => pg_name (i := 1) scL.nd rfl (.inl rfl)) (fun _ _ _ _ _ => pts_nil) (fun _ _ _ _ _ => pe_rd rL hr (Nat.le_refl _) (by rfl) (pa_cons (pv 1) pa_nil))) pa_nil))))), ?_⟩
    refine s_ret (ev_if (et_leaf hn ht (ev_var rfl)) (fun hb => ?_) (fun hb => ?_)) q
    · rw [(leaf_val (of_decide_eq_true hb)).1]
      exact ev_c
    · have hb' := of_decide_eq_false hb
      obtain ⟨m, rfl, rfl⟩ : ∃ m, n = m + 1 ∧ spP = spLists K m := by
        rcases hc with rfl | h
        · exact absurd rfl hb'
        · exact h
      have hk := kids_slim hs
      have z := el_kids (K := K) (n := m + 1) (t := t) (σ := [some v, none]) (H := H) (tl := tVar 0) (te := tCall (spLists K m) [] E0 (tCons (tVar 1) tNil)) (j := 1) (vs := [1]) (fun x => V.int ((lsts m x : Nat) : Int)) ht hs (ev_var rfl) wipe1 (fun x y H1 e1 hx hy => ev_call (ea_cons (ev_var rfl) ea_nil) (sp_lists hy (hk.2 x hx)))
      have e0 : (kids (m + 1) t).map (fun x => V.int ((lsts m x : Nat) : Int)) = ((kids (m + 1) t).map (fun x => ((lsts m x : Nat) : Int))).map V.int := by rw [List.map_map]; rfl
      replace z := evl_is z e0
      have e1 : ((lsts (m + 1) t : Nat) : Int) = 1 + ((kids (m + 1) t).map (fun x => ((lsts m x : Nat) : Int))).sum := by
        rw [lsts_kids hb']
        have key : ∀ l : List (Tre m), (((l.map (lsts m)).sum : Nat) : Int) = (l.map (fun x => ((lsts m x : Nat) : Int))).sum := by
          intro l
          induction l with
          | nil => rfl
          | cons x l ih =>
            rw [List.map_cons, List.map_cons, List.sum_cons, List.sum_cons, ← ih]
            omega
        have := key (kids (m + 1) t)
        show ((1 + ((kids (m + 1) t).map (lsts m)).sum : Nat) : Int) = _
        omega
      rw [e1]
      exact ev_op ev_c (ev_sum z) rv_I0
theorem ok_depth1 {f : Addr} {fd : FuncData} {k n : Nat} {spP : Sp} (F : Fun K "_law_depth" "_law_depth" sDepth f fd) (T : TxtF mg) (rL : Rd P w K mg base "_law_depth" k ["_law_tree_here"] spP) (hn : n ≤ 3) (hc : n = 0 ∨ ∃ m, n = m + 1 ∧ spP = spDepth K m) : FnOk P w K mg base CX0 (k + 1) f fd ["_law_tree_here"] (spDepth K n) := by
  refine F.ok scD (fun vs H Q E h => ?_) (fun cdv A outer s H vs Q E hr h => ?_)
  · obtain ⟨v, t, rfl, _⟩ := h
    rfl
  · obtain ⟨v, t, rfl, ht, hs, q⟩ := h
    refine ⟨_, pss_one (ps_ret (pe_ifExp (pt_cmpR (op_eqD hr.units) (pv 0) (pe_tup pa_nil) (nomark _)) pe_int (pe_op op_add pe_int (pe_callB (cr_max rfl) (by rfl) T.max boot_max (pa_cons (pe_lc (own := [("_law_item", 1)]) (g := gName 1) (tt := tYes) rfl scD.nd (pi_tup (pv 0)) (blkOk_by (N := nF) (sc := defScope sDepth) (by decide +kernel))
      (fun _ _ _ _ _ => pg_name (i := 1) scD.nd rfl (.inl rfl)) (fun _ _ _ _ _ => pts_nil) (fun _ _ _ _ _ => pe_rd rL hr (Nat.le_refl _) (by rfl) (pa_cons (pv 1) pa_nil))) pa_nil))))), ?_⟩
    refine s_ret (ev_if (et_leaf hn ht (ev_var rfl)) (fun hb => ?_) (fun hb => ?_)) q
    · rw [(leaf_val (of_decide_eq_true hb)).2]
      exact ev_c
    · have hb' := of_decide_eq_false hb
      obtain ⟨m, rfl, rfl⟩ : ∃ m, n = m + 1 ∧ spP = spDepth K m := by
        rcases hc with rfl | h
        · exact absurd rfl hb'
        · exact h
      have hk := kids_slim hs
      have hne : kids (m + 1) t ≠ [] := kids_ne hb'
      have z := el_kids (K := K) (n := m + 1) (t := t) (σ := [some v, none]) (H := H) (tl := tVar 0) (te := tCall (spDepth K m) [] E0 (tCons (tVar 1) tNil)) (j := 1) (vs := [1]) (fun x => V.int ((dep m x : Nat) : Int)) ht hs (ev_var rfl) wipe1 (fun x y H1 e1 hx hy => ev_call (ea_cons (ev_var rfl) ea_nil) (sp_depth hy (hk.2 x hx)))
      have e0 : (kids (m + 1) t).map (fun x => V.int ((dep m x : Nat) : Int)) = ((kids (m + 1) t).map (fun x => ((dep m x : Nat) : Int))).map V.int := by rw [List.map_map]; rfl
      replace z := evl_is z e0
      have e1 : ((dep (m + 1) t : Nat) : Int) = 1 + ((((kids (m + 1) t).map (dep m)).foldl max 0 : Nat) : Int) := by
        rw [dep_kids hb']
        show ((1 + ((kids (m + 1) t).map (dep m)).foldl max 0 : Nat) : Int) = _
        omega
      rw [e1]
      refine ev_op ev_c (ev_max z ?_ ?_) rv_I0
      · rw [List.length_map]
        exact List.length_pos_iff.mpr hne
      · intro mx h1 h2
        obtain ⟨a1, a2⟩ := fold_max ((kids (m + 1) t).map (dep m)) 0
        generalize ((kids (m + 1) t).map (dep m)).foldl max 0 = M at a1 a2 ⊢
        obtain ⟨x, hx, rfl⟩ := List.mem_map.mp h1
        have b1 := a2 (dep m x) (List.mem_cons_of_mem _ (List.mem_map.mpr ⟨x, hx, rfl⟩))
        rcases List.mem_cons.mp a1 with e | e
        · omega
        · obtain ⟨y, hy, rfl⟩ := List.mem_map.mp e
          have := h2 _ (List.mem_map.mpr ⟨y, hy, rfl⟩)
          omega
theorem ok_text1 {f : Addr} {fd : FuncData} {k n : Nat} {spP : Sp} (F : Fun K "_law_text" "_law_text" sText f fd) (T : TxtF mg) (rL : Rd P w K mg base "_law_text" k ["_law_tree_here"] spP) (hn : n ≤ 3) (hc : n = 0 ∨ ∃ m, n = m + 1 ∧ spP = spText K m) : FnOk P w K mg base CX0 (k + 1) f fd ["_law_tree_here"] (spText K n) := by
  refine F.ok scT (fun vs H Q E h => ?_) (fun cdv A outer s H vs Q E hr h => ?_)
  · obtain ⟨v, t, rfl, _⟩ := h
    rfl
  · obtain ⟨v, t, rfl, ht, hs, q⟩ := h
    refine ⟨_, pss_one (ps_ret (pe_ifExp (pt_cmpR (op_eqD hr.units) (pv 0) (pe_tup pa_nil) (nomark _)) pe_str (pe_op op_add_str (pe_op op_add_str pe_str (pe_join pe_str (pe_lc (own := [("_law_item", 1)]) (g := gName 1) (tt := tYes) rfl scT.nd (pi_tup (pv 0)) (blkOk_by (N := nF) (sc := defScope sText) (by decide +kernel))
      (fun _ _ _ _ _ => pg_name (i := 1) scT.nd rfl (.inl rfl)) (fun _ _ _ _ _ => pts_nil) (fun _ _ _ _ _ => pe_rd rL hr (Nat.le_refl _) (by rfl) (pa_cons (pv 1) pa_nil))))) pe_str))), ?_⟩
    refine s_ret (ev_if (et_leaf hn ht (ev_var rfl)) (fun hb => ?_) (fun hb => ?_)) q
    · rw [show txt n t = [46] from of_decide_eq_true hb]
      exact ev_c
    · have hb' := of_decide_eq_false hb
      obtain ⟨m, rfl, rfl⟩ : ∃ m, n = m + 1 ∧ spP = spText K m := by
        rcases hc with rfl | h
        · exact absurd rfl hb'
        · exact h
      have hk := kids_slim hs
      have z := el_kids (K := K) (n := m + 1) (t := t) (σ := [some v, none]) (H := H) (tl := tVar 0) (te := tCall (spText K m) [] E0 (tCons (tVar 1) tNil)) (j := 1) (vs := [1]) (fun x => V.str (S (txt m x))) ht hs (ev_var rfl) wipe1 (fun x y H1 e1 hx hy => ev_call (ea_cons (ev_var rfl) ea_nil) (sp_text hy (hk.2 x hx)))
      have e0 : (kids (m + 1) t).map (fun x => V.str (S (txt m x))) = (((kids (m + 1) t).map (txt m)).map S).map V.str := by rw [List.map_map, List.map_map]; rfl
      replace z := evl_is z e0
      have hl := txt_cap hn hs
      have et := txt_kids hb'
      have hj : (TL.joinL [44, 32] ((kids (m + 1) t).map (txt m))).length ≤ 105 := by
        rw [et] at hl
        have hl' : (91 :: (TL.joinL [44, 32] ((kids (m + 1) t).map (txt m)) ++ [93])).length ≤ 105 := hl
        rw [List.length_cons, List.length_append] at hl'
        omega
      have hz : ((((kids (m + 1) t).map (txt m)).map S).map (·.length)).sum + (((kids (m + 1) t).map (txt m)).map S).length * (S [44, 32]).length ≤ 16777216 := by
        have h1 := sum_le (c := 105) ((((kids (m + 1) t).map (txt m)).map S).map (·.length)) (fun y hy => by
          obtain ⟨u, hu, rfl⟩ := List.mem_map.mp hy
          obtain ⟨L, hL, rfl⟩ := List.mem_map.mp hu
          obtain ⟨x, hx, rfl⟩ := List.mem_map.mp hL
          show (S (txt m x)).length ≤ 105
          rw [S_len]
          exact txt_cap (by omega) (hk.2 x hx))
        rw [List.length_map, List.length_map, List.length_map] at h1
        rw [List.length_map, List.length_map, S_len]
        have h3 := hk.1
        have h4 : (kids (m + 1) t).length * 105 ≤ 3 * 105 := Nat.mul_le_mul_right _ h3
        have h5 : (kids (m + 1) t).length * 2 ≤ 3 * 2 := Nat.mul_le_mul_right _ h3
        show _ + (kids (m + 1) t).length * 2 ≤ _
        omega
      rw [et]
      have e3 : (91 :: (TL.joinL [44, 32] ((kids (m + 1) t).map (txt (m + 1 - 1))) ++ [93])) = ([91] ++ TL.joinL [44, 32] ((kids (m + 1) t).map (txt m))) ++ [93] := by
        show 91 :: (TL.joinL [44, 32] ((kids (m + 1) t).map (txt m)) ++ [93]) = _
        simp
      rw [e3, ← S_cat, ← S_cat]
      refine ev_addS (ev_addS ev_c (ev_join (a := [44, 32]) ev_c z hz) ?_) ev_c ?_
      · rw [S_len, S_len]
        exact cap_line (Nat.le_trans (Nat.add_le_add (Nat.le_refl 1) hj) (by decide))
      · rw [S_cat, S_len, S_len, List.length_append]
        exact cap_line (Nat.le_trans (Nat.add_le_add (Nat.add_le_add (Nat.le_refl 1) hj) (Nat.le_refl 1)) (by decide))
theorem rd_lists {f : Addr} {fd : FuncData} (F : Fun K "_law_lists" "_law_lists" sLists f fd) (g : mg "_law_lists" = some (.ref f)) (b : Binds K fd ["_law_tree_here"] []) (T : TxtF mg) : ∀ n, n ≤ 3 → Rd P w K mg base "_law_lists" (1 + n) ["_law_tree_here"] (spLists K n)
  | 0, h => ⟨f, fd, g, F.kp, b, ok_lists1 F T (rd_no F g b 0) h (.inl rfl)⟩
  | n + 1, h => ⟨f, fd, g, F.kp, b, ok_lists1 F T (rd_lists F g b T n (by omega)) h (.inr ⟨n, rfl, rfl⟩)⟩
theorem rd_depth {f : Addr} {fd : FuncData} (F : Fun K "_law_depth" "_law_depth" sDepth f fd) (g : mg "_law_depth" = some (.ref f)) (b : Binds K fd ["_law_tree_here"] []) (T : TxtF mg) : ∀ n, n ≤ 3 → Rd P w K mg base "_law_depth" (1 + n) ["_law_tree_here"] (spDepth K n)
  | 0, h => ⟨f, fd, g, F.kp, b, ok_depth1 F T (rd_no F g b 0) h (.inl rfl)⟩
  | n + 1, h => ⟨f, fd, g, F.kp, b, ok_depth1 F T (rd_depth F g b T n (by omega)) h (.inr ⟨n, rfl, rfl⟩)⟩
theorem rd_text {f : Addr} {fd : FuncData} (F : Fun K "_law_text" "_law_text" sText f fd) (g : mg "_law_text" = some (.ref f)) (b : Binds K fd ["_law_tree_here"] []) (T : TxtF mg) : ∀ n, n ≤ 3 → Rd P w K mg base "_law_text" (1 + n) ["_law_tree_here"] (spText K n)
  | 0, h => ⟨f, fd, g, F.kp, b, ok_text1 F T (rd_no F g b 0) h (.inl rfl)⟩
  | n + 1, h => ⟨f, fd, g, F.kp, b, ok_text1 F T (rd_text F g b T n (by omega)) h (.inr ⟨n, rfl, rfl⟩)⟩
end
end Hs

set_option maxHeartbeats 4000000
/-! The law's drawn trees. -/
namespace Hs
open PySem PySem.Spec PyProof.Rows L2 Evl Hc
def spTree (K : PySem.W.Frag) (m : Nat) : Sp := fun vs H Q _ => ∃ (st g sm : Addr) (room : Int), vs = [.ref st, .int ((m + 1 : Nat) : Int), .int room] ∧ DrawSt H st g sm ∧ 1 ≤ room ∧ room ≤ 5 ∧
  ∀ (t : Tre (m + 1)) (v : V) (H' : Hp), TrV K (m + 1) t v H' → slim (m + 1) t = true → ((lsts (m + 1) t : Nat) : Int) ≤ room → Hc.Ext (Dr st g) H H' → DrawSt H' st g sm → Q v H'
theorem nl_draw {H H' : Hp} {st g sm : Addr} (d : DrawSt H st g sm) (e : Hc.Ext (Dr st g) H H') : NL H H' := fun b o h n => by
  obtain ⟨gs, ss, a, z, a1, a2, a3, r⟩ := d
  refine e b o h ?_
  rintro (e | e)
  · rw [e, a1] at h
    exact n.1 _ (Option.some.inj h).symm
  · rw [e, a2] at h
    exact n.1 _ (Option.some.inj h).symm
structure TxtT (mg : Str → Option Value) : Prop extends TxtF mg where
  rng : mg "range" = none
abbrev nTree : List Str := ["_law_state", "_law_floors", "_law_room", "_law_items", "_law_left", "_law_turn"]
theorem scTree : FnScope nTree ["_law_state", "_law_floors", "_law_room"] (defScope sTree) := ⟨rfl, rfl, rfl, by decide +kernel, rfl, by decide +kernel, by decide +kernel⟩
section
variable {P : Program} {w : World} {K : PySem.W.Frag} {mg : Str → Option Value} {base : Heap}
/-- what the loop of _law_tree keeps -/
def IvT (K : PySem.W.Frag) (m : Nat) (H : Hp) (st g sm p : Addr) (room : Int) (i : Nat) (σ : L2.St) (H' : Hp) : Prop := ∃ (ts : List (Tre m)) (xs : List V) (lf : Int) (v5 : Option V), σ = [some (.ref st), some (.int ((m + 1 : Nat) : Int)), some (.int room), some (.ref p), some (.int lf), v5] ∧
  H' p = some (.lst xs) ∧ All2 (fun t v H => TrV K m t v H) ts xs H' ∧ ts.length = i ∧ (∀ t ∈ ts, slim m t = true) ∧ 0 ≤ lf ∧ lf + (((ts.map (lsts m)).sum : Nat) : Int) = room - 1 ∧ Hc.Ext (Dr st g) H H' ∧ DrawSt H' st g sm
def D0 : Ends := ⟨fun _ _ => False, fun _ _ => False, fun _ _ => False, fun _ _ => False⟩
theorem sum_snoc (l : List Nat) (x : Nat) : (l ++ [x]).sum = l.sum + x := by simp
theorem ok_tree1 {f : Addr} {fd : FuncData} {k m : Nat} {spP : Sp} (F : Fun K "_law_tree" "_law_tree" sTree f fd) (T : TxtT mg) (rD : Rd P w K mg base "_law_draw" k ["_law_state", "_law_many"] spDraw) (rL : Rd P w K mg base "_law_lists" k ["_law_tree_here"] (spLists K m))
    (rT : Rd P w K mg base "_law_tree" k ["_law_state", "_law_floors", "_law_room"] spP) (hm : m ≤ 2) (hc : m = 0 ∨ ∃ j, m = j + 1 ∧ spP = spTree K j) : FnOk P w K mg base CX0 (k + 1) f fd ["_law_state", "_law_floors", "_law_room"] (spTree K m) := by
  refine F.ok scTree (fun vs H Q E h => ?_) (fun cdv A outer s H vs Q E hr h => ?_)
  · obtain ⟨st, g, sm, room, rfl, _⟩ := h
    rfl
  · obtain ⟨st, g, sm, room, rfl, hd, room1, room5, q⟩ := h
    refine ⟨_, pss_cons (ps_set (i := 3) scTree.nd rfl (.inl rfl) (pe_lst pa_nil)) (pss_cons (ps_set (i := 4) scTree.nd rfl (.inl rfl) (pe_op op_sub (pv 2) pe_int))
      (pss_cons (ps_for PassesOwn.never rfl (pi_range1 (by rfl) T.rng (pa_cons (pe_op op_add pe_int (pe_rd rD hr (Nat.le_refl _) (by rfl) (pa_cons (pv 0) (pa_cons pe_int pa_nil)))) pa_nil)) (pg_name (i := 5) scTree.nd rfl (.inl rfl))
        (pss_one (ps_if (PW.pt (pw_and (pt_cmpR op_gt (pv 1) pe_int (nomark _)) (pw_and (pt_cmpR op_gt (pv 4) pe_int (nomark _)) (pw_and1 (pt_truth (pe_rd rD hr (Nat.le_refl _) (by rfl) (pa_cons (pv 0) (pa_cons pe_int pa_nil))) (by intro _; rfl))))))
          (pss_cons (ps_expr (pe_bm PySem.F.plainAttrs_list PySem.F.slot_list_append PySem.F.type_list_append mt_append (pv 3) (pa_cons (pe_rd rT hr (Nat.le_refl _) (by rfl) (pa_cons (pv 0) (pa_cons (pe_op op_sub (pv 1) pe_int) (pa_cons (pv 4) pa_nil)))) pa_nil)))
            (pss_one (ps_aug (i := 4) scTree.nd rfl (.inl rfl) (pe_rd rL hr (Nat.le_refl _) (by rfl) (pa_cons (pe_ix ix_list (pv 3) (pe_un un_neg pe_int) (fun _ _ => rfl)) pa_nil)) ip_sub)))
          (pss_one (ps_expr (pe_bm PySem.F.plainAttrs_list PySem.F.slot_list_append PySem.F.type_list_append mt_append (pv 3) (pa_cons (pe_tup pa_nil) pa_nil)))))))
      (pss_one (ps_ret (pe_callTy call_tuple_of (by rfl) T.tup boot_tuple (pa_cons (pv 3) pa_nil)))))), ?_⟩
    refine ⟨Nat.zero_le _, fun p np => ?_⟩
    have off := hd.off np
    refine q_asg (ev_op (ev_var rfl) ev_c rv_I0) fun H1 f1 => ?_
    have d1 : DrawSt H1 st g sm := (hd.put off).same f1
    have e1 : Hc.Ext (Dr st g) H H1 := (Hc.Ext.new np).trans (Hc.Ext.same f1)
    have p1 := f1 _ _ upd_same
    refine ⟨_, rfl, st, g, sm, 3, rfl, d1, by decide, by decide, fun r H2 r0 r3 e2 d2 => ?_⟩
    have p2 := e2 _ _ p1 (dr_off off)
    refine ⟨1, r, rfl, rfl, ?_⟩
    refine ⟨1 + r, rfl, by omega, by omega, for_range (lo := 0) (n := (1 + r).toNat) (IvT K m H st g sm p room) ?_ ?_ ?_⟩
    · exact ⟨[], [], room - 1, none, rfl, p2, All2.nil, rfl, (fun t h => by cases h), by omega, by simp, e1.trans e2, d2⟩
    · rintro i σ H3 hi ⟨ts, xs, lf, v5, rfl, p3, al, hlen, hsl, lf0, hsum, e3, d3⟩
      have hi3 : i < 3 := by omega
      have hxl : xs.length < 100000 := by rw [al.1]; omega
      -- a value that is appended, told by its tree
      have nxt : ∀ (t : Tre m) (v : V) (H5 : Hp) (lf' : Int), TrV K m t v H5 → slim m t = true → 0 ≤ lf' → lf' + ((lsts m t : Nat) : Int) = lf → NL H3 H5 → H5 p = some (.lst (xs ++ [v])) → Hc.Ext (Dr st g) H H5 → DrawSt H5 st g sm →
          IvT K m H st g sm p room (i + 1) [some (.ref st), some (.int ((m + 1 : Nat) : Int)), some (.int room), some (.ref p), some (.int lf'), some (.int (0 + (i : Int)))] H5 := by
        intro t v H5 lf' hv hs l0 l1 n5 p5 e5 d5
        refine ⟨ts ++ [t], xs ++ [v], lf', _, rfl, p5, (al.ex (fun t => trV_mon m t) n5).snoc hv, by rw [List.length_append, hlen]; rfl, fun u hu => ?_, l0, ?_, e5, d5⟩
        · rcases List.mem_append.mp hu with hu | hu
          · exact hsl u hu
          · rw [List.mem_singleton.mp hu]
            exact hs
        · rw [List.map_append, List.map_singleton, sum_snoc]
          omega
      -- items.append(())
      have els : ∀ (D : Ends) H4, Hc.Ext (Dr st g) H3 H4 → DrawSt H4 st g sm → tDrop (tBM K "list" rAppend (tVar 3) (tCons (tTup tNil) tNil)) { D with nx := IvT K m H st g sm p room (i + 1) }
          [some (.ref st), some (.int ((m + 1 : Nat) : Int)), some (.int room), some (.ref p), some (.int lf), some (.int (0 + (i : Int)))] H4 := by
        intro D H4 e4 d4
        have p4 := e4 _ _ p3 (dr_off off)
        refine s_appU p4 (ev_var rfl) (eu_tup ea_nil (Nat.zero_le _)) hxl fun u H5 nu e5 hu => ?_
        have p5 := e5 _ _ p4
        have d5 := d4.same e5
        have o5 : p ≠ st ∧ p ≠ g ∧ p ≠ sm := off
        have nt : ¬ u = p := fun z => by rw [z, p4] at nu; cases nu
        have np5 : NL H5 (upd H5 p (.lst (xs ++ [.ref u]))) := NL.put p5
        have e6 : Hc.Ext (Dr st g) H (upd H5 p (.lst (xs ++ [.ref u]))) := ((e3.trans e4).trans (Hc.Ext.same e5)).puts np
        exact nxt (leaf m) (.ref u) _ lf (leaf_V (SqT.of ((upd_ne nt).trans hu)) m) (slim_leaf m) lf0 (by rw [lsts_leaf]; omega) (((nl_draw d3 e4).trans (NL.ex e5)).trans np5) upd_same e6 (d5.put o5)
      refine et_test (ev_op (ev_var rfl) ev_c rv_I0) H3 (Ex.refl H3) _ fun H4 f4 => ?_
      have e4 : Hc.Ext (Dr st g) H3 H4 := Hc.Ext.same f4
      have d4 := d3.same f4
      rcases hc with rfl | ⟨j, rfl, rfl⟩
      · exact iteF (iteF (els D0 H4 e4 d4))
      · rw [show decide ((1 : Int) < ((j + 1 + 1 : Nat) : Int)) = true from decide_eq_true (by omega)]
        refine iteT ?_
        refine et_test (ev_op (ev_var rfl) ev_c rv_I0) H4 (Ex.refl H4) _ fun H5 f5 => ?_
        have e5 := e4.trans (Hc.Ext.same (S := Dr st g) f5)
        have d5 := d4.same f5
        by_cases hlf : (0 : Int) < lf
        · rw [decide_eq_true hlf]
          refine iteT ⟨_, rfl, st, g, sm, 2, rfl, d5, by decide, by decide, fun r2 H6 r20 r22 e6 d6 => ?_⟩
          have e6' := e5.trans e6
          refine ⟨(r2 != 0), rfl, ?_⟩
          refine ite2 (fun _ => ?_) (fun _ => els D0 H6 e6' d6)
          have p6 := e6' _ _ p3 (dr_off off)
          refine ⟨_, rfl, .inl ⟨rfl, _, SqL.of p6⟩, ?_⟩
          refine ⟨_, rfl, _, rfl, ((j + 1 + 1 : Nat) : Int), 1, rfl, rfl, _, rfl, st, g, sm, lf, by
            show [V.ref st, V.int (((j + 1 + 1 : Nat) : Int) - 1), V.int lf] = _
            rw [show (((j + 1 + 1 : Nat) : Int) - 1) = ((j + 1 : Nat) : Int) by omega], d6, by omega, by omega, fun t v H7 hv hs hl e7 d7 => ?_⟩
          have p7 := e7 _ _ p6 (dr_off off)
          refine ⟨p, xs, v, rfl, rfl, p7, sz_lt hxl, ?_⟩
          have p8 : (upd H7 p (.lst (xs ++ [v]))) p = some (.lst (xs ++ [v])) := upd_same
          have d8 : DrawSt (upd H7 p (.lst (xs ++ [v]))) st g sm := d7.put off
          have n7 : NL H7 (upd H7 p (.lst (xs ++ [v]))) := NL.put p7
          have n8 := ((nl_draw d3 e6').trans (nl_draw d6 e7)).trans n7
          have e8 : Hc.Ext (Dr st g) H (upd H7 p (.lst (xs ++ [v]))) := ((e3.trans e6').trans e7).puts np
          have v8 := trV_mon (j + 1) t v _ _ n7 hv
          generalize upd H7 p (.lst (xs ++ [v])) = K8 at p8 d8 n8 e8 v8 ⊢
          refine s_aug (f := fun i j => i - j) (a := lf) (b := ((lsts (j + 1) t : Nat) : Int)) rfl (ev_call (ea_cons (ev_op (ev_var rfl) (ev_un ev_c ru_neg) (rv_ixL (SqL.of p8) (atI_last xs v))) ea_nil) (sp_lists v8 hs)) fun H9 f9 => ?_
          exact nxt t v H9 _ (trV_ex v8 f9) hs (by omega) (by omega) (n8.trans (NL.ex f9)) (f9 _ _ p8) (e8.trans (Hc.Ext.same f9)) (d8.same f9)
        · rw [decide_eq_false hlf]
          exact iteF (iteF (els D0 H5 e5 d5))
    · rintro σ H3 ⟨ts, xs, lf, v5, rfl, p3, al, hlen, hsl, lf0, hsum, e3, d3⟩
      refine ⟨_, rfl, p, xs, rfl, .inl ⟨SqL.of p3, fun u nu => ?_⟩⟩
      have hts : ts.length ≤ 3 := by omega
      refine q ts (.ref u) _ ⟨u, xs, rfl, SqT.of upd_same, al.ex (fun t => trV_mon m t) (NL.ex (Ex.new nu))⟩ ((slim_iff m ts).mpr ⟨hts, hsl⟩) ?_ (e3.trans (Hc.Ext.new nu)) (d3.put (d3.off nu))
      have hl : lsts (m + 1) ts ≤ 1 + (ts.map (lsts m)).sum := by
        match ts with
        | [] => exact Nat.zero_le _
        | x :: l => exact Nat.le_refl _
      omega
theorem rd_tree {f : Addr} {fd : FuncData} (F : Fun K "_law_tree" "_law_tree" sTree f fd) (g : mg "_law_tree" = some (.ref f)) (b : Binds K fd ["_law_state", "_law_floors", "_law_room"] []) (T : TxtT mg) (rD : Rd P w K mg base "_law_draw" 1 ["_law_state", "_law_many"] spDraw)
    (rL : ∀ n, n ≤ 3 → Rd P w K mg base "_law_lists" (1 + n) ["_law_tree_here"] (spLists K n)) : ∀ m, m ≤ 2 → Rd P w K mg base "_law_tree" (5 + m) ["_law_state", "_law_floors", "_law_room"] (spTree K m)
  | 0, h => ⟨f, fd, g, F.kp, b, (ok_tree1 F T (rD.mono (by decide)) (rL 0 (by omega)) (rd_no F g b 1) h (.inl rfl)).mono (by decide)⟩
  | m + 1, h => ⟨f, fd, g, F.kp, b, ok_tree1 F T (rD.mono (show 1 ≤ 5 + m by omega)) ((rL (m + 1) (by omega)).mono (show 1 + (m + 1) ≤ 5 + m by omega)) (rd_tree F g b T rD rL m (by omega)) h (.inr ⟨m, rfl, rfl⟩)⟩
end
end Hs

set_option maxHeartbeats 8000000
namespace Hs
open PySem PySem.Spec PyProof.Rows L2 Evl Hc
/-! ### a tree with room for one floor more -/
def lift1 : (n : Nat) → Tre n → Tre (n + 1)
  | 0, _ => ([] : List (Tre 0))
  | n + 1, (l : List (Tre n)) => (l.map (lift1 n) : List (Tre (n + 1)))
theorem trV_lift {K : PySem.W.Frag} {H : Hp} : ∀ (n : Nat) (t : Tre n) (v : V), TrV K n t v H → TrV K (n + 1) (lift1 n t) v H
  | 0, _, v, h => by
    obtain ⟨a, h1, h2⟩ := h
    exact ⟨a, [], h1, h2, All2.nil⟩
  | n + 1, l, v, h => by
    obtain ⟨a, xs, h1, h2, h3⟩ := h
    refine ⟨a, xs, h1, h2, ?_⟩
    have key : ∀ (l : List (Tre n)) (xs : List V), All2 (fun t v H => TrV K n t v H) l xs H → All2 (fun t v H => TrV K (n + 1) t v H) (l.map (lift1 n)) xs H := by
      intro l xs h
      refine ⟨h.1.trans (List.length_map ..).symm, fun i u x hu hx => ?_⟩
      rw [List.getElem?_map] at hu
      cases e : l[i]? with
      | none =>
        rw [e] at hu
        cases hu
      | some y =>
        rw [e] at hu
        rw [← Option.some.inj hu]
        exact trV_lift n y x (h.2 i y x e hx)
    exact key l xs h3
theorem slim_lift : ∀ (n : Nat) (t : Tre n), slim n t = true → slim (n + 1) (lift1 n t) = true
  | 0, _, _ => rfl
  | n + 1, l, h => by
    obtain ⟨h1, h2⟩ := (slim_iff n l).mp h
    refine (slim_iff (n + 1) (List.map (lift1 n) (l : List (Tre n)))).mpr ⟨by rw [List.length_map (as := (l : List (Tre n)))]; exact h1, fun x hx => ?_⟩
    obtain ⟨y, hy, rfl⟩ := List.mem_map.mp hx
    exact slim_lift n y (h2 y hy)
theorem lsts_lift : ∀ (n : Nat) (t : Tre n), lsts (n + 1) (lift1 n t) = lsts n t
  | 0, _ => rfl
  | n + 1, [] => rfl
  | n + 1, x :: l => by
    show 1 + (((x :: l).map (lift1 n)).map (lsts (n + 1))).sum = 1 + ((x :: l).map (lsts n)).sum
    rw [List.map_map]
    congr 2
    exact List.map_congr_left fun y _ => lsts_lift n y
def spTree3 (K : PySem.W.Frag) : Sp := fun vs H Q _ => ∃ (st g sm : Addr) (fl room : Int), vs = [.ref st, .int fl, .int room] ∧ DrawSt H st g sm ∧ 1 ≤ fl ∧ fl ≤ 3 ∧ 1 ≤ room ∧ room ≤ 5 ∧
  ∀ (t : Tre 3) (v : V) (H' : Hp), TrV K 3 t v H' → slim 3 t = true → lsts 3 t ≤ 5 → Hc.Ext (Dr st g) H H' → DrawSt H' st g sm → Q v H'
section
variable {P : Program} {w : World} {K : PySem.W.Frag} {mg : Str → Option Value} {base : Heap} {C : Addr} {f : Addr} {fd : FuncData}
theorem fn_tree (F : Fun K "_law_tree" "_law_tree" sTree f fd) (g : mg "_law_tree" = some (.ref f)) (b : Binds K fd ["_law_state", "_law_floors", "_law_room"] []) (T : TxtT mg) (rD : Rd P w K mg base "_law_draw" 1 ["_law_state", "_law_many"] spDraw)
    (rL : ∀ n, n ≤ 3 → Rd P w K mg base "_law_lists" (1 + n) ["_law_tree_here"] (spLists K n)) : ∀ m, m ≤ 2 → FnOk P w K mg base CX0 (5 + m) f fd ["_law_state", "_law_floors", "_law_room"] (spTree K m)
  | 0, h => (ok_tree1 F T (rD.mono (by decide)) (rL 0 (by omega)) (rd_no F g b 1) h (.inl rfl)).mono (by decide)
  | m + 1, h => ok_tree1 F T (rD.mono (show 1 ≤ 5 + m by omega)) ((rL (m + 1) (by omega)).mono (show 1 + (m + 1) ≤ 5 + m by omega)) ⟨f, fd, g, F.kp, b, fn_tree F g b T rD rL m (by omega)⟩ h (.inr ⟨m, rfl, rfl⟩)
theorem fn_tree3 (h : ∀ m, m ≤ 2 → FnOk P w K mg base CX0 (5 + m) f fd ["_law_state", "_law_floors", "_law_room"] (spTree K m)) : FnOk P w K mg base CX0 7 f fd ["_law_state", "_law_floors", "_law_room"] (spTree3 K) := by
  have key : ∀ vs H Q E, spTree3 K vs H Q E → ∃ m, m ≤ 2 ∧ spTree K m vs H Q E := by
    rintro vs H Q E ⟨st, g, sm, fl, room, rfl, d, f1, f3, r1, r5, q⟩
    have hfl : fl = 1 ∨ fl = 2 ∨ fl = 3 := by omega
    rcases hfl with rfl | rfl | rfl
    · refine ⟨0, by decide, st, g, sm, room, rfl, d, r1, r5, fun t v H' ht hs hl e d' => q (lift1 2 (lift1 1 t)) v H' (trV_lift 2 _ v (trV_lift 1 t v ht)) (slim_lift 2 _ (slim_lift 1 t hs)) ?_ e d'⟩
      rw [lsts_lift, lsts_lift]
      have hl' : ((lsts 1 t : Nat) : Int) ≤ room := hl
      omega
    · refine ⟨1, by decide, st, g, sm, room, rfl, d, r1, r5, fun t v H' ht hs hl e d' => q (lift1 2 t) v H' (trV_lift 2 t v ht) (slim_lift 2 t hs) ?_ e d'⟩
      rw [lsts_lift]
      have hl' : ((lsts 2 t : Nat) : Int) ≤ room := hl
      omega
    · refine ⟨2, by decide, st, g, sm, room, rfl, d, r1, r5, fun t v H' ht hs hl e d' => q t v H' ht hs ?_ e d'⟩
      have hl' : ((lsts 3 t : Nat) : Int) ≤ room := hl
      omega
  refine ⟨fun vs H Q E hq => ?_, fun A outer s H args us vs Q E hr he hb hv hq => ?_⟩
  · obtain ⟨m, hm, hq⟩ := key vs H Q E hq
    exact (h m hm).len vs H Q E hq
  · obtain ⟨m, hm, hq⟩ := key vs H Q E hq
    exact ((h m hm).mono (show 5 + m ≤ 7 by omega)).run A outer s H args us vs Q E hr he hb hv hq
end
end Hs

set_option maxHeartbeats 4000000
/-! Exceptions of the text's own classes as values, over any built-in base: made by their own maker, their fields stored and read, isinstance. -/
namespace PySem
namespace HcX
open PySem.W PySem.Calls PyProof.Rows PySem.HandSPX
open Builtin Builtin.ObjectAttr
section
variable {prog : Program} {w : World} {A : Around} {E : Value → Shared → Prop} {R : Result → Shared → Prop} {hp : Heap} {g : Array GenState} {d : Drawn} {t : Nat} {os : OsState} {K : W.Frag} {B : String} {bmB : List Value}
/-- the first field of an exception that has no dict yet -/
theorem first_field {name : Str} {tk : Tok} {v : Value} {x C : Addr} {fv : Array Value} (SF : StoreFacts B bmB "object.__setattr__" "object") (X : K.In hp) (hx : hp.get? x = some { cls := .ref C, data := .fields fv })
    (ov : excOver K C bmB = true) (hd : hasDictIn K C = true) (ha : findIn K (.ref C) name = some none)
    (hq : ∀ h' tk' dx, (∀ b o, b ≠ x → hp.get? b = some o → h'.get? b = some o) → hp.objs.size ≤ dx → dx ≠ x → h'.get? x = some { cls := .ref C, dict := some dx, data := .fields fv } →
      h'.Ns1 dx (fun y => if y = name then some v else none) → R (.ok (.ret .none)) ⟨h', g, d, tk', os⟩) :
    codeAny (model prog w) A (.call (.builtin "object.__setattr__") ⟨[.ref x, .str name tk, v], []⟩) R ⟨hp, g, d, t, os⟩ := by
  obtain ⟨cd, hcd, hh⟩ := any_some hd
  have far : x ≠ hp.objs.size := Nat.ne_of_lt (Heap.lt_size hx)
  have taker : takerIn K C name = some none := by
    unfold takerIn
    rw [ha] <;> rfl
  have look : Looks (model prog w) hp (classData C) cd := looks_clsIn X hcd
  refine osa_openX (od := none) (r := none) SF X ⟨hx, rfl, rfl, trivial⟩ ov taker fun b => ?_
  show wpAny _ _ (storeInOwnDict (.ref x) (.ref C) (.str name tk) name v b) _ _ _
  obtain ⟨n1, n2, n3, n4, n5, dct, n6, n7, n8, n9, n10⟩ := cd
  have e : dct = true := hh
  subst e
  unfold storeInOwnDict ownDictForStores
  repeat (first | with_reducible refine store_in_new ?_ ?_ | with_reducible refine wpAny_loadPart_at hx ?_ | with_reducible refine look.at ?_ | wp_step)
  · exact ⟨_, #[], _, (Heap.get?_update_ne _ _ _ _ far.symm).trans (Heap.get?_push_at rfl rfl), rfl, fun e he => absurd he (by simp), fun _ => rfl⟩
  · intro h' tk' hn' hs
    have there : (hp.push { cls := .type "dict", data := .dict #[] }).get? x = some { cls := .ref C, data := .fields fv } := Heap.get?_push_of_some _ hx
    exact hq h' tk' hp.objs.size (fun b o hb ho => (hs.2 b (Nat.ne_of_lt (Heap.lt_size ho))).trans ((Heap.get?_update_ne _ _ _ _ hb).trans (Heap.get?_push_of_some _ ho))) (Nat.le_refl _) far.symm
      ((hs.2 x far).trans (Heap.get?_update_self _ there rfl)) hn'
/-- a further field -/
theorem next_field {name : Str} {tk : Tok} {v : Value} {x C dx : Addr} {fv : Array Value} {m0 : Str → Option Value} {nl : List Str} (SF : StoreFacts B bmB "object.__setattr__" "object") (X : K.In hp)
    (hx : hp.get? x = some { cls := .ref C, dict := some dx, data := .fields fv }) (hns : hp.Ns1 dx m0) (hw : Within m0 nl) (hz : nl.length ≤ 1000) (ov : excOver K C bmB = true) (hd : hasDictIn K C = true) (ha : findIn K (.ref C) name = some none)
    (hq : ∀ h' tk', (∀ b o, b ≠ dx → hp.get? b = some o → h'.get? b = some o) → h'.Ns1 dx (fun y => if y = name then some v else m0 y) → R (.ok (.ret .none)) ⟨h', g, d, tk', os⟩) :
    codeAny (model prog w) A (.call (.builtin "object.__setattr__") ⟨[.ref x, .str name tk, v], []⟩) R ⟨hp, g, d, t, os⟩ := by
  obtain ⟨oD, _, _, hoD, _, _⟩ := hns.count hw
  obtain ⟨cd, hcd, hh⟩ := any_some hd
  have taker : takerIn K C name = some none := by
    unfold takerIn
    rw [ha] <;> rfl
  have look : Looks (model prog w) hp (classData C) cd := looks_clsIn X hcd
  refine osa_openX (od := some oD) (r := none) SF X ⟨hx, rfl, rfl, hoD⟩ ov taker fun b => ?_
  show wpAny _ _ (storeInOwnDict (.ref x) (.ref C) (.str name tk) name v b) _ _ _
  obtain ⟨n1, n2, n3, n4, n5, dct, n6, n7, n8, n9, n10⟩ := cd
  have e : dct = true := hh
  subst e
  unfold storeInOwnDict ownDictForStores
  repeat (first | with_reducible refine OEX.store_in_old hns hw hz ?_ | with_reducible refine wpAny_loadPart_at hx ?_ | with_reducible refine look.at ?_ | wp_step)
  exact fun h' tk' hn' hs => hq h' tk' (fun b o hb ho => (hs.2 b hb).trans ho) hn'
end
end HcX
end PySem

namespace Hc
open PySem PySem.Spec PyProof.Rows L2
/-- what the written part says of an own exception class over B -/
structure Xc (K : PySem.W.Frag) (C : Addr) (bmB : List Value) (newId : String) : Prop where
  ini : PySem.W.excInitIn K C bmB newId = true
  ov : PySem.W.excOver K C bmB = true
  hd : PySem.W.hasDictIn K C = true
  sa : PySem.W.findIn K (.ref C) "__setattr__" = some (some (.builtin "object.__setattr__"))
  kC : PySem.W.keepIn K (.ref C) = true
  xf : XfC K C
  ex : ExcC K C

section
variable {X : Cx} {pins : List (Addr × Obj)} {σ : L2.St} {H : Hp} {s : Shared} {a C dx : Addr} {f : Str} {y : V} {u : Value} {fs : List (Str × V)} {Q : Unit → Shared → Prop} {E : Value → Shared → Prop} {A : Around} {B newId : String} {bmB : List Value}
/-- self.f = y, the first -/
theorem xst_new (SF : StoreFacts B bmB "object.__setattr__" "object") (T : Xc X.K C bmB newId) (I : Inv X pins σ H s) (e : H a = some (exo a C none)) (hno : PySem.W.findIn X.K (.ref C) f = some none) (ry : RelV y u)
    (h : ∀ dx s', H dx = none → dx ≠ a → Inv X pins σ (upd (upd H dx (exd dx [(f, y)])) a (exo a C (some dx))) s' → Q () s') : wpAny (model X.prog X.w) A (setAttr (.ref a) f u) Q E s := by
  obtain ⟨t1, ho⟩ := exo_at I.hok e
  obtain ⟨hp, g, d, t, os⟩ := s
  refine PySem.W.set_plain I.kIn (ox := { cls := .ref C, dict := none, data := .fields #[.ref t1, .none, .none, .none, .bool false, .none] }) (od := none) ⟨ho, rfl, rfl, trivial⟩ T.sa ?_
  refine PySem.HcX.first_field SF I.kIn ho T.ov T.hd hno fun h' tk' dx k dn dne hx hn => ?_
  have hnd : H dx = none := I.hok.fresh dn
  have nd : ∀ {b : Addr} {o : Obj}, hp.get? b = some o → b ≠ dx := fun {b o} q => Nat.ne_of_lt (Nat.lt_of_lt_of_le (Heap.lt_size q) dn)
  have na : ∀ {b : Addr}, H b = none → b ≠ a := fun {b} n z => by
    rw [z, e] at n
    cases n
  have U : Un X.fs [] H (upd (upd H dx (exd dx [(f, y)])) a (exo a C (some dx))) hp h' := {
    keep := fun b o q n _ _ => k b o (na n) q
    slot := fun b o q n _ _ => ⟨o.slots, k b o (na n) q⟩
    free := fun b o q n _ => (upd_ne (na n)).trans ((upd_ne (nd q)).trans n)
    there := fun b o q _ => by
      by_cases hb : b = a
      · exact ⟨_, hb ▸ hx⟩
      · exact ⟨o, k b o hb q⟩
    tups := fun b xs q => (upd_ne (at_ne e q exo_tup)).trans ((upd_ne (ne_of_none q hnd)).trans q)
    frzs := fun b o v q => (upd_ne (at_ne e q exo_frz)).trans ((upd_ne (ne_of_none q hnd)).trans q)
    tbls := fun b ps q => ⟨#[], by rw [upd_ne (at_ne e q exo_tbl), upd_ne (ne_of_none q hnd), q]; simp⟩ }
  refine h dx _ hnd dne (I.un (t' := tk') U fun b o q => ?_)
  by_cases hb : b = a
  · subst hb
    rw [upd_same] at q
    cases q
    exact exo_ok hx
  · rw [upd_ne hb] at q
    by_cases hd : b = dx
    · subst hd
      rw [upd_same] at q
      cases q
      exact exd_ok hn (relO_put (fs := []) ry fun _ => trivial)
    · rw [upd_ne hd] at q
      refine (I.hok b o q).stay (fun c v hc z => k c v (hc.elim (fun i => i ▸ hb) fun i => at_ne e i exo_own) z) (fun c hc => ?_) fun c xs hc => ?_
      · exact (upd_ne (at_ne e hc exo_own)).trans ((upd_ne (ne_of_none hc hnd)).trans hc)
      · exact (upd_ne (at_ne e hc exo_tup)).trans ((upd_ne (ne_of_none hc hnd)).trans hc)
/-- self.f = y, a further one -/
theorem xst_old (SF : StoreFacts B bmB "object.__setattr__" "object") (T : Xc X.K C bmB newId) (I : Inv X pins σ H s) (e : H a = some (exo a C (some dx))) (ed : H dx = some (exd dx fs)) (hl : fs.length ≤ 900) (hno : PySem.W.findIn X.K (.ref C) f = some none) (ry : RelV y u)
    (h : ∀ s', Inv X pins σ (upd H dx (exd dx ((f, y) :: fs))) s' → Q () s') : wpAny (model X.prog X.w) A (setAttr (.ref a) f u) Q E s := by
  obtain ⟨t1, ho⟩ := exo_at I.hok e
  obtain ⟨mA, hns, rel⟩ := exd_at I.hok ed
  have hw := within_of rel
  obtain ⟨hp, g, d, t, os⟩ := s
  obtain ⟨oD, _, _, hoD, _, _⟩ := hns.count hw
  refine PySem.W.set_plain I.kIn (ox := { cls := .ref C, dict := some dx, data := .fields #[.ref t1, .none, .none, .none, .bool false, .none] }) (od := some oD) ⟨ho, rfl, rfl, hoD⟩ T.sa ?_
  refine PySem.HcX.next_field SF I.kIn ho hns hw (by rw [List.length_map]; omega) T.ov T.hd hno fun h' tk' k hn => ?_
  obtain ⟨o2, _, _, e2, _⟩ := id hn
  exact h _ (I.write (t' := tk') (x := dx) (e := dx) (o := exd dx ((f, y) :: fs)) (by rw [ed]; exact True.intro) (.inl rfl) k ⟨o2, e2⟩ (exd_ok hn (relO_put ry rel)))
end

/-- self.f = e in an exception's maker -/
def tXst (K : PySem.W.Frag) (bmB : List Value) (newId : String) (f : Str) (to te : TE) : TS := fun D σ H => te σ H fun y H1 => to σ H1 fun x H2 => ∃ a C : Addr, x = .ref a ∧ Xc K C bmB newId ∧ PySem.W.findIn K (.ref C) f = some none ∧
  ((H2 a = some (exo a C none) ∧ ∀ dx, H2 dx = none → dx ≠ a → D.nx σ (upd (upd H2 dx (exd dx [(f, y)])) a (exo a C (some dx)))) ∨
    ∃ (dx : Addr) (fs : List (Str × V)), H2 a = some (exo a C (some dx)) ∧ H2 dx = some (exd dx fs) ∧ fs.length ≤ 900 ∧ D.nx σ (upd H2 dx (exd dx ((f, y) :: fs))))
/-- C(e, ..) as a value, C's own maker keeping sp -/
def tXmk (C : Addr) (sp : Sp) (ta : TA) : TE := fun σ H Q => ta σ H fun vs H1 => vs.length ≤ 1000 ∧ ∀ a, H1 a = none → sp (.ref a :: vs) (upd H1 a (exo a C none)) (fun v H2 => v = .non ∧ Q (.ref a) H2) (fun _ _ _ => False)
/-- e.f of an exception that has its dict -/
def tXfd (K : PySem.W.Frag) (f : Str) (te : TE) : TE := fun σ H Q => te σ H fun x H1 => ∃ (a C dd : Addr) (fs : List (Str × V)) (v : V), x = .ref a ∧ H1 a = some (exo a C (some dd)) ∧ H1 dd = some (exd dd fs) ∧ XfC K C ∧ PySem.W.findIn K (.ref C) f = some none ∧ fs.lookup f = some v ∧ Q v H1
/-- isinstance(e, c) of an exception -/
def rXis (K : PySem.W.Frag) : List V → Hp → VK → Prop := fun xs H Q => ∃ (a C : Addr) (c : V) (u : Value) (b : Bool), xs = [.ref a, c] ∧ ClsV c u ∧ ExcC K C ∧ (H a = some (exo a C none) ∨ ∃ (dd : Addr) (fs : List (Str × V)), H a = some (exo a C (some dd)) ∧ H dd = some (exd dd fs)) ∧ PySem.W.kitOne K (.ref C) u = some b ∧ Q (.bl b) H

section
variable {X : Cx} {o e : Expr} {es : List Expr} {to te : TE} {ta : TA} {f : Str} {p p' p1 p2 pos : Pos} {B newId initId : String} {bmB : List Value}
theorem ps_xst (SF : StoreFacts B bmB "object.__setattr__" "object") (ho : PE X o to) (he : PE X e te) (hs : swapsWith e (some (.Attribute o f p')) pos.line X.env = pure false := by rfl) : PS X (.Assign [.Attribute o f p'] e pos) (tXst X.K bmB newId f to te) := by
  refine ⟨fun pins s σ H D I h => ?_⟩
  refine plainObj_wpAny_Assign_Attribute (thn (he.run pins s σ H _ I h) fun v s1 ⟨y, H1, I1, r1, q1⟩ => thn (ho.run pins s1 σ H1 _ I1 q1) fun u s2 ⟨x, H2, I2, r2, a, C, ex, T, hno, q⟩ => ?_) hs
  subst ex
  cases (show u = Value.ref a from r2)
  rcases q with ⟨ea, q⟩ | ⟨dx, fs, ea, ed, hl, q⟩
  · exact xst_new SF T I2 ea hno r1 fun dx s' n ne J => ⟨σ, _, J, q dx n ne⟩
  · exact xst_old SF T I2 ea ed hl hno r1 fun s' J => ⟨σ, _, J, q⟩
theorem pe_xmk {x : Str} {C fI : Addr} {k : Nat} {fd : FuncData} {ps : List Str} {sp : Sp} (FB : ExcBaseFacts B newId initId bmB) (T : Xc X.K C bmB newId) (iC : PySem.W.findIn X.K (.ref C) "__init__" = some (some (.ref fI))) (tI : PySem.W.isFn X.K (.ref fI) = true)
    (F1 : FnOk X.prog X.w X.K X.mg X.base CX0 k fI fd ps sp) (hr : Room (k + 1) X.A) (hb : Binds X.K fd ps []) (hg : Gl X x) (hm : X.mg x = some (.ref C)) (ha : PA X (e :: es) ta)
    (hdb : (x == ("__debug__" : Str)) = false := by decide) (he : starEach (e :: es) X.env = (false, eval e X.env) :: starEach es X.env := by rfl) (hpl : (backTo pos (starEach es X.env)).any (·.1) = false := by rfl) :
    PE X (.Call (.Name x p) (e :: es) [] pos) (tXmk C sp ta) := by
  refine ⟨fun pins s σ H Q I h => ?_⟩
  refine wpAny_Call_Name_kw (ld_glob I hg hm ?_ hdb)
  refine PySem.W.callWith_K (h₀ := X.base) I.ok.mod.kin T.kC (thn (ha.run pos pins s σ H _ I h) fun us s1 ⟨vs, H1, I1, r1, hz, q1⟩ => ⟨I1.kIn, ?_⟩) he hpl
  show wpAny _ _ (call (.ref C) us) _ _ _
  obtain ⟨hp, g, dr, tk, os⟩ := s1
  obtain ⟨nm, N, qn, bs, bm, hdct, sn, sub, ab, col, dd, k0, k1, k2, k3, k5, hC, hT⟩ := PySem.W.excInit_of I1.kIn T.ini
  have hn : H1 (hp.objs.size + 1) = none := I1.hok.fresh (Nat.le_succ _)
  have kk : ∀ b o, hp.get? b = some o → ((hp.push (PySem.W.kdv_tup us)).push (PySem.HandSPX.excO C hp.objs.size)).get? b = some o := fun b o z => Heap.get?_push_of_some _ (Heap.get?_push_of_some _ z)
  have hget : ((hp.push (PySem.W.kdv_tup us)).push (PySem.HandSPX.excO C hp.objs.size)).get? (hp.objs.size + 1) = some (PySem.HandSPX.excO C hp.objs.size) := by heap_get
  have I2 : Inv X pins σ (upd H1 (hp.objs.size + 1) (exo (hp.objs.size + 1) C none)) ⟨(hp.push (PySem.W.kdv_tup us)).push (PySem.HandSPX.excO C hp.objs.size), g, dr, tk, os⟩ :=
    I1.laid (t' := tk) (a := hp.objs.size + 1) (o := exo (hp.objs.size + 1) C none) (h' := (hp.push (PySem.W.kdv_tup us)).push (PySem.HandSPX.excO C hp.objs.size)) kk (Nat.le_succ _) (exo_ok hget)
  have hq := q1 (hp.objs.size + 1) hn
  have r2 : Vals (V.ref (hp.objs.size + 1) :: vs) (Value.ref (hp.objs.size + 1) :: us) := .cons rfl r1
  have hl : (Value.ref (hp.objs.size + 1) :: us).length = ps.length := by rw [← r2.length, F1.len _ _ _ _ hq]
  have hus : us.length ≤ sizeLine := by
    rw [← r1.length, sizeLine_eq]
    omega
  have hb' := hb ⟨(hp.push (PySem.W.kdv_tup us)).push (PySem.HandSPX.excO C hp.objs.size), g, dr, tk, os⟩ (Value.ref (hp.objs.size + 1) :: us) I2.kIn (by rw [List.append_nil]; exact hl)
  rw [List.append_nil] at hb'
  refine wpAny_call (PySem.HandSPX.call_own FB hT hC (PySem.W.looks_findIn I1.kIn iC) (fun self => PySem.W.bind_fn I1.kIn self (beq_iff_eq.mp tI)) hus
    (codeAny_mono (F1.run _ X.stack _ _ ⟨Value.ref (hp.objs.size + 1) :: us, []⟩ _ _ _ (fun _ _ _ => False) (hr.make C us []) (I2.env0.make C us []) hb' r2 hq) fun r s' z => ?_))
  cases r with
  | error er => exact False.elim z
  | ok fl =>
    cases fl with
    | ret u =>
      obtain ⟨v, H2, os2, bare2, un2, hok2, rv, ev, q2⟩ := z
      subst ev
      refine ⟨rv, ?_⟩
      refine I1.after (Q := Q) ⟨.ref (hp.objs.size + 1), H2, os2, bare2, ?_, hok2, rfl, q2⟩
      exact (Un.laid (fs := frs X.stack) (ex := []) (o := exo (hp.objs.size + 1) C none) kk (Nat.le_succ _) hn).trans un2
    | next => exact False.elim z
    | brk => exact False.elim z
    | cont => exact False.elim z
/-- what is made of a class without a maker of its own -/
theorem xplain {pins : List (Addr × Obj)} {σ : L2.St} {H : Hp} {s : Shared} {Q : VK} {C : Addr} {vs : List V} {us : List Value} (FB : ExcBaseFacts B newId initId bmB) (q : PySem.W.excIn X.K C bmB newId = true) (I : Inv X pins σ H s) (r : Vals vs us) (hz : vs.length ≤ 1000)
    (q1 : ∀ a, H a = none → Q (.ref a) (upd H a (exo a C none))) : wpAny (model X.prog X.w) X.A (call (.ref C) us) (EP X pins σ Q) X.xe s := by
  obtain ⟨bm, N, nm, qn, bs, hdct, sn, sub, ab, col, dd, k0, k1, k2, k3, k5, mN, hC, hN, hni, T⟩ := exc_obj I.kIn q
  refine wpAny_call_exc_subT FB T hC hN hni (fun h' a hm => ?_) (by rw [← r.length, sizeLine_eq]; omega)
  have hn : H a = none := I.hok.gone hm.new
  obtain ⟨t, ht, _, _⟩ := hm.there
  exact ⟨.ref a, upd H a (exo a C none), I.laidN hm.keeps hm.new hn (exo_ok ht), rfl, q1 a hn⟩
/-- C(e) of such a class: a new exception object -/
theorem pe_xplain1 {x : Str} {C : Addr} (FB : ExcBaseFacts B newId initId bmB) (q : PySem.W.excIn X.K C bmB newId = true) (gC : X.mg x = some (.ref C)) (kC : PySem.W.keepIn X.K (.ref C) = true) (hg : Gl X x) (ha : PA X (e :: es) ta)
    (hdb : (x == ("__debug__" : Str)) = false := by decide) (he : starEach (e :: es) X.env = (false, eval e X.env) :: starEach es X.env := by rfl) (hpl : (backTo pos (starEach es X.env)).any (·.1) = false := by rfl) :
    PE X (.Call (.Name x p) (e :: es) [] pos) (fun σ H Q => ta σ H fun vs H1 => vs.length ≤ 1000 ∧ ∀ a, H1 a = none → Q (.ref a) (upd H1 a (exo a C none))) := by
  refine ⟨fun pins s σ H Q I h => wpAny_Call_Name_kw (ld_glob I hg gC ?_ hdb)⟩
  exact PySem.W.callWith_K (h₀ := X.base) I.ok.mod.kin kC (thn (ha.run pos pins s σ H _ I h) fun us s1 ⟨vs, H1, I1, r1, hz, q1⟩ => ⟨I1.kIn, xplain FB q I1 r1 hz q1⟩) he hpl
/-- C() of such a class -/
theorem pe_xplain0 {x : Str} {C : Addr} (FB : ExcBaseFacts B newId initId bmB) (q : PySem.W.excIn X.K C bmB newId = true) (gC : X.mg x = some (.ref C)) (kC : PySem.W.keepIn X.K (.ref C) = true) (hg : Gl X x)
    (hdb : (x == ("__debug__" : Str)) = false := by decide) :
    PE X (.Call (.Name x p) [] [] pos) (fun σ H Q => ∀ a, H a = none → Q (.ref a) (upd H a (exo a C none))) := by
  refine ⟨fun pins s σ H Q I h => wpAny_Call_Name_kw (ld_glob I hg gC ?_ hdb)⟩
  exact PySem.W.callWith_K0 I.kIn kC (xplain (us := []) FB q I .nil (by decide) h)
theorem pe_xfd (he : PE X e te) (hb : attributeBase e f X.env (eval e X.env) = eval e X.env := by rfl) : PE X (.Attribute e f pos) (tXfd X.K f te) := by
  refine ⟨fun pins s σ H Q I h => ?_⟩
  refine attr_of hb (thn (he.run pins s σ H _ I h) fun u s1 ⟨x, H1, I1, rx, a, C, dd, fs, v, ex, ea, ed, T, hno, l, q⟩ => ?_)
  subst ex
  cases (show u = Value.ref a from rx)
  obtain ⟨t1, ho⟩ := exo_at I1.hok ea
  obtain ⟨mA, hns, hr⟩ := exd_at I1.hok ed
  obtain ⟨od, hod, hl⟩ := lookIn_ns hns
  obtain ⟨w', hu, ru⟩ := RelO.some_of (v := v) (o := mA f) (by rw [← l]; exact hr f)
  have J : PySem.W.InstAt s1.heap a _ C (some od) := ⟨ho, rfl, rfl, hod⟩
  exact HandSPX.exc_get I1.kIn J T.ga T.gg T.exC (PySem.W.findObj_own T.hdC hno rfl (by rw [hl, hu])) (handed_of ru) ⟨v, H1, I1.tok _, ru, q⟩
end
end Hc

namespace PySem.W
open PySem PySem.Spec PySem.Calls PyProof.Rows
section
variable {prog : Program} {w : World} {A : Around} {E : Value → Shared → Prop} {s : Shared} {K : Frag} {x D : Addr} {ox : Obj}
/-- e.__class__ of an exception that has a dict -/
theorem hc_classD {od : Obj} {Q : Option Value → Shared → Prop} (C : L2.ExcC K D) (X : K.In s.heap) (I : InstAt s.heap x ox D (some od)) (h : Q (some (.ref D)) { s with toks := s.toks + 1 }) : wpAny (model prog w) A (getAttr? (.ref x) "__class__") Q E s := by
  have hf : findObj K D (some od) "__class__" = some (.bind (.builtin "getset_descriptor.__get__") (.builtin "object.__class__")) := findObj_data (by obtain ⟨cd, hc, _⟩ := any_some C.hd; rw [hc]; rfl) C.ha C.hn C.ht
  obtain ⟨hp, g, d, t, os⟩ := s
  have M0 := I.type (M := model prog w)
  have M1 := looks_findIn (M := model prog w) X C.hg
  have M2 := looks_findIn (M := model prog w) X C.hk
  have M3 := looks_find (M := model prog w) X I hf
  have isB : Looks (model prog w) hp (isInstance (.ref x) (.type "BaseException")) true := M0.andThen (looks_subIn X C.hs)
  have n1 : (Value.builtin "BaseException.__getattribute__" == Value.builtin "object.__getattribute__") = false := by decide +kernel
  have n2 : (onTheHeap (Value.ref D) && Value.builtin "BaseException.__getattribute__" == Value.builtin "object.__getattribute__") = false := by rw [n1] <;> rfl
  unfold getAttr? getAttrBy? getAttrBy
  refine wpAny_bind (wpAny_mkText (wpAny_bind (wpAny_attempt (wpAny_holding (wpAny_bind (M0.at (wpAny_bind (M1.at ?_))))))))
  show wpAny _ _ (if (onTheHeap (Value.ref D) && Value.builtin "BaseException.__getattribute__" == Value.builtin "object.__getattribute__") = true then _ else _) _ _ _
  rw [n2, if_neg Bool.false_ne_true]
  unfold getAttrByItsOwn hookBefore
  refine wpAny_bind ?_
  rw [if_pos (show onTheHeap (Value.ref D) = true from rfl)]
  refine M2.at (wpAny_bind (wpAny_attempt (wpAny_holding ?_)))
  unfold callGetattribute
  rw [if_neg (show ¬ (false && onTheHeap (Value.builtin "BaseException.__getattribute__")) = true from Bool.false_ne_true)]
  unfold boundAndCalled
  rw [PySem.F.excAttr_ValueError.ga.bind (.ref x)]
  refine wpAny_bind (wpAny_pure ?_)
  show wpAny _ _ (call (.builtin "BaseException.__getattribute__") [.ref x, .str "__class__" t]) _ _ _
  refine wpAny_call (codeAny_call_builtin PySem.F.excAttr_ValueError.ga.plain PySem.F.entry_bexc_ga ?_)
  refine @check_slot (model prog w) _ _ ⟨hp, g, d, t + 1, os⟩ "BaseException.__getattribute__" "BaseException" "__getattribute__" (.ref x) [.str "__class__" t] [] _ (by decide +kernel) (by decide +kernel) isB (PySem.F.args_bexc_ga (.ref x) (.str "__class__" t)) ?_
  unfold Builtin.«object.__getattribute__»
  refine wpAny_bind (wpAny_of_eq (a := ((Value.ref x : Value), [Value.str "__class__" t])) (by first | rfl | (simp only [slotArgs]; rfl)) ?_)
  refine wpAny_bind (wpAny_pure (wpAny_bind (M0.at (wpAny_bind (M3.at ?_)))))
  show wpAny _ _ (holding [Value.builtin "object.__class__"] (call (.builtin "getset_descriptor.__get__") [.builtin "object.__class__", .ref x, .ref D]) >>= ret) _ _ _
  refine wpAny_bind (wpAny_holding (wpAny_call (class_get (s := ⟨hp, g, d, t + 1, os⟩) (ox := ox) (od := some od) X I C.hm ?_)))
  refine wpAny_pure ?_
  show wpAny _ _ (handedOut (.ref D)) _ _ _
  rw [handedOut_of (v := .ref D) rfl]
  first
    | exact wpAny_pure (wpAny_pure h)
    | exact wpAny_pure h
    | exact wpAny_pure (wpAny_bind (wpAny_pure (wpAny_pure h)))
theorem hc_kitD {od : Obj} (C : L2.ExcC K D) : KitX K (.ref x) (.ref D) (fun h => InstAt h x ox D (some od)) where
  ty := fun _ _ _ I => I.type
  it := fun M h X _ => by
    obtain ⟨cd, hc, hh⟩ := any_some C.hd
    clear hh
    unfold clsIn at hc
    split at hc
    · rename_i ho
      intro A' Q' E' s' k q
      unfold isType loadHead
      exact wpAny_bind (wpAny_loadPart (k _ _ (X _ _ ho)) (wpAny_pure q))
    · cases hc
  ne := (handS_kitx_exc (x := x) (ox := ox) C.hg C.hk C.hs C.hd C.ha C.hn C.ht C.hm).ne
  ca := fun X I k => hc_classD C X I k
end
end PySem.W

namespace Hc
open PySem PySem.Spec PyProof.Rows L2
theorem call_xis {X : Cx} : CallR X (.builtin "isinstance") (rXis X.K) := by
  intro pins s σ H xs us Q I r h
  obtain ⟨a, C, c, cv, b, rfl, hcv, T, ho, e, q⟩ := h
  obtain ⟨u1, u2, rfl, r1, r2⟩ := vals2 r
  cases (show u1 = Value.ref a from r1)
  have ec := hcv.eq r2
  subst ec
  rcases ho with ho | ⟨dd, fs, ho, hd⟩
  · obtain ⟨t1, hget⟩ := exo_at I.hok ho
    have J : PySem.W.InstAt s.heap a _ C none := ⟨hget, rfl, rfl, trivial⟩
    exact PySem.W.kia_one (PySem.W.handS_kitx_exc T.hg T.hk T.hs T.hd T.ha T.hn T.ht T.hm) I.kIn J e (fun z => nomatch z) fun tk => ⟨.bl b, H, I.tok tk, rfl, q⟩
  · obtain ⟨t1, hget⟩ := exo_at I.hok ho
    obtain ⟨mA, hns, _⟩ := exd_at I.hok hd
    obtain ⟨od, hod, _⟩ := lookIn_ns hns
    have J : PySem.W.InstAt s.heap a _ C (some od) := ⟨hget, rfl, rfl, hod⟩
    exact PySem.W.kia_one (PySem.W.hc_kitD T) I.kIn J e (fun z => nomatch z) fun tk => ⟨.bl b, H, I.tok tk, rfl, q⟩
end Hc

set_option maxHeartbeats 4000000
/-! Shape(x) that raises BadShape, and who catches it. -/
namespace Hs
open PySem PySem.Spec PyProof.Rows L2 Evl Hc
/-! ### C(e) that may raise -/
def tMakeS (C : Addr) (sp : Sp) (E : L2.St → XK) (t : TA) : TE := fun σ H Q => t σ H fun vs H1 => ∀ x dx, H1 x = none → H1 dx = none → dx ≠ x →
  sp (.ref x :: vs) (upd (upd H1 dx (.own x)) x (.ins C dx [])) (fun v H2 => v = .non ∧ Q (.ref x) H2) (E σ)
theorem pe_makeS {X : Cx} {CX : CXT} {C f : Addr} {k : Nat} {fd : FuncData} {ps : List Str} {sp : Sp} {E : L2.St → XK} {x : Str} {e : Expr} {es : List Expr} {t : TA} {p pos : Pos} (M : Mk X.K C f) (F : FnOk X.prog X.w X.K X.mg X.base CX k f fd ps sp) (hr : Room (k + 1) X.A) (hg : Gl X x) (hm : X.mg x = some (.ref C)) (hb : Binds X.K fd ps [])
    (hx : ∀ σ, PassesAt CX X σ (E σ)) (ha : PA X (e :: es) t) (hdb : (x == ("__debug__" : Str)) = false := by decide) (he : starEach (e :: es) X.env = (false, eval e X.env) :: starEach es X.env := by rfl) (hpl : (backTo pos (starEach es X.env)).any (·.1) = false := by rfl) :
    PE X (.Call (.Name x p) (e :: es) [] pos) (tMakeS C sp E t) := by
  refine ⟨fun pins s σ H Q I h => ?_⟩
  refine wpAny_Call_Name_kw (ld_glob I hg hm ?_ hdb)
  refine PySem.W.callWith_K (h₀ := X.base) I.ok.mod.kin M.kp (thn (ha.run pos pins s σ H _ I h) fun us s1 ⟨vs, H1, I1, r, q⟩ => ⟨I1.kIn, ?_⟩) he hpl
  have hq := q (s1.heap.objs.size + 1) s1.heap.objs.size (I1.hok.fresh (Nat.le_succ _)) (I1.hok.fresh (Nat.le_refl _)) (Nat.ne_of_lt (Nat.lt_succ_self _))
  have I2 := Inv.made (C := C) I1
  have r2 : Vals (V.ref (s1.heap.objs.size + 1) :: vs) (Value.ref (s1.heap.objs.size + 1) :: us) := .cons rfl r
  have hl : (Value.ref (s1.heap.objs.size + 1) :: us).length = ps.length := by
    have z := r2.length
    rw [F.len _ _ _ _ hq] at z
    exact z.symm
  have hb2 := hb _ (Value.ref (s1.heap.objs.size + 1) :: us) I2.kIn (by rw [List.append_nil]; exact hl)
  rw [List.append_nil] at hb2
  refine wpAny_call (make_map (f := f) I1.kIn M.makes M.init (beq_iff_eq.mp M.fn) (codeAny_mono (F.run _ X.stack _ _ ⟨Value.ref (s1.heap.objs.size + 1) :: us, []⟩ (Value.ref (s1.heap.objs.size + 1) :: us) _ _ (E σ) (hr.make C us [])
    (I2.env0.make C us []) hb2 r2 hq) fun r s' hq' => ?_))
  cases r with
  | error e => exact hx σ pins _ _ e s' I2 hq'
  | ok fl =>
    cases fl with
    | ret u =>
      obtain ⟨v, H', I3, rv, ev, q3⟩ := I2.after hq'
      subst ev
      exact ⟨rv, ⟨V.ref (s1.heap.objs.size + 1), H', I3, rfl, q3⟩⟩
    | next => exact False.elim hq'
    | brk => exact False.elim hq'
    | cont => exact False.elim hq'
/-- isinstance(e, c), e the caught exception, which has a dict -/
def rIsD (K : PySem.W.Frag) (a : Addr) (cls : Value) (d : Option Addr) : List V → Hp → VK → Prop := fun xs H Q => ∃ (D dd : Addr) (fs : List (Str × V)) (c : V) (cv : Value) (b : Bool), xs = [.ref a, c] ∧ cls = .ref D ∧ d = some dd ∧ H dd = some (.xd fs) ∧ ExcC K D ∧ ClsV c cv ∧ PySem.W.kitOne K (.ref D) cv = some b ∧ Q (.bl b) H
theorem call_isD {X : Cx} {a : Addr} {oe : Obj} {cls : Value} {d : Option Addr} {pn : List (Addr × Obj)} (hz : Zc cls d oe) (hf : ∃ vs, oe.data = .fields vs) : CallR (X.suite a ((a, oe) :: pn)) (.builtin "isinstance") (rIsD X.K a cls d) := by
  intro pins s σ H xs us Q I r h
  obtain ⟨D, dd, fs, c, cv, b, rfl, ec, ed, hdd, C, hcv, e, q⟩ := h
  subst ec ed
  obtain ⟨u1, u2, rfl, r1, r2⟩ := vals2 r
  cases (show u1 = Value.ref a from r1)
  have ec := hcv.eq r2
  subst ec
  obtain ⟨hget, _⟩ := I.pin (a, oe) (List.mem_append.mpr (.inl List.mem_cons_self))
  obtain ⟨vs, hv⟩ := hf
  have hx : ObjOk X.prog X.w H s.heap dd (.xd fs) := I.hok dd _ hdd
  obtain ⟨mA, hns, hrr⟩ := hx
  obtain ⟨od, ho, hl⟩ := lookIn_ns hns
  have J : PySem.W.InstAt s.heap a oe D (some od) := ⟨hget, hz.1, by unfold PySem.W.notCls; rw [hv] <;> rfl, by rw [hz.2]; exact ho⟩
  exact PySem.W.kia_one (PySem.W.hc_kitD C) I.kIn J e (fun z => nomatch z) fun tk => ⟨.bl b, H, I.kept (t' := tk) fun _ _ z => z, rfl, q⟩
/-! ### BadShape -/
structure BsC (K : PySem.W.Frag) (mg : Str → Option Value) (B CH CL fI : Addr) : Prop where
  gB : mg "BadShape" = some (.ref B)
  gH : mg "HandedcopiesError" = some (.ref CH)
  gL : mg "BadLine" = some (.ref CL)
  ox : OexC K B
  iC : PySem.W.findIn K (.ref B) "__init__" = some (some (.ref fI))
  tI : PySem.W.typeIn K (.ref fI) = some (.type "function")
  xf : XfC K B
  noT : PySem.W.findIn K (.ref B) "text" = some none
  xc : ExcC K B
  exm : PySem.W.exmOne K (.ref B) (.ref CH) = some true
  kB : PySem.W.kitOne K (.ref B) (.ref B) = some true
  kL : PySem.W.kitOne K (.ref B) (.ref CL) = some false
  kV : PySem.W.kitOne K (.ref B) (.type "ValueError") = some true
  vE : mg "ValueError" = none
def spBI (B : Addr) : Sp := fun vs H Q _ => ∃ (a : Addr) (y : V), vs = [.ref a, y] ∧ H a = some (exo a B none) ∧ ∀ dx, H dx = none → dx ≠ a → Q .non (upd (upd H dx (exd dx [("text", y)])) a (exo a B (some dx)))
abbrev sBI : Stmt := inClass (top 2) 0
theorem scBI : FnScope ["self", "text"] ["self", "text"] (defScope sBI) := ⟨rfl, rfl, rfl, by decide +kernel, rfl, by decide +kernel, by decide +kernel⟩
section
variable {P : Program} {w : World} {K : PySem.W.Frag} {mg : Str → Option Value} {base : Heap} {B CH CL fB : Addr}
theorem ok_bi {f : Addr} {fd : FuncData} {k : Nat} (F : Fun K "__init__" "BadShape.__init__" sBI f fd) (N : BsC K mg B CH CL fB) : FnOk P w K mg base CX0 (k + 1) f fd ["self", "text"] (spBI B) := by
  refine F.ok scBI (fun vs H Q E h => ?_) (fun cdv A outer s H vs Q E hr h => ?_)
  · obtain ⟨a, y, rfl, _⟩ := h
    rfl
  · obtain ⟨a, y, rfl, ha, q⟩ := h
    refine ⟨_, pss_one (ps_ost (pv 0) (pv 1)), ?_⟩
    exact ⟨_, rfl, _, rfl, a, B, rfl, N.ox, N.noT, .inl ⟨ha, fun dx n ne => q dx n ne⟩⟩
/-- what is no shape -/
def Bad (K : PySem.W.Frag) (y : V) (H : Hp) : Prop := (∃ L, y = .str (S L) ∧ L.length ≤ cap ∧ isShape L = false) ∨ ∃ t, (∀ H1, Ex H H1 → TyX K H1 y t) ∧ PySem.W.kitOne K t (.type "str") = some false
def spBad (K : PySem.W.Frag) (B : Addr) : Sp := fun vs H _ E => ∃ (x : Addr) (y : V), vs = [.ref x, y] ∧ Bad K y H ∧ ∀ d H', Ex H H' → H d = none → H' d = some (.xd [("text", y)]) → E (.ref B) (some d) H'
theorem ok_initB {f : Addr} {fd fdB : FuncData} {j : Nat} (F : Fun K "__init__" "Shape.__init__" sInit f fd) (T : TxtS mg) (N : BsC K mg B CH CL fB) (rI : Rd P w K mg base "is_shape" j ["text"] spShape) (FB : FnOk P w K mg base CX0 1 fB fdB ["self", "text"] (spBI B)) (bB : Binds K fdB ["self", "text"] []) (hj : 2 ≤ j) :
    FnOk P w K mg base (L2.CX P w) (j + 1) f fd ["self", "text"] (spBad K B) := by
  refine F.okX scInit (fun vs H Q E h => ?_) (fun cdv A outer s H vs Q E hr h => ?_)
  · obtain ⟨x, y, rfl, _⟩ := h
    rfl
  · obtain ⟨x, y, rfl, hb, q⟩ := h
    refine ⟨_, pss_cons (ps_if (PW.pt (pw_or (pt_not (pt_val (pe_callB call_isi (by rfl) T.isi boot_isinstance (pa_cons (pv 1) (pa_cons (pe_bltn (v := .ty "str") (by rfl) T.str boot_strT rfl) pa_nil))))) (pw_or1 (pt_not (pt_val (pe_rd rI hr (Nat.le_refl j) (by rfl) (pa_cons (pv 1) pa_nil)))))))
        (pss_one (ps_raise rfl (takes_of rfl rfl rfl rfl) (pmk_oex N.ox N.iC N.tI FB (hr.mono hj) bB .nil pass0 (by rfl) N.gB (pa_cons (pv 1) pa_nil)))) pss_nil)
      (pss_cons ps_never (pss_cons ps_never (pss_cons ps_never (pss_one ps_never)))), ?_⟩
    have et : EvT (tOr (tNot (tB (tCB (rIsi K) (tCons (tVar 1) (tCons (tC (.ty "str")) tNil))))) (tNot (tB (tCall spShape [] E0 (tCons (tVar 1) tNil))))) [some (.ref x), some y, none] H true := by
      rcases hb with ⟨L, rfl, hL, hs⟩ | ⟨t, ht, hk⟩
      · exact et_is (et_or (et_not (et_B (ev_isi (ev_var rfl) ev_c (.ty "str") (fun _ _ => .base (.str _)) (kit_ty rfl)))) fun _ => et_not (et_B (ev_call (ea_cons (ev_var rfl) ea_nil) (sp_shape hL)))) (by rw [hs]; rfl)
      · exact et_is (et_or (b := true) (et_not (et_B (ev_isi (ev_var rfl) ev_c (.ty "str") ht hk))) fun z => nomatch z) rfl
    refine et H (Ex.refl H) _ fun H1 f1 => iteT ?_
    refine ⟨_, rfl, by show 1 ≤ 1000; decide, fun a na => ⟨a, y, rfl, upd_same, fun dx nd ne => ⟨rfl, dx, [("text", y)], upd_same, (upd_ne ne).trans upd_same, (upd_ne ne).symm.trans nd, ?_⟩⟩⟩
    have nd1 : H1 dx = none := (upd_ne ne).symm.trans nd
    refine q dx _ (fun b o hb => ?_) (fresh_back f1 nd1) upd_same
    have h1 := f1 _ _ hb
    have b1 : b ≠ dx := ne_of_none h1 nd1
    have b2 : b ≠ a := ne_of_none h1 na
    rw [upd_ne b1, del_ne b2, upd_ne b2, upd_ne b1, upd_ne b2]
    exact h1
/-! ### _law_refused -/
abbrev sRef : Stmt := top 22
abbrev nRef : List Str := ["_law_thing", "_law_found", "e"]
theorem scRef : FnScope nRef ["_law_thing"] (defScope sRef) := ⟨rfl, rfl, rfl, by decide +kernel, rfl, by decide +kernel, by decide +kernel⟩
theorem q_dropR {σ : L2.St}  {H : Hp} {D : Ends} {te : TE} {tz : TS} {R : V → Hp → Prop} (h : EvR te σ H R) (k : ∀ (v : V) (H1 : Hp), Ex H H1 → tz D σ H1) : tSeq (tDrop te) tz D σ H := h H (Ex.refl H) _ fun v H1 e _ => k v H1 e
theorem ev_isD {σ : L2.St} {H : Hp} {te tc : TE} {a D dd : Addr} {fs : List (Str × V)} {c : V} {cv : Value} {b : Bool} (h : Ev te σ H (.ref a)) (hc : Ev tc σ H c) (hd : H dd = some (.xd fs)) (C : ExcC K D) (hcv : ClsV c cv) (hk : PySem.W.kitOne K (.ref D) cv = some b) : Ev (tCB (rIsD K a (.ref D) (some dd)) (tCons te (tCons tc tNil))) σ H (.bl b) :=
  ev_cb (ea_cons h (ea_cons hc ea_nil)) fun H1 e Q q => ⟨D, dd, fs, c, cv, b, rfl, rfl, rfl, e _ _ hd, C, hcv, hk, q H1 (Ex.refl H1)⟩
theorem ev_xf {σ : L2.St} {H : Hp} {te : TE} {a D dd : Addr} {fs : List (Str × V)} {f : Str} {v : V} (h : Ev te σ H (.ref a)) (hd : H dd = some (.xd fs)) (hl : fs.lookup f = some v) : Ev (tXf a (.ref D) (some dd) D f te) σ H v := fun H1 e Q q =>
  h H1 e _ fun H2 e2 => ⟨rfl, rfl, dd, fs, v, rfl, e2 _ _ (e _ _ hd), hl, q H2 e2⟩
/-- a shape is not refused -/
def spRefN (K : PySem.W.Frag) : Sp := fun vs H Q _ => ∃ t : Tre 3, vs = [.str (S (txt 3 t))] ∧ slim 3 t = true ∧ lsts 3 t ≤ 5 ∧ ∀ H', Ex H H' → Q (.bl false) H'
theorem ok_refN {f : Addr} {fd : FuncData} {k : Nat} {C : Addr} (F : Fun K "_law_refused" "_law_refused" sRef f fd) (rM : Rm P w K mg base "Shape" C k ["self", "text"] (spInit K C 3)) : FnOk P w K mg base CX0 (k + 2) f fd ["_law_thing"] (spRefN K) := by
  refine F.ok scRef (fun vs H Q E h => ?_) (fun cdv A outer s H vs Q E hr h => ?_)
  · obtain ⟨t, rfl, _⟩ := h
    rfl
  · obtain ⟨t, rfl, hs, hl, q⟩ := h
    refine ⟨_, pss_cons (ps_set (i := 1) scRef.nd rfl (.inl rfl) pe_bl) (pss_cons (ps_try_thru0 (pss_one (ps_expr (pe_rm rM hr (Nat.le_refl _) (by rfl) (pa_cons (pv 0) pa_nil))))) (pss_one (ps_ret (pv 1)))), ?_⟩
    refine q_asg ev_c fun H0 e0 => ?_
    refine q_dropR (er_make (ta := tCons (tVar 0) tNil) (σ := [some (.str (S (txt 3 t))), some (.bl false), none]) t (ea_cons (ev_var rfl) ea_nil) hs hl (cap_of (n := 3) (by decide) hs)) fun v H1 e1 => ?_
    exact ⟨_, rfl, q H1 (e0.trans e1)⟩
/-- anything else is -/
def spRefY (K : PySem.W.Frag) (B : Addr) : Sp := fun vs H Q _ => ∃ (y : V) (dt : PyData) (b : Bool) (t : Value), vs = [y] ∧ Bad K y H ∧ (∀ H', Ex H H' → Dp K H' y dt) ∧ SeqAt.shaped dt = true ∧ (∀ H', Ex H H' → TyX K H' y t) ∧ PySem.W.kitOne K t (.type "bool") = some b ∧ ∀ H', Ex H H' → Q (.bl true) H'
theorem Bad.ex {y : V} {H H' : Hp} (h : Bad K y H) (e : Ex H H') : Bad K y H' := by
  rcases h with h | ⟨t, h, hk⟩
  · exact .inl h
  · exact .inr ⟨t, fun H1 e1 => h H1 (e.trans e1), hk⟩
theorem boot_boolT : bootBuiltins "bool" = some (.type "bool") := by decide +kernel
theorem boot_veT : bootBuiltins "ValueError" = some (.type "ValueError") := by decide +kernel
theorem ok_refY {f C fS : Addr} {fd fdS : FuncData} {k : Nat} (F : Fun K "_law_refused" "_law_refused" sRef f fd) (T : TxtS mg) (tB : mg "bool" = none) (N : BsC K mg B CH CL fB) (gS : mg "Shape" = some (.ref C)) (M : Mk K C fS) (FS : FnOk P w K mg base (L2.CX P w) k fS fdS ["self", "text"] (spBad K B)) (bS : Binds K fdS ["self", "text"] []) :
    FnOk P w K mg base CX0 (k + 2) f fd ["_law_thing"] (spRefY K B) := by
  refine F.ok scRef (fun vs H Q E h => ?_) (fun cdv A outer s H vs Q E hr h => ?_)
  · obtain ⟨y, _, _, _, rfl, _⟩ := h
    rfl
  · obtain ⟨y, dt, bb, t, rfl, hb, hd, hsh, ht, hk, q⟩ := h
    refine ⟨_, pss_cons (ps_set (i := 1) scRef.nd rfl (.inl rfl) pe_bl)
      (pss_cons (ps_try_as (i := 2) rfl rfl scRef.nd rfl rfl ⟨rfl, by decide, .inl N.gH⟩ takes0
        (fun W pn xe tk _ => pss_one (ps_expr (pe_makeS M FS hr (by rfl) gS bS (fun σ => passAt tk σ) (pa_cons (pv 0) pa_nil))))
        (fun a oe cls d pn hz hf => pss_cons (ps_set (i := 1) scRef.nd rfl (.inl rfl) (pe_and (pe_callB (call_isD hz hf) (by rfl) T.isi boot_isinstance (pa_cons (pv 2) (pa_cons (pe_glob (v := .ref B) (by rfl) N.gB rfl) pa_nil)))
            (pe_and (pe_not (pe_callB (call_isD hz hf) (by rfl) T.isi boot_isinstance (pa_cons (pv 2) (pa_cons (pe_glob (v := .ref CL) (by rfl) N.gL rfl) pa_nil)))) (pe_one (pe_callB (call_isD hz hf) (by rfl) T.isi boot_isinstance (pa_cons (pv 2) (pa_cons (pe_bltn (v := .ty "ValueError") (by rfl) N.vE boot_veT rfl) pa_nil)))))))
          (pss_one (ps_set (i := 1) scRef.nd rfl (.inl rfl) (pe_and (pv 1) (pe_and (pe_cmpR (show OpR _ (compareOp .Eq) (rEqD K) from op_eqD hr.units) (pe_xf N.xf N.noT hz hf (pv 2)) (pv 0) (nomark _))
            (pe_one (pe_cmpR op_eq (pe_callB (show CallR _ (.builtin "isinstance") (rIsi K) from call_isi) (by rfl) T.isi boot_isinstance (pa_cons (pe_xf N.xf N.noT hz hf (pv 2)) (pa_cons (pe_bltn (v := .ty "bool") (by rfl) tB boot_boolT rfl) pa_nil))) (pe_callB (show CallR _ (.builtin "isinstance") (rIsi K) from call_isi) (by rfl) T.isi boot_isinstance (pa_cons (pv 0) (pa_cons (pe_bltn (v := .ty "bool") (by rfl) tB boot_boolT rfl) pa_nil))) (nomark _)))))))))
      (pss_one (ps_ret (pv 1)))), ?_⟩
    refine q_asg ev_c fun H1 e1 => ?_
    refine ⟨_, rfl, fun x dx nx nd ne => ?_⟩
    have ex1 : Ex H1 (upd (upd H1 dx (.own x)) x (.ins C dx [])) := (Ex.new nd).trans (Ex.new ((upd_ne (Ne.symm ne)).trans nx))
    refine ⟨x, y, rfl, hb.ex (e1.trans ex1), fun dd H' e2 hdd hxd => ⟨true, N.exm, fun _ a na => ?_, fun z => nomatch z⟩⟩
    have e3 : Ex H H' := (e1.trans ex1).trans e2
    refine q_asg (v := .bl true) (Evl.ev_is (ev_andV (ev_isD (ev_var rfl) ev_c hxd N.xc (.own B) N.kB) fun _ => ev_andV (ev_notV (ev_isD (ev_var rfl) ev_c hxd N.xc (.own CL) N.kL)) fun _ => ev_isD (ev_var rfl) ev_c hxd N.xc (.ty "ValueError") N.kV) rfl) fun H4 e4 => ?_
    have hx4 := e4 _ _ hxd
    have s4 := e3.trans e4
    refine s_asg (v := .bl true) (Evl.ev_is (ev_andV (ev_var rfl) fun _ => ev_andV (ev_eqD (ev_xf (ev_var rfl) hx4 rfl) (ev_var rfl) (fun H' e => hd H' (s4.trans e)) (fun H' e => hd H' (s4.trans e)) hsh hsh) fun _ =>
      ev_op (ev_isi (ev_xf (ev_var rfl) hx4 rfl) ev_c (.ty "bool") (fun H' e => ht H' (s4.trans e)) hk) (ev_isi (ev_var rfl) ev_c (.ty "bool") (fun H' e => ht H' (s4.trans e)) hk) (rv_eq rfl)) (by rw [SeqAt.eqv_refl dt (SeqAt.canLay_of_shaped hsh), decide_eq_true rfl]; rfl)) fun H5 e5 => ?_
    exact ⟨_, rfl, q H5 (s4.trans e5)⟩
end
end Hs

set_option maxHeartbeats 8000000
/-! The law's own reader of texts, and what it says of one text. -/
namespace Hs
open PySem PySem.Spec PyProof.Rows L2 Evl Hc
abbrev sEnd : Stmt := top 21
abbrev sRight : Stmt := top 23
def res : Option Nat → Int
  | none => -1
  | some e => (e : Int)
def spEnd (n : Nat) : Sp := fun vs H Q _ => ∃ (L : List Nat) (a : Nat), vs = [.str (S L), .int (a : Int), .int (n : Int)] ∧ L.length ≤ cap ∧ ∀ H', Ex H H' → Q (.int (res (lend n L a))) H'
theorem sp_end {H : Hp} {L : List Nat} {a n : Nat} (h : L.length ≤ cap) : SpV (spEnd n) ([.str (S L), .int (a : Int), .int (n : Int)] ++ []) H (.int (res (lend n L a))) := fun H1 e Q q E => ⟨L, a, rfl, h, q⟩
abbrev nEnd : List Str := ["_law_text_here", "_law_at", "_law_floors", "_law_here", "_law_turn"]
theorem scEnd : FnScope nEnd ["_law_text_here", "_law_at", "_law_floors"] (defScope sEnd) := ⟨rfl, rfl, rfl, by decide +kernel, rfl, by decide +kernel, by decide +kernel⟩
theorem ev_cut {σ : L2.St} {H : Hp} {te tl th : TE} {L : List Nat} {a k : Nat} (hL : L.length ≤ cap) (h : Ev te σ H (.str (S L))) (h1 : Ev tl σ H (.int (a : Int))) (h2 : Ev th σ H (.int ((a + k : Nat) : Int))) : Ev (tSl rSlS te (tPart tl) (tPart th)) σ H (.str (S ((L.drop a).take k))) :=
  Evl.ev_is (ev_slS h (eo_some h1) (eo_some h2) (by rw [S_len]; exact cap_line hL)) (by rw [cut_nn, Nat.add_sub_cancel_left])
theorem ev_addN {σ : L2.St} {H : Hp} {ta tb : TE} {a k : Nat} (h1 : Ev ta σ H (.int (a : Int))) (h2 : Ev tb σ H (.int (k : Int))) : Ev (tOp (rI0 fun i j => .int (i + j)) ta tb) σ H (.int ((a + k : Nat) : Int)) := ev_op h1 h2 rv_I0
section
variable {P : Program} {w : World} {K : PySem.W.Frag} {mg : Str → Option Value} {base : Heap}
theorem ok_end1 {f : Addr} {fd : FuncData} {k n : Nat} {spP : Sp} (F : Fun K "_law_end" "_law_end" sEnd f fd) (T : TxtT mg) (rE : Rd P w K mg base "_law_end" k ["_law_text_here", "_law_at", "_law_floors"] spP) (hc : n = 0 ∨ ∃ m, n = m + 1 ∧ spP = spEnd m) :
    FnOk P w K mg base CX0 (k + 1) f fd ["_law_text_here", "_law_at", "_law_floors"] (spEnd n) := by
  refine F.ok scEnd (fun vs H Q E h => ?_) (fun cdv A outer s H vs Q E hr h => ?_)
  · obtain ⟨L, a, rfl, _⟩ := h
    rfl
  · obtain ⟨L, a, rfl, hL, q⟩ := h
    refine ⟨_, pss_cons (ps_if (pt_cmpR op_eq (pe_slice sl_str (pv 0) (po_some (pv 1)) (po_some (pe_op op_add (pv 1) pe_int))) pe_str (nomark _)) (pss_one (ps_ret (pe_op op_add (pv 1) pe_int))) pss_nil)
      (pss_cons (ps_if (PW.pt (pw_or (pt_cmpR op_ne (pe_slice sl_str (pv 0) (po_some (pv 1)) (po_some (pe_op op_add (pv 1) pe_int))) pe_str (nomark _)) (pw_or1 (pt_cmpR op_eq (pv 2) pe_int (nomark _))))) (pss_one (ps_ret (pe_un un_neg pe_int))) pss_nil)
      (pss_cons (ps_set (i := 3) scEnd.nd rfl (.inl rfl) (pe_op op_add (pv 1) pe_int))
      (pss_cons (ps_for PassesOwn.never rfl (pi_range1 (by rfl) T.rng (pa_cons pe_int pa_nil)) (pg_name (i := 4) scEnd.nd rfl (.inl rfl))
        (pss_cons (ps_set (i := 3) scEnd.nd rfl (.inl rfl) (pe_rd rE hr (Nat.le_refl _) (by rfl) (pa_cons (pv 0) (pa_cons (pv 3) (pa_cons (pe_op op_sub (pv 2) pe_int) pa_nil)))))
        (pss_cons (ps_if (pt_cmpR op_lt (pv 3) pe_int (nomark _)) (pss_one (ps_ret (pe_un un_neg pe_int))) pss_nil)
        (pss_cons (ps_if (pt_cmpR op_eq (pe_slice sl_str (pv 0) (po_some (pv 3)) (po_some (pe_op op_add (pv 3) pe_int))) pe_str (nomark _)) (pss_one (ps_ret (pe_op op_add (pv 3) pe_int))) pss_nil)
        (pss_cons (ps_if (pt_cmpR op_ne (pe_slice sl_str (pv 0) (po_some (pv 3)) (po_some (pe_op op_add (pv 3) pe_int))) pe_str (nomark _)) (pss_one (ps_ret (pe_un un_neg pe_int))) pss_nil)
        (pss_one (ps_aug (i := 3) scEnd.nd rfl (.inl rfl) pe_int ip_add)))))))
      (pss_one (ps_ret (pe_un un_neg pe_int)))))), ?_⟩
    have sl1 : ∀ (H1 : Hp) (v3 v4 : Option V), Ev (tSl rSlS (tVar 0) (tPart (tVar 1)) (tPart (tOp (rI0 fun i j => .int (i + j)) (tVar 1) (tC (.int 1))))) [some (.str (S L)), some (.int (a : Int)), some (.int (n : Int)), v3, v4] H1 (.str (S ((L.drop a).take 1))) := fun H1 v3 v4 => ev_cut hL (ev_var rfl) (ev_var rfl) (ev_addN (k := 1) (ev_var rfl) ev_c)
    refine q_when (et_test (ev_eqS (b := [46]) (sl1 H none none) ev_c)) (fun hb H1 f1 => ?_) (fun hb H1 f1 => ?_)
    · refine s_ret (ev_addN (k := 1) (ev_var rfl) ev_c) fun H2 f2 => ?_
      have e : lend n L a = some (a + 1) := by
        have h1 : (L.drop a).take 1 = [46] := of_decide_eq_true hb
        cases n with
        | zero => exact if_pos h1
        | succ n => exact if_pos h1
      have z := q H2 (f1.trans f2)
      rw [e] at z
      exact z
    · have hb1 : ¬ (L.drop a).take 1 = [46] := of_decide_eq_false hb
      refine q_when (et_or (et_test (ev_neS (b := [91]) (sl1 H1 none none) ev_c)) fun _ => et_test (ev_eqI (ev_var rfl) ev_c)) (fun hb2 H2 f2 => ?_) (fun hb2 H2 f2 => ?_)
      · refine s_ret (ev_un ev_c ru_neg) fun H3 f3 => ?_
        have e : lend n L a = none := by
          cases n with
          | zero => exact if_neg hb1
          | succ n =>
            have h2 : ¬ (L.drop a).take 1 = [91] := fun z => by
              rw [decide_eq_true z, decide_eq_false (by omega)] at hb2
              cases hb2
            exact (if_neg hb1).trans (if_neg h2)
        have z := q H3 ((f1.trans f2).trans f3)
        rw [e] at z
        exact z
      · obtain ⟨m, rfl, rfl⟩ : ∃ m, n = m + 1 ∧ spP = spEnd m := by
          rcases hc with rfl | h
          · simp at hb2
          · exact h
        have h2 : (L.drop a).take 1 = [91] := by
          by_cases z : (L.drop a).take 1 = [91]
          · exact z
          · rw [decide_eq_false z] at hb2
            cases hb2
        have e0 : lend (m + 1) L a = lloop (lend m L) L 3 (a + 1) := (if_neg hb1).trans (if_pos h2)
        rw [e0] at q
        refine q_asg (ev_addN (k := 1) (ev_var rfl) ev_c) fun H3 f3 => ?_
        refine q_forR1 (ea_cons ev_c ea_nil) (by decide) (fun i σ H' => ∃ (h : Nat) (v4 : Option V), σ = [some (.str (S L)), some (.int (a : Int)), some (.int ((m + 1 : Nat) : Int)), some (.int (h : Int)), v4] ∧ i ≤ 3 ∧ lloop (lend m L) L (3 - i) h = lloop (lend m L) L 3 (a + 1) ∧ Ex H H') (fun H4 f4 => ⟨a + 1, none, rfl, by decide, rfl, ((f1.trans f2).trans f3).trans f4⟩) ?_ ?_
        · rintro i σ' H4 hi ⟨h, v4, rfl, hi3, hl, e4⟩
          obtain ⟨k', hk'⟩ : ∃ k', 3 - i = k' + 1 := ⟨3 - i - 1, by omega⟩
          rw [hk'] at hl
          have hk2 : 3 - (i + 1) = k' := by omega
          refine q_asg (ev_call (ea_cons (ev_var rfl) (ea_cons (ev_var rfl) (ea_cons (ev_op (z := .int (m : Int)) (ev_var rfl) ev_c (by
            have e : ((m : Int)) = ((m + 1 : Nat) : Int) - 1 := by omega
            rw [e]
            exact rv_I0)) ea_nil))) (sp_end (a := h) hL)) fun H5 f5 => ?_
          cases g : lend m L h with
          | none =>
            have hl' : (none : Option Nat) = lloop (lend m L) L 3 (a + 1) := by
              rw [← hl]
              unfold lloop
              rw [g]
            refine q_when (b := true) (et_test (ev_op (x := .int (-1)) (ev_var rfl) ev_c rv_I0)) (fun _ H6 f6 => ?_) (fun z => nomatch z)
            refine s_ret (ev_un ev_c ru_neg) fun H7 f7 => ?_
            have z := q H7 (((e4.trans f5).trans f6).trans f7)
            rw [← hl'] at z
            exact z
          | some e =>
            have hl' : (if (L.drop e).take 1 = [93] then some (e + 1) else if (L.drop e).take 2 = [44, 32] then lloop (lend m L) L k' (e + 2) else none) = lloop (lend m L) L 3 (a + 1) := by
              rw [← hl]
              conv => rhs; unfold lloop
              rw [g]
            refine q_when (b := false) (et_is (et_test (ev_op (x := .int (e : Int)) (ev_var rfl) ev_c rv_I0)) (decide_eq_false (by omega))) (fun z => nomatch z) fun _ H6 f6 => ?_
            refine q_when (et_test (ev_eqS (b := [93]) (ev_cut (a := e) (k := 1) hL (ev_var rfl) (ev_var rfl) (ev_addN (k := 1) (ev_var rfl) ev_c)) ev_c)) (fun hb3 H7 f7 => ?_) (fun hb3 H7 f7 => ?_)
            · rw [if_pos (of_decide_eq_true hb3)] at hl'
              refine s_ret (ev_addN (a := e) (k := 1) (ev_var rfl) ev_c) fun H8 f8 => ?_
              have z := q H8 ((((e4.trans f5).trans f6).trans f7).trans f8)
              rw [← hl'] at z
              exact z
            · rw [if_neg (of_decide_eq_false hb3)] at hl'
              refine q_when (et_test (ev_neS (b := [44, 32]) (ev_cut (a := e) (k := 2) hL (ev_var rfl) (ev_var rfl) (ev_addN (k := 2) (ev_var rfl) ev_c)) ev_c)) (fun hb4 H8 f8 => ?_) (fun hb4 H8 f8 => ?_)
              · rw [if_neg (fun z => by rw [decide_eq_true z] at hb4; cases hb4)] at hl'
                refine s_ret (ev_un ev_c ru_neg) fun H9 f9 => ?_
                have z := q H9 (((((e4.trans f5).trans f6).trans f7).trans f8).trans f9)
                rw [← hl'] at z
                exact z
              · have h5 : (L.drop e).take 2 = [44, 32] := by
                  by_cases z : (L.drop e).take 2 = [44, 32]
                  · exact z
                  · rw [decide_eq_false z] at hb4
                    cases hb4
                rw [if_pos h5] at hl'
                refine s_aug (f := fun i j => i + j) (a := (e : Int)) (b := 2) rfl ev_c fun H9 f9 => ?_
                exact ⟨e + 2, _, rfl, by omega, by rw [hk2]; exact hl', ((((e4.trans f5).trans f6).trans f7).trans f8).trans f9⟩
        · rintro σ' H4 ⟨h, v4, rfl, hi3, hl, e4⟩
          refine s_ret (ev_un ev_c ru_neg) fun H5 f5 => ?_
          have z := q H5 (e4.trans f5)
          rw [← hl] at z
          exact z
theorem rd_end {f : Addr} {fd : FuncData} (F : Fun K "_law_end" "_law_end" sEnd f fd) (g : mg "_law_end" = some (.ref f)) (b : Binds K fd ["_law_text_here", "_law_at", "_law_floors"] []) (T : TxtT mg) : ∀ n, Rd P w K mg base "_law_end" (1 + n) ["_law_text_here", "_law_at", "_law_floors"] (spEnd n)
  | 0 => ⟨f, fd, g, F.kp, b, ok_end1 F T (rd_no F g b 0) (.inl rfl)⟩
  | n + 1 => ⟨f, fd, g, F.kp, b, ok_end1 F T (rd_end F g b T n) (.inr ⟨n, rfl, rfl⟩)⟩
end
end Hs

set_option maxHeartbeats 8000000
namespace Hs
open PySem PySem.Spec PyProof.Rows L2 Evl Hc
/-- text * n: what is known of it -/
def rMulS : R2 := fun x y H Q => ∃ (L : List Nat) (n : Int), x = .str (S L) ∧ y = .int n ∧ 2 ≤ n ∧ n ≤ 10000 ∧ 1 ≤ L.length ∧ L.length ≤ 10 ∧ ∀ M : List Nat, M.length = L.length * n.toNat → (∀ c ∈ M, c ∈ L) → Q (.str (S M)) H
theorem fold_app (x : Array Nat) : ∀ (n : Nat) (acc : Array Nat), ((List.replicate n x).foldl (· ++ ·) acc).toList = acc.toList ++ (List.replicate n x.toList).flatten
  | 0, acc => by simp
  | n + 1, acc => by
    rw [List.replicate_succ, List.foldl_cons, fold_app x n, List.replicate_succ, List.flatten_cons]
    simp
theorem op_mulS {X : Cx} : OpR X (binaryOp .Mult) rMulS := by
  intro pins s σ H x y v u Q I rx ry h
  obtain ⟨L, n, rfl, rfl, n2, n4, l1, l10, q⟩ := h
  obtain ⟨t, rfl⟩ := rx
  obtain ⟨t', rfl⟩ := ry
  have hm : L.length * n.toNat ≤ 100000 := Nat.le_trans (Nat.mul_le_mul l10 (show n.toNat ≤ 10000 by omega)) (by decide)
  have hlong : Builtin.Str.tooLong ((S L).length * n.toNat) = false := by
    rw [S_len]
    have h0 : ¬ L.length * n.toNat > 2 ^ 24 := by
      generalize L.length * n.toNat = z at hm
      omega
    simpa [Builtin.Str.tooLong, sizeLine] using h0
  refine P.mul_str (by rw [decide_eq_false (by omega), decide_eq_false (by omega)]; rfl) (fun _ _ => ?_) (fun _ _ => hlong) ?_
  · rw [S_len]
    have h1 : (L.length : Int) ≤ (2 ^ 63 - 1) / n := by
      rw [Int.le_ediv_iff_mul_le (by omega)]
      have h2 : (L.length : Int) * n ≤ 10 * 10000 := Int.mul_le_mul (by omega) n4 (by omega) (by omega)
      omega
    omega
  · rw [if_neg (by omega), if_neg (by
      rw [Bool.or_eq_true]
      rintro (z | z)
      · have := eq_of_beq z
        omega
      · have := eq_of_beq z
        rw [S_len] at this
        omega)]
    obtain ⟨M, hM⟩ : ∃ M, M = ((List.replicate n.toNat (S L).cps).foldl (· ++ ·) #[]).toList := ⟨_, rfl⟩
    have e0 := fold_app (S L).cps n.toNat #[]
    have hflat : M = (List.replicate n.toNat L).flatten := by
      rw [hM, e0]
      simp
    have e1 : (⟨(List.replicate n.toNat (S L).cps).foldl (· ++ ·) #[]⟩ : Str) = S M := by rw [hM]
    rw [e1]
    have hl : M.length = L.length * n.toNat := by
      rw [hflat, List.length_flatten, List.map_replicate, List.sum_replicate_nat, Nat.mul_comm]
    refine ⟨by rw [S_len, hl]; exact sz_of hm, .str (S M), H, I.tok _, ⟨_, rfl⟩, q M hl fun c hc => ?_⟩
    rw [hflat] at hc
    obtain ⟨l, hl1, hl2⟩ := List.mem_flatten.mp hc
    rw [(List.mem_replicate.mp hl1).2] at hl2
    exact hl2

/-! ### _law_bent, _law_right -/
structure TxtK (mg : Str → Option Value) : Prop extends TxtT mg where
  bool : mg "bool" = none
  pow : True
/-- a text of small signs, not too long -/
structure Ok (L : List Nat) (c : Nat) : Prop where
  len : L.length ≤ c
  small : ∀ x ∈ L, x < 128
theorem Ok.mono {L : List Nat} {c d : Nat} (h : Ok L c) (e : c ≤ d) : Ok L d := ⟨Nat.le_trans h.len e, h.small⟩
theorem Ok.app {L M : List Nat} {c d : Nat} (h : Ok L c) (k : Ok M d) : Ok (L ++ M) (c + d) := ⟨by rw [List.length_append]; exact Nat.add_le_add h.len k.len, fun x hx => (List.mem_append.mp hx).elim (h.small x) (k.small x)⟩
theorem Ok.take {L : List Nat} {c : Nat} (h : Ok L c) (n : Nat) : Ok (L.take n) c := ⟨Nat.le_trans (List.length_take_le' n L) h.len, fun x hx => h.small x (List.mem_of_mem_take hx)⟩
theorem Ok.drop {L : List Nat} {c : Nat} (h : Ok L c) (n : Nat) : Ok (L.drop n) c := ⟨by rw [List.length_drop]; exact Nat.le_trans (Nat.sub_le _ _) h.len, fun x hx => h.small x (List.mem_of_mem_drop hx)⟩
theorem Ok.str {L : List Nat} {c : Nat} (h : Ok L c) : PyData.strOk (S L) = true := by
  unfold PyData.strOk
  rw [← Array.all_toList]
  exact List.all_eq_true.mpr fun x hx => decide_eq_true (Nat.lt_trans (h.small x hx) (by decide))
theorem Ok.shaped {L : List Nat} {c : Nat} (h : Ok L c) : SeqAt.shaped (.str (S L)) = true := by
  have e1 : PyData.canLay0 (.str (S L)) = true := by
    unfold PyData.canLay0
    exact h.str
  unfold SeqAt.shaped
  rw [e1, Bool.true_and]
  exact decide_eq_true (by unfold PyData.depth; decide)
abbrev sBent : Stmt := top 24
abbrev sLaw : Stmt := top 25
def spBent : Sp := fun vs H Q _ => ∃ (st g sm : Addr) (L : List Nat) (c : Nat), vs = [.ref st, .str (S L)] ∧ DrawSt H st g sm ∧ Ok L c ∧ c ≤ 10000 ∧ ∀ (M : List Nat) (H' : Hp), Ok M (c + c + 10) → Hc.Ext (Dr st g) H H' → DrawSt H' st g sm → Q (.str (S M)) H'
theorem scBent : FnScope ["_law_state", "_law_text_here", "_law_at", "_law_piece"] ["_law_state", "_law_text_here"] (defScope sBent) := ⟨rfl, rfl, rfl, by decide +kernel, rfl, by decide +kernel, by decide +kernel⟩
theorem cut_to (L : List Nat) (j : Nat) : cutS (S L) none (some (j : Int)) = S (L.take j) := by
  unfold cutS
  rw [HT.sIx_none, HT.sIx_nat, S_len]
  congr 2
  show (L.drop 0).take (min j L.length - 0) = L.take j
  rw [List.drop_zero, Nat.sub_zero]
  by_cases h : j ≤ L.length
  · rw [Nat.min_eq_left h]
  · rw [Nat.min_eq_right (by omega), List.take_length, List.take_of_length_le (by omega)]
theorem s_retOp {σ : L2.St} {H : Hp} {D : Ends} {r : R2} {ta tb : TE} {x : V} (h : Ev ta σ H x) (k : ∀ H1, Ex H H1 → tb σ H1 fun y H2 => r x y H2 fun v H3 => D.rt v H3) : tRet (tOp r ta tb) D σ H := h H (Ex.refl H) _ k
/-- the pieces that are put in -/
def pieces : List (List Nat) := [[46], [91], [93], [44, 32], [44], [32], [91, 46, 93], [91, 46, 93, 44, 32], [], [120]]
theorem pieces_ok : ∀ p ∈ pieces, Ok p 5 := by
  have h : pieces.all (fun p => decide (p.length ≤ 5) && p.all (fun c => decide (c < 128))) = true := by decide
  intro p hp
  have z := List.all_eq_true.mp h p hp
  rw [Bool.and_eq_true, decide_eq_true_eq, List.all_eq_true] at z
  exact ⟨z.1, fun x hx => of_decide_eq_true (z.2 x hx)⟩
section
variable {P : Program} {w : World} {K : PySem.W.Frag} {mg : Str → Option Value} {base : Heap}
theorem ok_bent {f : Addr} {fd : FuncData} {k : Nat} (F : Fun K "_law_bent" "_law_bent" sBent f fd) (T : TxtT mg) (rD : Rd P w K mg base "_law_draw" k ["_law_state", "_law_many"] spDraw) (rO : Rd P w K mg base "_law_of" k ["_law_state", "_law_some"] (spOf K)) : FnOk P w K mg base CX0 (k + 1) f fd ["_law_state", "_law_text_here"] spBent := by
  refine F.ok scBent (fun vs H Q E h => ?_) (fun cdv A outer s H vs Q E hr h => ?_)
  · obtain ⟨st, g, sm, L, c, rfl, _⟩ := h
    rfl
  · obtain ⟨st, g, sm, L, c, rfl, hd, hL, hc, q⟩ := h
    refine ⟨_, pss_cons (ps_set (i := 2) scBent.nd rfl (.inl rfl) (pe_rd rD hr (Nat.le_refl _) (by rfl) (pa_cons (pv 0) (pa_cons (pe_op op_add (pe_callB call_len_str (by rfl) T.len PySem.boot_len (pa_cons (pv 1) pa_nil)) pe_int) pa_nil))))
      (pss_cons (ps_set (i := 3) scBent.nd rfl (.inl rfl) (pe_rd rO hr (Nat.le_refl _) (by rfl) (pa_cons (pv 0) (pa_cons (pe_lst (pa_cons pe_str (pa_cons pe_str (pa_cons pe_str (pa_cons pe_str (pa_cons pe_str (pa_cons pe_str (pa_cons pe_str (pa_cons pe_str (pa_cons pe_str (pa_cons pe_str pa_nil))))))))))) pa_nil))))
      (pss_one (ps_ret (pe_op op_add_str (pe_op op_add_str (pe_slice sl_str (pv 1) po_none (po_some (pv 2))) (pv 3)) (pe_slice sl_str (pv 1) (po_some (pe_op op_add (pv 2) (pe_rd rD hr (Nat.le_refl _) (by rfl) (pa_cons (pv 0) (pa_cons pe_int pa_nil))))) po_none))))), ?_⟩
    have hline : (S L).length ≤ sizeLine := by rw [S_len]; exact sz_of (Nat.le_trans hL.len (by omega))
    refine ⟨_, rfl, _, rfl, S L, rfl, hline, (L.length : Int), 1, by rw [S_len], rfl, st, g, sm, _, rfl, hd, by omega, by have := hL.len; omega, fun r H1 r0 r1 e1 d1 => ?_⟩
    obtain ⟨j, rfl⟩ := Int.eq_ofNat_of_zero_le r0
    refine ⟨_, rfl, by show 10 ≤ sizeLine; decide, fun p np => ⟨st, g, sm, p, _, rfl, d1.put (d1.off np), .inl (SqL.of upd_same), dr_off (d1.off np), by show 0 < 10; decide, by show 10 < 2 ^ 60; decide, fun i v H2 hv e2 d2 => ?_⟩⟩
    obtain ⟨pc, hpc, rfl⟩ : ∃ pc, Ok pc 5 ∧ v = .str (S pc) := by
      have hv' : (pieces.map fun p => V.str (S p))[i]? = some v := hv
      rw [List.getElem?_map] at hv'
      cases z : pieces[i]? with
      | none =>
        rw [z] at hv'
        cases hv'
      | some q =>
        rw [z] at hv'
        exact ⟨q, pieces_ok q (List.mem_of_getElem? z), (Option.some.inj hv').symm⟩
    have ln := hL.len
    have lp := hpc.len
    have lt1 := (hL.take j).len
    have e12 : Hc.Ext (Dr st g) H H2 := e1.trans ((Hc.Ext.new np).trans e2)
    dsimp only [gName]
    refine s_retOp (x := .str (S (L.take j) ++ S pc)) (ev_addS (ta := tSl rSlS (tVar 1) tNoPart (tPart (tVar 2))) (tb := tVar 3) (x := S (L.take j)) (y := S pc) (σ := [some (.ref st), some (.str (S L)), some (.int (j : Int)), some (.str (S pc))]) (Evl.ev_is (ev_slS (z := S L) (lo := none) (hi := some (j : Int)) (ev_var rfl) eo_none (eo_some (ev_var rfl)) hline) (by rw [cut_to])) (ev_var rfl) (by rw [S_len, S_len]; exact sz_of (by omega))) fun H3 e3 => ?_
    refine ⟨_, rfl, _, rfl, _, rfl, st, g, sm, 3, rfl, d2.same e3, by decide, by decide, fun r2 H4 r20 r23 e4 d4 => ⟨(j : Int), r2, rfl, rfl, _, rfl, S L, rfl, hline, ?_⟩⟩
    obtain ⟨j2, rfl⟩ := Int.eq_ofNat_of_zero_le r20
    have ec : cutS (S L) (some ((j : Int) + (j2 : Int))) none = S (L.drop (j + j2)) := by
      rw [show ((j : Int) + (j2 : Int)) = ((j + j2 : Nat) : Int) by omega, cut_n]
    refine ⟨_, _, rfl, rfl, ?_, ?_⟩
    · rw [ec, S_cat, S_len, S_len, List.length_append]
      have := (hL.drop (j + j2)).len
      exact sz_of (by omega)
    · rw [ec, S_cat, S_cat]
      exact q _ H4 ((((hL.take j).app hpc).app (hL.drop (j + j2))).mono (by omega)) (e12.trans ((Hc.Ext.same e3).trans e4)) d4
theorem ev_lenS {σ : L2.St} {H : Hp} {te : TE} {L : List Nat} (hL : L.length ≤ cap) (h : Ev te σ H (.str (S L))) : Ev (tCB (fun (xs : List V) (H : Hp) (Q : VK) => ∃ z, xs = [.str z] ∧ z.length ≤ sizeLine ∧ Q (.int z.length) H) (tCons te tNil)) σ H (.int (L.length : Int)) := fun H1 e Q q =>
  h H1 e _ fun H2 e2 => ⟨S L, rfl, by rw [S_len]; exact cap_line hL, by rw [S_len]; exact q H2 e2⟩
theorem ev_fld_R {K : PySem.W.Frag} {C : Addr} {σ : L2.St} {H : Hp} {te : TE} {f : Str} {u : V} {R : V → Hp → Prop} (c : Cls K C) (n : NoAttr K C f) (h : EvR te σ H R) (k : ∀ v H, R v H → ∃ a dx fs, v = .ref a ∧ H a = some (.ins C dx fs) ∧ fs.lookup f = some u) : Ev (tFld K te f) σ H u := fun H1 e Q q =>
  h H1 e _ fun v H2 e2 r => by
    obtain ⟨a, dx, fs, rfl, ha, hl⟩ := k v H2 r
    exact ⟨a, C, dx, fs, u, rfl, ha, c, n, hl, q H2 e2⟩
theorem ev_prop_R {C : Addr} {σ : L2.St} {H : Hp} {te : TE} {fld : Str} {u : V} {R : V → Hp → Prop} (h : EvR te σ H R) (k : ∀ v H, R v H → ∃ a dx fs, v = .ref a ∧ H a = some (.ins C dx fs) ∧ fs.lookup fld = some u) : Ev (tProp C (getSp C fld) [] E0 te) σ H u := fun H1 e Q q =>
  h H1 e _ fun v H2 e2 r => by
    obtain ⟨a, dx, fs, rfl, ha, hl⟩ := k v H2 r
    exact ⟨a, dx, fs, rfl, ha, a, dx, fs, u, rfl, ha, hl, q H2 e2⟩
theorem cond_eq (L : List Nat) : (decide ((5 : Int) < ((L.count 91 : Nat) : Int)) || !decide (res (lend 3 L 0) = (L.length : Int))) = !isShape L := by
  have e1 : decide (res (lend 3 L 0) = (L.length : Int)) = hasForm 3 L := by
    rw [← lend_form]
    cases lend 3 L 0 with
    | none =>
      show decide ((-1 : Int) = (L.length : Int)) = decide ((none : Option Nat) = some L.length)
      rw [decide_eq_false (by omega), decide_eq_false (by simp)]
    | some e =>
      show decide ((e : Int) = (L.length : Int)) = decide (some e = some L.length)
      rw [decide_eq_decide]
      simp
      omega
  rw [e1]
  unfold isShape
  by_cases h : L.count 91 ≤ 5
  · rw [decide_eq_true h, decide_eq_false (by omega)]
    simp
  · rw [decide_eq_false h, decide_eq_true (by omega)]
    simp
/-- what the law says of any text -/
def spRight2 : Sp := fun vs H Q _ => ∃ (L : List Nat) (c : Nat), vs = [.str (S L)] ∧ Ok L c ∧ c ≤ 30000 ∧ ∀ H', Ex H H' → Q (.bl true) H'
theorem scRight2 : FnScope ["_law_text_here"] ["_law_text_here"] (defScope sRight) := ⟨rfl, rfl, rfl, by decide +kernel, rfl, by decide +kernel, by decide +kernel⟩
theorem kit_bool {t : String} {b : Bool} (h : kitB t "bool" = some b) : PySem.W.kitOne K (.type t) (.type "bool") = some b := kit_ty h
theorem sp_refY {B : Addr} {H : Hp} {L : List Nat} {c : Nat} (hL : Ok L c) (hc : c ≤ 30000) (hs : isShape L = false) : SpV (spRefY K B) ([.str (S L)] ++ []) H (.bl true) := fun H1 e Q q E =>
  ⟨.str (S L), .str (S L), false, .type "str", rfl, .inl ⟨L, rfl, Nat.le_trans hL.len hc, hs⟩, fun _ _ => .str _, hL.shaped, fun _ _ => .base (.str _), kit_bool (by decide +kernel), q⟩
theorem shape_tree {L : List Nat} (h : isShape L = true) : ∃ t : Tre 3, txt 3 t = L ∧ slim 3 t = true ∧ lsts 3 t ≤ 5 := by
  unfold isShape at h
  rw [Bool.and_eq_true, decide_eq_true_eq] at h
  obtain ⟨t, h1, h2⟩ := form_tree 3 L h.2
  exact ⟨t, h1, h2, by rw [← txt_count, h1]; exact h.1⟩
theorem ok_right2 {f : Addr} {fd : FuncData} {C B : Addr} (F : Fun K "_law_right" "_law_right" sRight f fd) (T : TxtT mg) (c : ShC K C) (rE : Rd P w K mg base "_law_end" 4 ["_law_text_here", "_law_at", "_law_floors"] (spEnd 3)) (rY : Rd P w K mg base "_law_refused" 15 ["_law_thing"] (spRefY K B))
    (rM : Rm P w K mg base "Shape" C 14 ["self", "text"] (spInit K C 3)) (pL : Pr P w K mg base C "lists" "_lists" 1) : FnOk P w K mg base CX0 16 f fd ["_law_text_here"] spRight2 := by
  refine F.ok scRight2 (fun vs H Q E h => ?_) (fun cdv A outer s H vs Q E hr h => ?_)
  · obtain ⟨L, c, rfl, _⟩ := h
    rfl
  · obtain ⟨L, cc, rfl, hL, hc, q⟩ := h
    refine ⟨_, pss_cons (ps_if (PW.pt (pw_or (pt_cmpR op_gt (pe_m1 PySem.F.slot_str_count PySem.F.type_str_count mt_count (pv 0) pe_str) pe_int (nomark _)) (pw_or1 (pt_cmpR op_ne (pe_rd rE hr (by decide) (by rfl) (pa_cons (pv 0) (pa_cons pe_int (pa_cons pe_int pa_nil)))) (pe_callB call_len_str (by rfl) T.len PySem.boot_len (pa_cons (pv 0) pa_nil)) (nomark _)))))
        (pss_one (ps_ret (pe_rd rY hr (by decide) (by rfl) (pa_cons (pv 0) pa_nil)))) pss_nil)
      (pss_one (ps_ret (pe_and (pe_cmpR op_eq (pe_fld (pe_rm rM hr (by decide) (by rfl) (pa_cons (pv 0) pa_nil)) (by rfl)) (pv 0) (nomark _)) (pe_one (pe_cmpR op_eq (pe_pr pL c.cl hr (by decide) (pe_rm rM hr (by decide) (by rfl) (pa_cons (pv 0) pa_nil))) (pe_m1 PySem.F.slot_str_count PySem.F.type_str_count mt_count (pv 0) pe_str) (nomark _)))))), ?_⟩
    have hcap : L.length ≤ cap := Nat.le_trans hL.len hc
    refine q_when (b := !isShape L) (et_is (et_or (et_test (ev_op (ev_count (c := 91) (ev_var rfl) ev_c) ev_c rv_I0)) fun _ => et_test (ev_op (ev_call (ea_cons (ev_var rfl) (ea_cons ev_c (ea_cons ev_c ea_nil))) (sp_end (a := 0) hcap)) (ev_lenS hcap (ev_var rfl)) (rv_ne rfl))) (by rw [dec_I]; exact cond_eq L)) (fun hb H1 f1 => ?_) (fun hb H1 f1 => ?_)
    · have hs : isShape L = false := by
        cases z : isShape L with
        | false => rfl
        | true => rw [z] at hb; cases hb
      exact s_ret (ev_call (ea_cons (ev_var rfl) ea_nil) (sp_refY hL hc hs)) fun H2 f2 => q H2 (f1.trans f2)
    · have hs : isShape L = true := by
        cases z : isShape L with
        | true => rfl
        | false => rw [z] at hb; cases hb
      obtain ⟨t, rfl, hsl, hl5⟩ := shape_tree hs
      have mk : ∀ H2, EvR (tMake C (spInit K C 3) [] E0 (tCons (tVar 0) tNil)) [some (.str (S (txt 3 t)))] H2 (ShV K C 3 t) := fun H2 => er_make t (ea_cons (ev_var rfl) ea_nil) hsl hl5 hcap
      refine s_ret (v := .bl true) (Evl.ev_is (ev_andV (ev_eqS (a := txt 3 t) (ev_fld_R c.cl c.nT (mk _) fun v H h => ?a1) (ev_var rfl)) fun _ => ev_eqI (a := ((lsts 3 t : Nat) : Int)) (ev_prop_R (mk _) fun v H h => ?a2) (ev_count (c := 91) (ev_var rfl) ev_c)) ?a3) fun H2 f2 => q H2 (f1.trans f2)
      case a1 =>
        obtain ⟨xs, ⟨a, dx, p, hv, ha, _⟩, _⟩ := (shV_iff 3 t v H).mp h
        exact ⟨a, dx, _, hv, ha, rfl⟩
      case a2 =>
        obtain ⟨xs, ⟨a, dx, p, hv, ha, _⟩, _⟩ := (shV_iff 3 t v H).mp h
        exact ⟨a, dx, _, hv, ha, rfl⟩
      case a3 =>
        rw [txt_count]
        simp
end
end Hs

set_option maxHeartbeats 8000000
namespace Hs
open PySem PySem.Spec PyProof.Rows L2 Evl Hc
/-- a text of small signs, between lo and c long -/
def RT (c lo : Nat) (v : V) (_ : Hp) : Prop := ∃ M, v = .str (S M) ∧ Ok M c ∧ lo ≤ M.length
theorem long_no {M : List Nat} (h : 106 ≤ M.length) : isShape M = false := by
  cases z : isShape M with
  | false => rfl
  | true =>
    obtain ⟨t, h1, h2, _⟩ := shape_tree z
    have := txt_cap (n := 3) (by decide) h2
    rw [h1] at this
    omega
section
variable {K : PySem.W.Frag} {σ : L2.St} {H : Hp} {te ta tb : TE}
theorem small_ok {L : List Nat} (h : L.all (fun c => decide (c < 128)) = true) : Ok L L.length := ⟨Nat.le_refl _, fun x hx => of_decide_eq_true (List.all_eq_true.mp h x hx)⟩
theorem er_const {L : List Nat} (h : L.all (fun c => decide (c < 128)) = true) : EvR (tC (.str (S L))) σ H (RT L.length L.length) := fun H1 e Q q => q _ H1 (Ex.refl H1) ⟨L, rfl, small_ok h, Nat.le_refl _⟩
theorem er_mul {L : List Nat} {n : Nat} (h : L.all (fun c => decide (c < 128)) = true) (n2 : 2 ≤ n) (n4 : n ≤ 10000) (l1 : 1 ≤ L.length) (l10 : L.length ≤ 10) : EvR (tOp rMulS (tC (.str (S L))) (tC (.int (n : Int)))) σ H (RT (L.length * n) (L.length * n)) := fun H1 e Q q =>
  ⟨L, (n : Int), rfl, rfl, by omega, by omega, l1, l10, fun M hM hs => q _ H1 (Ex.refl H1) ⟨M, rfl, ⟨by rw [hM]; exact Nat.le_refl _, fun x hx => (small_ok h).small x (hs x hx)⟩, by rw [hM]; exact Nat.le_refl _⟩⟩
theorem er_add {c d lo lo' : Nat} (h1 : EvR ta σ H (RT c lo)) (h2 : EvR tb σ H (RT d lo')) (hz : c + d ≤ 100000) : EvR (tOp (fun x y H Q => ∃ i j, x = .str i ∧ y = .str j ∧ i.length + j.length ≤ sizeLine ∧ Q (.str (i ++ j)) H) ta tb) σ H (RT (c + d) (lo + lo')) := fun H1 e Q q =>
  h1 H1 e _ fun x H2 e2 ⟨M, hx, oM, lM⟩ => h2 H2 (e.trans e2) _ fun y H3 e3 ⟨M', hy, oM', lM'⟩ => ⟨S M, S M', hx, hy, by
    rw [S_len, S_len]
    have := oM.len
    have := oM'.len
    exact sz_of (by omega), q _ H3 (e2.trans e3) ⟨M ++ M', by rw [S_cat], oM.app oM', by rw [List.length_append]; omega⟩⟩
theorem ev_callR {sp : Sp} {R : V → Hp → Prop} {z : V} (h : EvR te σ H R) (k : ∀ v H', R v H' → SpV sp ([v] ++ []) H' z) : Ev (tCall sp [] E0 (tCons te tNil)) σ H z := fun H1 e Q q =>
  h H1 e _ fun v H2 e2 r => k v H2 r H2 (Ex.refl H2) Q (fun H3 e3 => q H3 (e2.trans e3)) E0
theorem ev_long {B : Addr} {c : Nat} (h : EvR te σ H (RT c 106)) (hc : c ≤ 30000) : Ev (tCall (spRefY K B) [] E0 (tCons te tNil)) σ H (.bl true) := ev_callR h fun v H' ⟨M, hv, oM, lM⟩ => by
  rw [hv]
  exact sp_refY oM hc (long_no lM)
theorem RT.mono {c lo lo' : Nat} (h : EvR te σ H (RT c lo)) (e : lo' ≤ lo) : EvR te σ H (RT c lo') := fun H1 e1 Q q => h H1 e1 Q fun v H2 e2 ⟨M, hv, oM, lM⟩ => q v H2 e2 ⟨M, hv, oM, Nat.le_trans e lM⟩
/-- a for over a tuple that is made for it; what the body keeps is told by Ex -/
theorem q_forTu {xs : List V} {tl : TE} {j : Nat} {tu tz : TS} {D : Ends} (F : L2.St → Prop) (h : EvU tl σ H xs) (h0 : F σ) (hs : ∀ (i : Nat) (x : V) (σ' : L2.St) (H' : Hp), xs[i]? = some x → F σ' → Ex H H' → ∀ N : L2.St → Hp → Prop, (∀ σ2 H2, F σ2 → Ex H' H2 → N σ2 H2) → tu { D with nx := N, ct := N, bk := tz D } (σ'.set j (some x)) H')
    (hd : ∀ σ' H', F σ' → Ex H H' → tz D σ' H') : tSeq (tFor (iTup K tl) (gName j) tu) tz D σ H :=
  h H (Ex.refl H) _ fun p H1 np e hp => ⟨p, rfl, ⟨xs, SqT.of hp⟩, for_tup (xs := xs) (fun _ σ' H' => F σ' ∧ Ex H1 H') ⟨h0, Ex.refl H1⟩ (fun i σ' H' _ q => SqT.of (q.2 _ _ hp))
    (fun i x σ' H' hx q => hs i x σ' H' hx q.1 (e.trans q.2) _ fun σ2 H2 f2 e2 => ⟨f2, q.2.trans e2⟩) (fun σ' H' q => hd σ' H' q.1 (e.trans q.2))⟩
end
theorem sp_refN {K : PySem.W.Frag} {H : Hp} {L : List Nat} (h : isShape L = true) : SpV (spRefN K) ([.str (S L)] ++ []) H (.bl false) := fun H1 e Q q E => by
  obtain ⟨t, rfl, h2, h3⟩ := shape_tree h
  exact ⟨t, rfl, h2, h3, q⟩
theorem sp_right2 {H : Hp} {L : List Nat} {c : Nat} (h : Ok L c) (hc : c ≤ 30000) : SpV spRight2 ([.str (S L)] ++ []) H (.bl true) := fun H1 e Q q E => ⟨L, c, rfl, h, hc, q⟩
theorem txt_small3 : ∀ (n : Nat) (t : Tre n), ∀ c ∈ txt n t, c < 128
  | 0, _, c, h => by rw [List.mem_singleton.mp h]; decide
  | n + 1, [], c, h => by rw [List.mem_singleton.mp h]; decide
  | n + 1, x :: l, c, h => by
    rw [txt_cons] at h
    have jm : ∀ (l : List (List Nat)) (c : Nat), c ∈ TL.joinL [44, 32] l → c ∈ [44, 32] ∨ ∃ p ∈ l, c ∈ p := by
      intro l
      induction l with
      | nil => exact fun c h => by cases h
      | cons p r ih =>
        intro c h
        cases r with
        | nil => exact .inr ⟨p, List.mem_cons_self, h⟩
        | cons q r =>
          rw [joinL_cons] at h
          rcases List.mem_append.mp h with h | h
          · exact .inr ⟨p, List.mem_cons_self, h⟩
          · rcases List.mem_append.mp h with h | h
            · exact .inl h
            · rcases ih c h with h | ⟨p', hp, hc⟩
              · exact .inl h
              · exact .inr ⟨p', List.mem_cons_of_mem _ hp, hc⟩
    rcases List.mem_cons.mp h with h | h
    · rw [h]; decide
    · rcases List.mem_append.mp h with h | h
      · rcases jm _ c h with h | ⟨p, hp, hc⟩
        · have : c = 44 ∨ c = 32 := by simpa using h
          omega
        · obtain ⟨y, _, rfl⟩ := List.mem_map.mp hp
          exact txt_small3 n y c hc
      · rw [List.mem_singleton.mp h]; decide
def dot3 : List Nat := [91, 46, 93]
def wide : List Nat := [91] ++ TL.joinL [44, 32] [dot3, dot3, dot3] ++ [93]
/-- texts that are shapes, texts that are none -/
def goods : List (List Nat) := [[91, 91, 91, 46, 93, 93, 93], wide, [91] ++ wide ++ [93], [91, 91, 91, 46, 93, 44, 32, 91, 46, 93, 44, 32, 91, 46, 93, 93, 93], [91, 46, 93], [46]]
def bads : List (List Nat) := [[91, 91, 91, 91, 46, 93, 93, 93, 93], [91] ++ wide ++ [44, 32, 91, 46, 93, 93], [91, 46, 44, 32, 46, 44, 32, 46, 44, 32, 46, 93], [91, 93], [], [91, 46, 93, 32], [32, 91, 46, 93], [91, 46, 44, 46, 93], [91, 46, 93, 46], [46, 46]]
theorem goods_ok : goods.all isShape = true := by decide +kernel
theorem bads_ok : bads.all (fun L => !isShape L && (decide (L.length ≤ 100) && L.all (fun c => decide (c < 128)))) = true := by decide +kernel
theorem mem_strs {gs : List (List Nat)} {i : Nat} {x : V} (h : (gs.map fun L => V.str (S L))[i]? = some x) : ∃ L, L ∈ gs ∧ x = .str (S L) := by
  rw [List.getElem?_map] at h
  cases z : gs[i]? with
  | none =>
    rw [z] at h
    cases h
  | some L =>
    rw [z] at h
    exact ⟨L, List.mem_of_getElem? z, (Option.some.inj h).symm⟩
/-- what is none of the texts -/
def Thing (K : PySem.W.Frag) (y : V) (H : Hp) : Prop := ∃ (dt : PyData) (b : Bool) (t : String), kitB t "str" = some false ∧ (∀ H', Ex H H' → Dp K H' y dt) ∧ SeqAt.shaped dt = true ∧ (∀ H', Ex H H' → TyX K H' y (.type t)) ∧ kitB t "bool" = some b
theorem Thing.ex {K : PySem.W.Frag} {y : V} {H H' : Hp} (h : Thing K y H) (e : Ex H H') : Thing K y H' := by
  obtain ⟨dt, b, t, h1, h2, h3, h4, h5⟩ := h
  exact ⟨dt, b, t, h1, fun H1 e1 => h2 H1 (e.trans e1), h3, fun H1 e1 => h4 H1 (e.trans e1), h5⟩
theorem sp_thing {K : PySem.W.Frag} {B : Addr} {H : Hp} {y : V} (h : Thing K y H) : SpV (spRefY K B) ([y] ++ []) H (.bl true) := fun H1 e Q q E => by
  obtain ⟨dt, b, t, h1, h2, h3, h4, h5⟩ := h.ex e
  exact ⟨y, dt, b, .type t, rfl, .inr ⟨.type t, h4, kit_ty h1⟩, h2, h3, h4, kit_ty h5, q⟩
abbrev nLaw : List Str := ["_law_script", "_law_state", "_law_turn", "_law_text_here", "_law_bend", "_law_wide", "_law_things", "_law_thing"]
theorem scLaw : FnScope nLaw ["_law_script"] (defScope sLaw) := ⟨rfl, rfl, rfl, by decide +kernel, rfl, by decide +kernel, by decide +kernel⟩
def spLaw (K : PySem.W.Frag) : Sp := fun vs H Q _ => ∃ (a : Addr) (ns : List Int), vs = [.ref a] ∧ SqL K H a (ns.map V.int) ∧ ns.length ≤ 63 ∧ ∀ H', Q (.bl true) H'
section
variable {P : Program} {w : World} {K : PySem.W.Frag} {mg : Str → Option Value} {base : Heap} {B : Addr} {f : Addr} {fd : FuncData}
theorem ok_law (F : Fun K "law" "law" sLaw f fd) (T : TxtT mg) (rS : Rd P w K mg base "_law_start" 1 ["_law_script"] (spStart K)) (rD : Rd P w K mg base "_law_draw" 1 ["_law_state", "_law_many"] spDraw)
    (rT : Rd P w K mg base "_law_tree" 7 ["_law_state", "_law_floors", "_law_room"] (spTree3 K)) (rX : Rd P w K mg base "_law_text" 4 ["_law_tree_here"] (spText K 3)) (rN : Rd P w K mg base "_law_refused" 16 ["_law_thing"] (spRefN K)) (rY : Rd P w K mg base "_law_refused" 16 ["_law_thing"] (spRefY K B))
    (rR : Rd P w K mg base "_law_right" 16 ["_law_text_here"] spRight2) (rB : Rd P w K mg base "_law_bent" 4 ["_law_state", "_law_text_here"] spBent) : FnOk P w K mg base CX0 17 f fd ["_law_script"] (spLaw K) := by
  refine F.ok scLaw (fun vs H Q E h => ?_) (fun cdv A outer s H vs Q E hr h => ?_)
  · obtain ⟨a, ns, rfl, _⟩ := h
    rfl
  · obtain ⟨sa, ns, rfl, hS, hlen, q⟩ := h
    refine ⟨_, pss_cons (ps_set (i := 1) scLaw.nd rfl (.inl rfl) (pe_rd rS hr (by decide) (by rfl) (pa_cons (pv 0) pa_nil)))
      (pss_cons (ps_for PassesOwn.never rfl (pi_range1 (by rfl) T.rng (pa_cons pe_int pa_nil)) (pg_name (i := 2) scLaw.nd rfl (.inl rfl))
        (pss_cons (ps_set (i := 3) scLaw.nd rfl (.inl rfl) (pe_rd rX hr (by decide) (by rfl) (pa_cons (pe_rd rT hr (by decide) (by rfl) (pa_cons (pv 1) (pa_cons (pe_op op_add pe_int (pe_rd rD hr (by decide) (by rfl) (pa_cons (pv 1) (pa_cons pe_int pa_nil)))) (pa_cons (pe_op op_add pe_int (pe_rd rD hr (by decide) (by rfl) (pa_cons (pv 1) (pa_cons pe_int pa_nil)))) pa_nil)))) pa_nil)))
        (pss_cons (ps_if (PW.pt (pw_or (pt_val (pe_rd rN hr (by decide) (by rfl) (pa_cons (pv 3) pa_nil))) (pw_or1 (pt_not (pt_val (pe_rd rR hr (by decide) (by rfl) (pa_cons (pv 3) pa_nil))))))) (pss_one (ps_ret pe_bl)) pss_nil)
        (pss_one (ps_for PassesOwn.never rfl (pi_range1 (by rfl) T.rng (pa_cons (pe_op op_add pe_int (pe_rd rD hr (by decide) (by rfl) (pa_cons (pv 1) (pa_cons pe_int pa_nil)))) pa_nil)) (pg_name (i := 4) scLaw.nd rfl (.inl rfl))
          (pss_cons (ps_set (i := 3) scLaw.nd rfl (.inl rfl) (pe_rd rB hr (by decide) (by rfl) (pa_cons (pv 1) (pa_cons (pv 3) pa_nil))))
          (pss_one (ps_if (pt_not (pt_val (pe_rd rR hr (by decide) (by rfl) (pa_cons (pv 3) pa_nil)))) (pss_one (ps_ret pe_bl)) pss_nil))))))))
      (pss_cons (ps_set (i := 5) scLaw.nd rfl (.inl rfl) (pe_op op_add_str (pe_op op_add_str pe_str (pe_join pe_str (pe_lc (own := [("_law_turn", 2)]) (g := gName 2) (tt := tYes) rfl scLaw.nd (pi_range1 (by rfl) T.rng (pa_cons pe_int pa_nil)) (blkOk_by (N := nLaw) (sc := defScope sLaw) (by decide +kernel))
          (fun _ _ _ _ _ => pg_name (i := 2) scLaw.nd rfl (.inl rfl)) (fun _ _ _ _ _ => pts_nil) (fun _ _ _ _ _ => pe_str)))) pe_str))
      (pss_cons (ps_for PassesOwn.never rfl (pi_tup (pe_tup (pa_cons pe_str (pa_cons (pv 5) (pa_cons (pe_op op_add_str (pe_op op_add_str pe_str (pv 5)) pe_str) (pa_cons pe_str (pa_cons pe_str (pa_cons pe_str pa_nil)))))))) (pg_name (i := 3) scLaw.nd rfl (.inl rfl))
        (pss_one (ps_if (pt_val (pe_rd rN hr (by decide) (by rfl) (pa_cons (pv 3) pa_nil))) (pss_one (ps_ret pe_bl)) pss_nil)))
      (pss_cons (ps_for PassesOwn.never rfl (pi_tup (pe_tup (pa_cons pe_str (pa_cons (pe_op op_add_str (pe_op op_add_str pe_str (pv 5)) pe_str) (pa_cons pe_str (pa_cons pe_str (pa_cons pe_str (pa_cons pe_str (pa_cons pe_str (pa_cons pe_str (pa_cons pe_str (pa_cons pe_str pa_nil)))))))))))) (pg_name (i := 3) scLaw.nd rfl (.inl rfl))
        (pss_one (ps_if (pt_not (pt_val (pe_rd rY hr (by decide) (by rfl) (pa_cons (pv 3) pa_nil)))) (pss_one (ps_ret pe_bl)) pss_nil)))
      (pss_cons (ps_if (PW.pt (pw_or (pt_not (pt_val (pe_rd rY hr (by decide) (by rfl) (pa_cons (pe_op op_mulS pe_str pe_int) pa_nil)))) (pw_or (pt_not (pt_val (pe_rd rY hr (by decide) (by rfl) (pa_cons (pe_op op_mulS pe_str pe_int) pa_nil)))) (pw_or1 (pt_not (pt_val (pe_rd rY hr (by decide) (by rfl) (pa_cons (pe_op op_mulS pe_str pe_int) pa_nil)))))))) (pss_one (ps_ret pe_bl)) pss_nil)
      (pss_cons (ps_if (PW.pt (pw_or (pt_not (pt_val (pe_rd rY hr (by decide) (by rfl) (pa_cons (pe_op op_add_str (pe_op op_add_str pe_str (pe_op op_mulS pe_str pe_int)) pe_str) pa_nil)))) (pw_or1 (pt_not (pt_val (pe_rd rY hr (by decide) (by rfl) (pa_cons (pe_op op_add_str (pe_op op_add_str (pe_op op_mulS pe_str pe_int) pe_str) (pe_op op_mulS pe_str pe_int)) pa_nil))))))) (pss_one (ps_ret pe_bl)) pss_nil)
      (pss_cons (ps_set (i := 6) scLaw.nd rfl (.inl rfl) (pe_lst (pa_cons pe_non (pa_cons pe_int (pa_cons pe_bl (pa_cons pe_bl (pa_cons (pe_un un_neg pe_int) (pa_cons (pe_op op_pow pe_int pe_int) (pa_cons (pe_tup pa_nil) (pa_cons (pe_lst pa_nil) (pa_cons (pe_lst (pa_cons pe_str pa_nil)) (pa_cons (pe_tup (pa_cons pe_str pa_nil)) (pa_cons (pe_tup (pa_cons pe_str (pa_cons pe_str (pa_cons pe_str pa_nil)))) pa_nil)))))))))))))
      (pss_one (ps_ret (pe_callB (cr_all rfl) (by rfl) T.all boot_all (pa_cons (pe_lc (own := [("_law_thing", 7)]) (g := gName 7) (tt := tYes) rfl scLaw.nd (pi_list (pv 6)) (blkOk_by (N := nLaw) (sc := defScope sLaw) (by decide +kernel))
          (fun _ _ _ _ _ => pg_name (i := 7) scLaw.nd rfl (.inl rfl)) (fun _ _ _ _ _ => pts_nil) (fun _ _ _ _ _ => pe_rd rY hr (by decide) (by rfl) (pa_cons (pv 7) pa_nil))) pa_nil))))))))))), ?_⟩
    -- the state
    refine ⟨_, rfl, sa, ns, rfl, hS, hlen, fun H1 st g sm s1 n1 n2 n3 d1 => ?_⟩
    dsimp only [gName]
    -- the drawn texts
    refine q_forR1 (ea_cons ev_c ea_nil) (by decide) (fun _ σ H' => ∃ v2 v3 v4, σ = [some (.ref sa), some (.ref st), v2, v3, v4, none, none, none] ∧ DrawSt H' st g sm) (fun H2 e2 => ⟨none, none, none, rfl, d1.same e2⟩) ?_ ?_
    · rintro i σ' H2 hi ⟨v2, v3, v4, rfl, d2⟩
      refine ⟨_, rfl, ?_⟩
      refine ⟨_, rfl, st, g, sm, 3, rfl, d2, by decide, by decide, fun r H4 r0 r3 e6 d4 => ⟨1, r, rfl, rfl, ?_⟩⟩
      refine ⟨_, rfl, st, g, sm, 5, rfl, d4, by decide, by decide, fun r' H5 r0' r5 e7 d5 => ⟨1, r', rfl, rfl, ?_⟩⟩
      refine ⟨st, g, sm, 1 + r, 1 + r', rfl, d5, by omega, by omega, by omega, by omega, fun t v H6 ht hs hl5 e8 d6 => ?_⟩
      refine ⟨v, t, rfl, ht, hs, fun H7 e9 => ?_⟩
      dsimp only [gName]
      have d7 := d6.same e9
      have ok0 : Ok (txt 3 t) 105 := ⟨txt_cap (n := 3) (by decide) hs, fun x hx => txt_small3 3 t x hx⟩
      refine q_when (b := false) (et_is (et_or (et_B (ev_call (ea_cons (ev_var rfl) ea_nil) fun H1 e Q q E => ⟨t, rfl, hs, hl5, q⟩)) fun _ => et_not (et_B (ev_call (ea_cons (ev_var rfl) ea_nil) (sp_right2 ok0 (by decide))))) rfl) (fun z => nomatch z) fun _ H8 e10 => ?_
      have d8 := d7.same e10
      refine ⟨_, rfl, st, g, sm, 3, rfl, d8, by decide, by decide, fun q3 H9 q0 q33 e11 d9 => ⟨1, q3, rfl, rfl, 1 + q3, rfl, by omega, by omega, for_range (lo := 0) (n := (1 + q3).toNat) (fun j σ H' => ∃ v4 L c, σ = [some (.ref sa), some (.ref st), some (.int (i : Int)), some (.str (S L)), v4, none, none, none] ∧ Ok L c ∧ c + 10 ≤ 115 * 2 ^ j ∧ DrawSt H' st g sm) ?_ ?_ ?_⟩⟩
      · exact ⟨v4, txt 3 t, 105, rfl, ok0, by decide, d9⟩
      · rintro j σ2 K1 hj ⟨w4, L, c, rfl, ok, hc, dk⟩
        have hj2 : 2 ^ j ≤ 2 ^ 3 := Nat.pow_le_pow_right (by decide) (by omega)
        refine ⟨_, rfl, _, rfl, st, g, sm, L, c, rfl, dk, ok, by omega, fun M K2 okM eK dk2 => ?_⟩
        dsimp only [gName]
        have hM : c + c + 10 ≤ 30000 := by omega
        refine s_when (b := false) (et_is (et_not (et_B (ev_call (ea_cons (ev_var rfl) ea_nil) (sp_right2 okM hM)))) rfl) (fun z => nomatch z) fun _ K3 eK3 => ?_
        exact ⟨_, M, c + c + 10, rfl, okM, by rw [Nat.pow_succ]; omega, dk2.same eK3⟩
      · rintro σ2 K1 ⟨w4, L, c, rfl, ok, hc, dk⟩
        exact ⟨_, _, _, rfl, dk⟩
    · rintro σ' H2 ⟨v2, v3, v4, rfl, d2⟩
      clear d1 d2
      -- wide
      have lw : (S wide).length = 15 := rfl
      refine q_asg (v := .str (S wide)) (Evl.ev_is (ev_addS (x := S [91] ++ S (TL.joinL [44, 32] [dot3, dot3, dot3])) (y := S [93]) (ev_addS (x := S [91]) ev_c (ev_join (K := K) (a := [44, 32]) (ys := [dot3, dot3, dot3]) ev_c (el_lcR1 (n := 3) (fun _ => true) (fun _ => .str (S dot3)) (ea_cons ev_c ea_nil) (by decide) wipe1 (fun i H7 _ _ => et_yes) (fun i H7 _ _ _ => ev_c)) (by decide)) (by decide)) ev_c (by decide)) (by rw [S_cat, S_cat]; rfl)) fun H3 e3 => ?_
      -- the shapes
      refine q_forTu (fun σ => ∃ v3, σ = [some (.ref sa), some (.ref st), v2, v3, v4, some (.str (S wide)), none, none]) (xs := goods.map fun L => V.str (S L)) (eu_tup (ea_cons ev_c (ea_cons (ev_var rfl) (ea_cons (Evl.ev_is (ev_addS (x := S [91] ++ S wide) (y := S [93]) (ev_addS (x := S [91]) (y := S wide) ev_c (ev_var rfl) (by decide)) ev_c (by decide)) (by rw [S_cat, S_cat])) (ea_cons ev_c (ea_cons ev_c (ea_cons ev_c ea_nil)))))) (by decide)) ⟨v3, rfl⟩ ?_ ?_
      · rintro i x σ' H4 hx ⟨v3, rfl⟩ e4 N hN
        obtain ⟨L, hL, rfl⟩ := mem_strs hx
        refine s_when (b := false) (et_B (ev_call (ea_cons (ev_var rfl) ea_nil) (sp_refN (List.all_eq_true.mp goods_ok L hL)))) (fun z => nomatch z) fun _ H5 e5 => ?_
        exact hN _ _ ⟨_, rfl⟩ e5
      · rintro σ' H4 ⟨v3, rfl⟩ e4
        -- none of these
        refine q_forTu (fun σ => ∃ v3, σ = [some (.ref sa), some (.ref st), v2, v3, v4, some (.str (S wide)), none, none]) (xs := bads.map fun L => V.str (S L)) (eu_tup (ea_cons ev_c (ea_cons (Evl.ev_is (ev_addS (x := S [91] ++ S wide) (y := S [44, 32, 91, 46, 93, 93]) (ev_addS (x := S [91]) (y := S wide) ev_c (ev_var rfl) (by decide)) ev_c (by decide)) (by rw [S_cat, S_cat])) (ea_cons ev_c (ea_cons ev_c (ea_cons ev_c (ea_cons ev_c (ea_cons ev_c (ea_cons ev_c (ea_cons ev_c (ea_cons ev_c ea_nil)))))))))) (by decide)) ⟨v3, rfl⟩ ?_ ?_
        · rintro i x σ' H5 hx ⟨v3, rfl⟩ e5 N hN
          obtain ⟨L, hL, rfl⟩ := mem_strs hx
          have hb := List.all_eq_true.mp bads_ok L hL
          rw [Bool.and_eq_true, Bool.and_eq_true, decide_eq_true_eq] at hb
          have hn : isShape L = false := by simpa using hb.1
          refine s_when (b := false) (et_is (et_not (et_B (ev_call (ea_cons (ev_var rfl) ea_nil) (sp_refY (B := B) ((small_ok hb.2.2).mono hb.2.1) (by decide) hn)))) rfl) (fun z => nomatch z) fun _ H6 e6 => ?_
          exact hN _ _ ⟨_, rfl⟩ e6
        · rintro σ' H5 ⟨v3, rfl⟩ e5
          -- long ones
          refine q_when (b := false) (et_is (et_or (et_not (et_B (ev_long (c := 3000) (RT.mono (er_mul (L := [91]) (n := 3000) (by decide) (by decide) (by decide) (by decide) (by decide)) (by decide)) (by decide)))) fun _ =>
            et_or (et_not (et_B (ev_long (c := 6000) (RT.mono (er_mul (L := [91, 46, 93]) (n := 2000) (by decide) (by decide) (by decide) (by decide) (by decide)) (by decide)) (by decide)))) fun _ =>
            et_not (et_B (ev_long (c := 5000) (RT.mono (er_mul (L := [46]) (n := 5000) (by decide) (by decide) (by decide) (by decide) (by decide)) (by decide)) (by decide)))) rfl) (fun z => nomatch z) fun _ H6 e6 => ?_
          refine q_when (b := false) (et_is (et_or (et_not (et_B (ev_long (c := 1 + 3 * 2000 + 2) (RT.mono (er_add (er_add (er_const (L := [91]) (by decide)) (er_mul (L := [46, 44, 32]) (n := 2000) (by decide) (by decide) (by decide) (by decide) (by decide)) (by decide)) (er_const (L := [46, 93]) (by decide)) (by decide)) (by decide)) (by decide)))) fun _ =>
            et_not (et_B (ev_long (c := 1 * 1200 + 1 + 1 * 1200) (RT.mono (er_add (er_add (er_mul (L := [91]) (n := 1200) (by decide) (by decide) (by decide) (by decide) (by decide)) (er_const (L := [46]) (by decide)) (by decide)) (er_mul (L := [93]) (n := 1200) (by decide) (by decide) (by decide) (by decide) (by decide)) (by decide)) (by decide)) (by decide)))) rfl) (fun z => nomatch z) fun _ H7 e7 => ?_
          -- other things
          refine ⟨1, rfl, 10, 20, rfl, rfl, ⟨by decide, by decide, by decide⟩, Nat.zero_le _, fun p1 n1 => ⟨Nat.zero_le _, fun p2 n2 => ⟨by show 1 ≤ sizeLine; decide, fun p3 n3 => ⟨by show 1 ≤ sizeLine; decide, fun p4 n4 => ⟨by show 3 ≤ sizeLine; decide, fun p5 n5 => ⟨by show 11 ≤ sizeLine; decide, fun pl nl => ?_⟩⟩⟩⟩⟩⟩
          have x1 : Ex H7 (upd H7 p1 (.tup [])) := Ex.new n1
          have h1 : (upd H7 p1 (.tup [])) p1 = some (.tup []) := upd_same
          generalize upd H7 p1 (.tup []) = A1 at x1 h1 n2 n3 n4 n5 nl ⊢
          have x2 : Ex A1 (upd A1 p2 (.lst [])) := Ex.new n2
          have h2 : (upd A1 p2 (.lst [])) p2 = some (.lst []) := upd_same
          generalize upd A1 p2 (.lst []) = A2 at x2 h2 n3 n4 n5 nl ⊢
          have x3 : Ex A2 (upd A2 p3 (.lst [.str (S [46])])) := Ex.new n3
          have h3 : (upd A2 p3 (.lst [.str (S [46])])) p3 = some (.lst [.str (S [46])]) := upd_same
          change (upd (upd A2 p3 (.lst [.str (S [46])])) p4 (.tup [.str (S [46])])) p5 = none at n5
          change (upd A2 p3 (.lst [.str (S [46])])) p4 = none at n4
          change (upd (upd (upd A2 p3 (.lst [.str (S [46])])) p4 (.tup [.str (S [46])])) p5 (.tup [.str (S [91]), .str (S [46]), .str (S [93])])) pl = none at nl
          dsimp only [gName]
          change tRet _ _ _ (upd (upd (upd (upd A2 p3 (.lst [.str (S [46])])) p4 (.tup [.str (S [46])])) p5 (.tup [.str (S [91]), .str (S [46]), .str (S [93])])) pl (.lst [.non, .int 0, .bl true, .bl false, .int (-1), .int (10 ^ (20 : Int).toNat), .ref p1, .ref p2, .ref p3, .ref p4, .ref p5]))
          generalize upd A2 p3 (.lst [.str (S [46])]) = A3 at x3 h3 n4 n5 nl ⊢
          have x4 : Ex A3 (upd A3 p4 (.tup [.str (S [46])])) := Ex.new n4
          have h4 : (upd A3 p4 (.tup [.str (S [46])])) p4 = some (.tup [.str (S [46])]) := upd_same
          generalize upd A3 p4 (.tup [.str (S [46])]) = A4 at x4 h4 n5 nl ⊢
          have x5 : Ex A4 (upd A4 p5 (.tup [.str (S [91]), .str (S [46]), .str (S [93])])) := Ex.new n5
          have h5 : (upd A4 p5 (.tup [.str (S [91]), .str (S [46]), .str (S [93])])) p5 = some (.tup [.str (S [91]), .str (S [46]), .str (S [93])]) := upd_same
          generalize upd A4 p5 (.tup [.str (S [91]), .str (S [46]), .str (S [93])]) = A5 at x5 h5 nl ⊢
          have x6 : Ex A5 (upd A5 pl (.lst [.non, .int 0, .bl true, .bl false, .int (-1), .int (10 ^ (20 : Int).toNat), .ref p1, .ref p2, .ref p3, .ref p4, .ref p5])) := Ex.new nl
          have h6 : (upd A5 pl (.lst [.non, .int 0, .bl true, .bl false, .int (-1), .int (10 ^ (20 : Int).toNat), .ref p1, .ref p2, .ref p3, .ref p4, .ref p5])) pl = some (.lst [.non, .int 0, .bl true, .bl false, .int (-1), .int (10 ^ (20 : Int).toNat), .ref p1, .ref p2, .ref p3, .ref p4, .ref p5]) := upd_same
          generalize upd A5 pl (.lst [.non, .int 0, .bl true, .bl false, .int (-1), .int (10 ^ (20 : Int).toNat), .ref p1, .ref p2, .ref p3, .ref p4, .ref p5]) = A6 at x6 h6 ⊢
          have k5 := x6 _ _ h5
          have k4 := x6 _ _ (x5 _ _ h4)
          have k3 := x6 _ _ (x5 _ _ (x4 _ _ h3))
          have k2 := x6 _ _ (x5 _ _ (x4 _ _ (x3 _ _ h2)))
          have k1 := x6 _ _ (x5 _ _ (x4 _ _ (x3 _ _ (x2 _ _ h1))))
          have things : ∀ x ∈ ([.non, .int 0, .bl true, .bl false, .int (-1), .int (10 ^ (20 : Int).toNat), .ref p1, .ref p2, .ref p3, .ref p4, .ref p5] : List V), Thing K x A6 := by
            intro x hx
            simp only [List.mem_cons, List.not_mem_nil, or_false] at hx
            rcases hx with rfl | rfl | rfl | rfl | rfl | rfl | rfl | rfl | rfl | rfl | rfl
            · exact ⟨.none, false, "NoneType", by decide +kernel, fun _ _ => .non, by decide +kernel, fun _ _ => .base .non, by decide +kernel⟩
            · exact ⟨.int _, false, "int", by decide +kernel, fun _ _ => .int _, by decide +kernel, fun _ _ => .base (.int _), by decide +kernel⟩
            · exact ⟨.bool _, true, "bool", by decide +kernel, fun _ _ => .bl _, by decide +kernel, fun _ _ => .base (.bl _), by decide +kernel⟩
            · exact ⟨.bool _, true, "bool", by decide +kernel, fun _ _ => .bl _, by decide +kernel, fun _ _ => .base (.bl _), by decide +kernel⟩
            · exact ⟨.int _, false, "int", by decide +kernel, fun _ _ => .int _, by decide +kernel, fun _ _ => .base (.int _), by decide +kernel⟩
            · exact ⟨.int _, false, "int", by decide +kernel, fun _ _ => .int _, by decide +kernel, fun _ _ => .base (.int _), by decide +kernel⟩
            · exact ⟨.tuple [], false, "tuple", by decide +kernel, fun H' e => .tup (SqT.of (e _ _ k1)) .nil, by decide +kernel, fun H' e => .base (.tup (e _ _ k1)), by decide +kernel⟩
            · exact ⟨.list [], false, "list", by decide +kernel, fun H' e => .lst (SqL.of (e _ _ k2)) .nil, by decide +kernel, fun H' e => .base (.lst (e _ _ k2)), by decide +kernel⟩
            · exact ⟨.list [.str (S [46])], false, "list", by decide +kernel, fun H' e => .lst (SqL.of (e _ _ k3)) (.cons (.str _) .nil), by decide +kernel, fun H' e => .base (.lst (e _ _ k3)), by decide +kernel⟩
            · exact ⟨.tuple [.str (S [46])], false, "tuple", by decide +kernel, fun H' e => .tup (SqT.of (e _ _ k4)) (.cons (.str _) .nil), by decide +kernel, fun H' e => .base (.tup (e _ _ k4)), by decide +kernel⟩
            · exact ⟨.tuple [.str (S [91]), .str (S [46]), .str (S [93])], false, "tuple", by decide +kernel, fun H' e => .tup (SqT.of (e _ _ k5)) (.cons (.str _) (.cons (.str _) (.cons (.str _) .nil))), by decide +kernel, fun H' e => .base (.tup (e _ _ k5)), by decide +kernel⟩
          have z := el_lcL (K := K) (te := tCall (spRefY K B) [] E0 (tCons (tVar 7) tNil)) (t := tYes) (j := 7) (vs := [7]) (tl := tVar 6) (σ := [some (.ref sa), some (.ref st), v2, v3, v4, some (.str (S wide)), some (.ref pl), none]) (H := A6) (fun _ => true) (fun _ => .bl true) (ev_var rfl) (SqL.of h6) (by show 11 ≤ 40000; decide) wipe1 (fun i x H1 _ _ => et_yes)
            (fun i x H1 e1 hx _ => ev_call (ea_cons (ev_var rfl) ea_nil) (sp_thing ((things x (List.mem_of_getElem? hx)).ex e1)))
          exact s_ret (v := .bl true) (ev_all (bs := [true, true, true, true, true, true, true, true, true, true, true]) z) fun H8 _ => q H8
end
end Hs

set_option maxHeartbeats 4000000
/-! A head with facts by names and a test of one's own. -/
namespace Hc
open PySem PySem.Spec PyProof.Rows L2
def seenK (n : Nat) (g : Addr → Option Obj) : PySem.W.Frag := He.frG g (He.asD g n)
def obsC (n : Nat) (fa : List He.Fa) (fn : List He.DefD) (ex : PySem.W.Frag → Bool) (g : Addr → Option Obj) : Bool × He.AlD := (ex (seenK n g), He.obsD fa fn (seenK n g))
def hookC (n : Nat) (fa : List He.Fa) (fn : List He.DefD) (ex : PySem.W.Frag → Bool) : PySem.W.Hook where
  α := Bool × He.AlD
  obs := fun s => obsC n fa fn ex s.heap.get?
  val := fun _ => (true, He.valD fn)
  says := fun _ h => ∃ K : PySem.W.Frag, K.In h ∧ ex K = true ∧ He.SaysD fa fn K
  of := fun _ _ e => ⟨_, He.frG_in, congrArg Prod.fst e, congrArg Prod.snd e⟩
  keeps := fun _ _ _ ⟨K, hK, c⟩ k => ⟨K, PySem.W.Frag.In.keeps hK k, c⟩
def obC (n : Nat) (fa : List He.Fa) (fn : List He.DefD) (ex : PySem.W.Frag → Bool) (s : PySem.W.SharedT) : Bool × He.AlD := obsC n fa fn ex (HandSHeadRun.getT s)
theorem obC_eq (n : Nat) (fa : List He.Fa) (fn : List He.DefD) (ex : PySem.W.Frag → Bool) (s : PySem.W.SharedT) : obC n fa fn ex s = (hookC n fa fn ex).obs s.abs := by
  have e : HandSHeadRun.getT s = s.abs.heap.get? := funext (HandSHeadRun.getT_eq s)
  show obsC n fa fn ex (HandSHeadRun.getT s) = obsC n fa fn ex s.abs.heap.get?
  rw [e]
/-- a def of the text without defaults -/
theorem fun_of {K : PySem.W.Frag} {x q : Str} {st : Stmt} {f : Addr} {fd : FuncData} (F : FunD K x q (defArgs st) (defBody st) (defScope st) [] [] f fd) : Fun K x q st f fd := by
  obtain ⟨oc, od, dV, kV, doc, pm, an, cdv, ct, osl, e, lk, hcd, hd, _⟩ := F.ex
  rcases hd with ⟨_, rfl⟩ | ⟨h, _⟩
  · exact ⟨⟨oc, od, kV, doc, pm, an, cdv, ct, osl, e, lk, hcd⟩, F.kp⟩
  · exact absurd rfl h
/-- a global def as data; a class's maker -/
def dk (x : Str) (st : Stmt) : He.DefD := ⟨(x, none), x, x, defArgs st, defBody st, defScope st, [], []⟩
def dmk (C m q : Str) (st : Stmt) : He.DefD := ⟨(C, some m), m, q, defArgs st, defBody st, defScope st, [], []⟩
theorem def_of {fa : List He.Fa} {fn : List He.DefD} {K : PySem.W.Frag} (c : He.SaysD fa fn K) (i : Nat) {x : Str} {st : Stmt} (h : fn[i]? = some (dk x st) := by rfl) : ∃ fd, Fun K x x st (He.ga K x) fd := by
  obtain ⟨fd, F⟩ := c.def_ i h
  exact ⟨fd, fun_of F⟩
theorem mth_of {fa : List He.Fa} {fn : List He.DefD} {K : PySem.W.Frag} (c : He.SaysD fa fn K) (i : Nat) {C m q : Str} {st : Stmt} (h : fn[i]? = some (dmk C m q st) := by rfl) : ∃ fd, Fun K m q st (He.ma K (He.ga K C) m) fd := by
  obtain ⟨fd, F⟩ := c.def_ i h
  exact ⟨fd, fun_of F⟩
end Hc

set_option maxHeartbeats 4000000
/-! A head that sees the getters of properties, too. -/
namespace Hc
open PySem PySem.Spec PyProof.Rows L2
def pAd (K : PySem.W.Frag) (C : Addr) (f : Str) : Addr := match PySem.W.findIn K (.ref C) f with
  | some (some (.ref p)) => p
  | _ => 0
def gAd (K : PySem.W.Frag) (C : Addr) (f : Str) : Addr := match PySem.W.recIn K (pAd K C f) "property" with
  | some (.ref g :: _) => g
  | _ => 0
def propB (K : PySem.W.Frag) (C : Addr) (f : Str) : Bool := decide (PySem.W.findIn K (.ref C) f = some (some (.ref (pAd K C f)))) && (decide (PySem.W.specialIn K (.ref (pAd K C f)) "__get__" = some (some (.builtin "property.__get__"))) &&
  (decide (PySem.W.takesIn K (.ref (pAd K C f)) = some true) && (match PySem.W.recIn K (pAd K C f) "property" with
    | some (.ref g :: _) => decide (g = gAd K C f)
    | _ => false)))
theorem propB_ok {K : PySem.W.Frag} {C : Addr} {f : Str} (h : propB K C f = true) : PropOf K C f (pAd K C f) (gAd K C f) := by
  unfold propB at h
  simp only [Bool.and_eq_true, decide_eq_true_eq] at h
  obtain ⟨h1, h2, h3, h4⟩ := h
  refine ⟨h1, h2, h3, ?_⟩
  split at h4
  · rename_i g r e
    rw [of_decide_eq_true h4] at e
    exact ⟨r, e⟩
  · cases h4
def fnA (K : PySem.W.Frag) (a : Addr) : He.FnV := match K.lookup a with
  | some ⟨_, _, .func fd, _⟩ => some (fd.name, fd.qualname, fd.params, fd.body, fd.scope, fd.globals, fd.closure, fd.defaults, fd.builtins)
  | _ => none
def codeA (K : PySem.W.Frag) (a : Addr) (q : Str) : Bool := match K.lookup a with
  | some ⟨_, _, .func fd, _⟩ => PySem.W.codeIn K fd.code q
  | _ => false
def fnVal (x q : Str) (st : Stmt) : He.FnV := some (x, q, defArgs st, .stmts (defBody st), defScope st, mainGlobals, [], .none, builtinsNs)
theorem fnA_ok {K : PySem.W.Frag} {a : Addr} {x q : Str} {st : Stmt} (e : fnA K a = fnVal x q st) (c : codeA K a q = true) :
    ∃ oc od osl kV doc pm an cdv ct, K.lookup a = some ⟨oc, od, .func (PySem.W.fnOf x q (defArgs st) (defBody st) (defScope st) .none kV doc pm an cdv ct), osl⟩ ∧ PySem.W.codeIn K cdv q = true := by
  unfold fnA at e
  unfold codeA at c
  cases z : K.lookup a with
  | none =>
    rw [z] at c
    cases c
  | some o =>
    obtain ⟨oc, od, dt, osl⟩ := o
    rw [z] at c e
    cases dt with
    | func fd =>
      obtain ⟨n1, n2, n3, n4, n5, n6, n7, n8, n9, n10, n11, n12, n13, n14, n15⟩ := fd
      have e2 : (some (n1, n2, n3, n4, n5, n6, n7, n8, n15) : He.FnV) = some (x, q, defArgs st, .stmts (defBody st), defScope st, mainGlobals, [], .none, builtinsNs) := e
      simp only [Option.some.injEq, Prod.mk.injEq] at e2
      obtain ⟨h1, h2, h3, h4, h5, h6, h7, h8, h9⟩ := e2
      subst h1 h2 h3 h4 h5 h6 h7 h8 h9
      exact ⟨oc, od, osl, n9, n10, n11, n12, n13, n14, rfl, c⟩
    | _ => cases c
def obsG3 (n : Nat) (fa : List He.Fa) (fn : List He.DefD) (ex : PySem.W.Frag → Bool) (gt : PySem.W.Frag → List He.FnV) (g : Addr → Option Obj) : Bool × He.AlD × List He.FnV := (ex (seenK n g), He.obsD fa fn (seenK n g), gt (seenK n g))
def hookG (n : Nat) (fa : List He.Fa) (fn : List He.DefD) (ex : PySem.W.Frag → Bool) (gt : PySem.W.Frag → List He.FnV) (gv : List He.FnV) : PySem.W.Hook where
  α := Bool × He.AlD × List He.FnV
  obs := fun s => obsG3 n fa fn ex gt s.heap.get?
  val := fun _ => (true, He.valD fn, gv)
  says := fun _ h => ∃ K : PySem.W.Frag, K.In h ∧ ex K = true ∧ He.SaysD fa fn K ∧ gt K = gv
  of := fun _ _ e => ⟨_, He.frG_in, congrArg Prod.fst e, congrArg (fun z : Bool × He.AlD × List He.FnV => z.2.1) e, congrArg (fun z : Bool × He.AlD × List He.FnV => z.2.2) e⟩
  keeps := fun _ _ _ ⟨K, hK, c⟩ k => ⟨K, PySem.W.Frag.In.keeps hK k, c⟩
def obG (n : Nat) (fa : List He.Fa) (fn : List He.DefD) (ex : PySem.W.Frag → Bool) (gt : PySem.W.Frag → List He.FnV) (s : PySem.W.SharedT) : Bool × He.AlD × List He.FnV := obsG3 n fa fn ex gt (HandSHeadRun.getT s)
theorem obG_eq (n : Nat) (fa : List He.Fa) (fn : List He.DefD) (ex : PySem.W.Frag → Bool) (gt : PySem.W.Frag → List He.FnV) (gv : List He.FnV) (s : PySem.W.SharedT) : obG n fa fn ex gt s = (hookG n fa fn ex gt gv).obs s.abs := by
  have e : HandSHeadRun.getT s = s.abs.heap.get? := funext (HandSHeadRun.getT_eq s)
  show obsG3 n fa fn ex gt (HandSHeadRun.getT s) = obsG3 n fa fn ex gt s.abs.heap.get?
  rw [e]
end Hc

set_option maxHeartbeats 4000000
/-! The text's error classes as data: name, fields, base; what the written part is asked of each, and what follows. -/
namespace Hc
open PySem PySem.Spec PyProof.Rows L2

/-- an error class: its name, the fields of its own maker, whether it stands under RuntimeError -/
structure ErrD where
  name : Str
  fields : List Str
  rt : Bool
def veB : List Value := [.type "ValueError", .type "Exception", .type "BaseException", .type "object"]
def rtB : List Value := [.type "RuntimeError", .type "Exception", .type "BaseException", .type "object"]
def ErrD.bm (d : ErrD) : List Value := if d.rt then rtB else veB
def ErrD.newId (d : ErrD) : String := if d.rt then "RuntimeError.__new__" else "ValueError.__new__"
def eqV2 (a b : Option (Option Value)) : Bool := decide (a = b)
/-- what the written part is asked of the class at C -/
def xcOk (K : PySem.W.Frag) (C : Addr) (d : ErrD) : Bool :=
  PySem.W.excInitIn K C d.bm d.newId && (PySem.W.excOver K C d.bm && (PySem.W.hasDictIn K C && (eqV2 (PySem.W.findIn K (.ref C) "__setattr__") (some (some (.builtin "object.__setattr__"))) && (PySem.W.keepIn K (.ref C) &&
  (eqV2 (PySem.W.findIn K (.ref C) "__getattribute__") (some (some (.builtin "BaseException.__getattribute__"))) && (eqV2 (PySem.W.findIn K (.ref C) "__getattr__") (some none) && (decide (PySem.W.subIn K (.ref C) (.type "BaseException") = some true) &&
  (eqV2 (PySem.W.findIn K (.ref C) "__class__") (some (some (.builtin "object.__class__"))) && (eqV2 (PySem.W.specialIn K (.builtin "object.__class__") "__get__") (some (some (.builtin "getset_descriptor.__get__"))) && (decide (PySem.W.takesIn K (.builtin "object.__class__") = some true) &&
  decide (PySem.W.mroIn K C (.type "object") = some true)))))))))))
theorem xcOk_ok {K : PySem.W.Frag} {C : Addr} {d : ErrD} (h : xcOk K C d = true) : Xc K C d.bm d.newId := by
  unfold xcOk eqV2 at h
  simp only [Bool.and_eq_true, decide_eq_true_eq] at h
  obtain ⟨h1, h2, h3, h4, h5, h6, h7, h8, h9, h10, h11, h12⟩ := h
  exact ⟨h1, h2, h3, h4, h5, ⟨h6, h7, h8, h3⟩, ⟨h6, h7, h8, h3, h9, h10, h11, h12⟩⟩
/-- a class with its own maker: the maker's def, the fields that no class holds -/
def mkOk (K : PySem.W.Frag) (C : Addr) (d : ErrD) : Bool :=
  if d.fields.isEmpty then PySem.W.excIn K C d.bm d.newId else
  eqV2 (PySem.W.findIn K (.ref C) "__init__") (some (some (.ref (He.ma K C "__init__")))) && (PySem.W.isFn K (.ref (He.ma K C "__init__")) && d.fields.all fun f => eqV2 (PySem.W.findIn K (.ref C) f) (some none))
def glOk (K : PySem.W.Frag) (x : Str) : Bool := eqV2 (PySem.W.nsIn K mainGlobals x) (some (some (.ref (He.ga K x))))
/-- the class of the i-th error -/
def ec (K : PySem.W.Frag) (errs : List ErrD) (i : Nat) : Addr := match errs[i]? with
  | some d => He.ga K d.name
  | none => 0
def errOk (K : PySem.W.Frag) (d : ErrD) : Bool := glOk K d.name && (xcOk K (He.ga K d.name) d && mkOk K (He.ga K d.name) d)
def errsOk (K : PySem.W.Frag) (errs : List ErrD) : Bool := errs.all (errOk K)
/-- which is whose -/
def kitOk (K : PySem.W.Frag) (errs : List ErrD) : Bool := (List.range errs.length).all fun i => (List.range errs.length).all fun j => decide (PySem.W.kitOne K (.ref (ec K errs i)) (.ref (ec K errs j)) = some (decide (i = j)))
def kitTo (K : PySem.W.Frag) (errs : List ErrD) (u : Value) (b : ErrD → Bool) : Bool := errs.all fun d => decide (PySem.W.kitOne K (.ref (He.ga K d.name)) u = some (b d))

section
variable {K : PySem.W.Frag} {errs : List ErrD}
theorem err_at (h : errsOk K errs = true) {d : ErrD} (hd : d ∈ errs) : PySem.W.nsIn K mainGlobals d.name = some (some (.ref (He.ga K d.name))) ∧ Xc K (He.ga K d.name) d.bm d.newId ∧ mkOk K (He.ga K d.name) d = true := by
  have h1 := List.all_eq_true.mp h d hd
  unfold errOk glOk eqV2 at h1
  simp only [Bool.and_eq_true, decide_eq_true_eq] at h1
  exact ⟨h1.1, xcOk_ok h1.2.1, h1.2.2⟩
theorem mk_at {C : Addr} {d : ErrD} (h : mkOk K C d = true) (hf : d.fields.isEmpty = false) : PySem.W.findIn K (.ref C) "__init__" = some (some (.ref (He.ma K C "__init__"))) ∧ PySem.W.isFn K (.ref (He.ma K C "__init__")) = true ∧ ∀ f ∈ d.fields, PySem.W.findIn K (.ref C) f = some none := by
  unfold mkOk at h
  rw [hf, if_neg Bool.false_ne_true] at h
  unfold eqV2 at h
  simp only [Bool.and_eq_true, decide_eq_true_eq, List.all_eq_true] at h
  exact ⟨h.1, h.2.1, h.2.2⟩
theorem mk_no {C : Addr} {d : ErrD} (h : mkOk K C d = true) (hf : d.fields.isEmpty = true) : PySem.W.excIn K C d.bm d.newId = true := by
  unfold mkOk at h
  rw [hf, if_pos rfl] at h
  exact h
theorem ec_at {i : Nat} {d : ErrD} (h : errs[i]? = some d) : ec K errs i = He.ga K d.name := by
  unfold ec
  rw [h]
theorem kit_at (h : kitOk K errs = true) {i j : Nat} (hi : i < errs.length) (hj : j < errs.length) : PySem.W.kitOne K (.ref (ec K errs i)) (.ref (ec K errs j)) = some (decide (i = j)) :=
  of_decide_eq_true (List.all_eq_true.mp (List.all_eq_true.mp h i (List.mem_range.mpr hi)) j (List.mem_range.mpr hj))
theorem kit_to {u : Value} {b : ErrD → Bool} (h : kitTo K errs u b = true) {i : Nat} {d : ErrD} (hi : errs[i]? = some d) : PySem.W.kitOne K (.ref (ec K errs i)) u = some (b d) := by
  rw [ec_at hi]
  exact of_decide_eq_true (List.all_eq_true.mp h d (List.mem_of_getElem? hi))
end

/-! ### the makers -/
/-- what a maker of one field does -/
def spIni1 (K : PySem.W.Frag) (bmB : List Value) (newId : String) (f : Str) : Sp := fun vs H Q _ => ∃ (a C : Addr) (v : V), vs = [.ref a, v] ∧ H a = some (exo a C none) ∧ Xc K C bmB newId ∧ PySem.W.findIn K (.ref C) f = some none ∧
  ∀ dx, H dx = none → dx ≠ a → Q .non (upd (upd H dx (exd dx [(f, v)])) a (exo a C (some dx)))
section
variable {P : Program} {w : World} {K : PySem.W.Frag} {mg : Str → Option Value} {base : Heap} {B newId : String} {bmB : List Value}
theorem ok_ini1 {fI : Addr} {fd : FuncData} {qual : Str} {st : Stmt} {fld : Str} {p1 p2 p3 p4 : Pos} (SF : StoreFacts B bmB "object.__setattr__" "object") (F : Fun K "__init__" qual st fI fd) (S : FnScope ["self", fld] ["self", fld] (defScope st))
    (hB : defBody st = [.Assign [.Attribute (.Name "self" p1) fld p2] (.Name fld p3) p4]) (v1 : (defScope st).names.lookup ("self" : Str) = some .local) (v2 : (defScope st).names.lookup fld = some .local)
    (d1 : (fld == ("__debug__" : Str)) = false) (d2 : (fld == ("__classdict__" : Str)) = false) : FnOk P w K mg base CX0 1 fI fd ["self", fld] (spIni1 K bmB newId fld) := by
  refine F.ok S (fun vs H Q E h => ?_) (fun cdv A outer s H vs Q E hr h => ?_)
  · obtain ⟨a, C, v, rfl, _⟩ := h
    rfl
  · obtain ⟨a, C, v, rfl, ha, T, no, q⟩ := h
    rw [hB]
    exact ⟨_, pss_one (ps_xst (newId := newId) SF (pv 0 rfl (Or.inl v1)) (pv 1 rfl (Or.inl v2) d1 d2)), _, rfl, _, rfl, a, C, rfl, T, no, .inl ⟨ha, fun dx n ne => q dx n ne⟩⟩
end

/-! ### what is made and read in passing -/
section
open Evl
variable {K : PySem.W.Frag} {σ : L2.St} {H : Hp} {te : TE} {bmB : List Value} {newId : String} {C : Addr} {f : Str} {v : V}
/-- at a an error of the class at C, with some fields -/
def ErrAt (H : Hp) (a C : Addr) (fs : List (Str × V)) : Prop := ∃ dd, H a = some (exo a C (some dd)) ∧ H dd = some (exd dd fs)
/-- .. of any kind -/
def ErrIs (H : Hp) (a C : Addr) : Prop := H a = some (exo a C none) ∨ ∃ (dd : Addr) (fs : List (Str × V)), H a = some (exo a C (some dd)) ∧ H dd = some (exd dd fs)
theorem ErrAt.is {a C : Addr} {fs : List (Str × V)} (h : ErrAt H a C fs) : ErrIs H a C := by
  obtain ⟨dd, h1, h2⟩ := h
  exact .inr ⟨dd, fs, h1, h2⟩
theorem ErrIs.ex {H' : Hp} {a C : Addr} (h : ErrIs H a C) (e : Ex H H') : ErrIs H' a C := by
  rcases h with h | ⟨dd, fs, h1, h2⟩
  · exact .inl (e _ _ h)
  · exact .inr ⟨dd, fs, e _ _ h1, e _ _ h2⟩
theorem ErrAt.ex {H' : Hp} {a C : Addr} {fs : List (Str × V)} (h : ErrAt H a C fs) (e : Ex H H') : ErrAt H' a C fs := by
  obtain ⟨dd, h1, h2⟩ := h
  exact ⟨dd, e _ _ h1, e _ _ h2⟩
theorem exo_upd {H1 : Hp} {a dx : Addr} {o p : HO} (n : H1 a = none) (nd : H1 dx = none) (ne : dx ≠ a) {q : HO} : Ex H1 (upd (upd (upd H1 a o) dx p) a q) := fun b u e => by
  rw [upd_ne (ne_of_none e n), upd_ne (ne_of_none e nd), upd_ne (ne_of_none e n)]
  exact e
/-- an expression that makes an error of the class at C with such fields -/
def EvE (te : TE) (σ : L2.St) (H : Hp) (C : Addr) (fs : List (Str × V)) : Prop := ∀ H1, Ex H H1 → ∀ Q : VK, (∀ a H2, Ex H1 H2 → H1 a = none → ErrAt H2 a C fs → Q (.ref a) H2) → te σ H1 Q
theorem ee_mk1 (T : Xc K C bmB newId) (no : PySem.W.findIn K (.ref C) f = some none) (h : Ev te σ H v) : EvE (tXmk C (spIni1 K bmB newId f) (tCons te tNil)) σ H C [(f, v)] := fun H1 e Q q =>
  h H1 e _ fun H2 e2 => ⟨by show 1 ≤ 1000; decide, fun a na => ⟨a, C, v, rfl, upd_same, T, no, fun dx nd ne => by
    rw [upd_ne ne] at nd
    refine ⟨rfl, q a _ (e2.trans (exo_upd na nd ne)) (fresh_back e2 na) ⟨dx, upd_same, ?_⟩⟩
    rw [upd_ne ne, upd_same]⟩⟩
theorem ev_fld {fs : List (Str × V)} (T : XfC K C) (no : PySem.W.findIn K (.ref C) f = some none) (h : EvE te σ H C fs) (l : fs.lookup f = some v) : Ev (tXfd K f te) σ H v := fun H1 e Q q =>
  h H1 e _ fun a H2 e2 na ⟨dd, h1, h2⟩ => ⟨a, C, dd, fs, v, rfl, h1, h2, T, no, l, q H2 e2⟩
theorem ev_fldV {fs : List (Str × V)} {a : Addr} (T : XfC K C) (no : PySem.W.findIn K (.ref C) f = some none) (h : Ev te σ H (.ref a)) (x : ErrAt H a C fs) (l : fs.lookup f = some v) : Ev (tXfd K f te) σ H v := fun H1 e Q q =>
  h H1 e _ fun H2 e2 => by
    obtain ⟨dd, h1, h2⟩ := x
    exact ⟨a, C, dd, fs, v, rfl, e2 _ _ (e _ _ h1), e2 _ _ (e _ _ h2), T, no, l, q H2 e2⟩
end

/-! ### makers of two and three fields -/
def spIni2 (K : PySem.W.Frag) (bmB : List Value) (newId : String) (f g : Str) : Sp := fun vs H Q _ => ∃ (a C : Addr) (v u : V), vs = [.ref a, v, u] ∧ H a = some (exo a C none) ∧ Xc K C bmB newId ∧ PySem.W.findIn K (.ref C) f = some none ∧ PySem.W.findIn K (.ref C) g = some none ∧
  ∀ dx (H' : Hp), H dx = none → dx ≠ a → (∀ b, b ≠ a → b ≠ dx → H' b = H b) → H' a = some (exo a C (some dx)) → H' dx = some (exd dx [(g, u), (f, v)]) → Q .non H'
def spIni3 (K : PySem.W.Frag) (bmB : List Value) (newId : String) (f g j : Str) : Sp := fun vs H Q _ => ∃ (a C : Addr) (v u z : V), vs = [.ref a, v, u, z] ∧ H a = some (exo a C none) ∧ Xc K C bmB newId ∧ PySem.W.findIn K (.ref C) f = some none ∧ PySem.W.findIn K (.ref C) g = some none ∧ PySem.W.findIn K (.ref C) j = some none ∧
  ∀ dx (H' : Hp), H dx = none → dx ≠ a → (∀ b, b ≠ a → b ≠ dx → H' b = H b) → H' a = some (exo a C (some dx)) → H' dx = some (exd dx [(j, z), (g, u), (f, v)]) → Q .non H'
section
variable {P : Program} {w : World} {K : PySem.W.Frag} {mg : Str → Option Value} {base : Heap} {B newId : String} {bmB : List Value}
theorem ok_ini2 {fI : Addr} {fd : FuncData} {qual : Str} {st : Stmt} {f g : Str} {p1 p2 p3 p4 q1 q2 q3 q4 : Pos} (SF : StoreFacts B bmB "object.__setattr__" "object") (F : Fun K "__init__" qual st fI fd) (S : FnScope ["self", f, g] ["self", f, g] (defScope st))
    (hB : defBody st = [.Assign [.Attribute (.Name "self" p1) f p2] (.Name f p3) p4, .Assign [.Attribute (.Name "self" q1) g q2] (.Name g q3) q4]) (v1 : (defScope st).names.lookup ("self" : Str) = some .local) (v2 : (defScope st).names.lookup f = some .local) (v3 : (defScope st).names.lookup g = some .local)
    (d1 : (f == ("__debug__" : Str)) = false) (d2 : (f == ("__classdict__" : Str)) = false) (d3 : (g == ("__debug__" : Str)) = false) (d4 : (g == ("__classdict__" : Str)) = false) : FnOk P w K mg base CX0 1 fI fd ["self", f, g] (spIni2 K bmB newId f g) := by
  refine F.ok S (fun vs H Q E h => ?_) (fun cdv A outer s H vs Q E hr h => ?_)
  · obtain ⟨a, C, v, u, rfl, _⟩ := h
    rfl
  · obtain ⟨a, C, v, u, rfl, ha, T, no, no2, q⟩ := h
    rw [hB]
    refine ⟨_, pss_cons (ps_xst (newId := newId) SF (pv 0 rfl (Or.inl v1)) (pv 1 rfl (Or.inl v2) d1 d2)) (pss_one (ps_xst (newId := newId) SF (pv 0 rfl (Or.inl v1)) (pv 2 rfl (Or.inl v3) d3 d4))), _, rfl, _, rfl, a, C, rfl, T, no, .inl ⟨ha, fun dx n ne => ?_⟩⟩
    refine ⟨_, rfl, _, rfl, a, C, rfl, T, no2, .inr ⟨dx, [(f, v)], upd_same, ?_, by show 1 ≤ 900; decide, q dx _ n ne (fun b h1 h2 => ?_) ?_ upd_same⟩⟩
    · rw [upd_ne ne, upd_same]
    · rw [upd_ne h2, upd_ne h1, upd_ne h2]
    · rw [upd_ne ne.symm, upd_same]
theorem ok_ini3 {fI : Addr} {fd : FuncData} {qual : Str} {st : Stmt} {f g j : Str} {p1 p2 p3 p4 q1 q2 q3 q4 r1 r2 r3 r4 : Pos} (SF : StoreFacts B bmB "object.__setattr__" "object") (F : Fun K "__init__" qual st fI fd) (S : FnScope ["self", f, g, j] ["self", f, g, j] (defScope st))
    (hB : defBody st = [.Assign [.Attribute (.Name "self" p1) f p2] (.Name f p3) p4, .Assign [.Attribute (.Name "self" q1) g q2] (.Name g q3) q4, .Assign [.Attribute (.Name "self" r1) j r2] (.Name j r3) r4]) (v1 : (defScope st).names.lookup ("self" : Str) = some .local) (v2 : (defScope st).names.lookup f = some .local) (v3 : (defScope st).names.lookup g = some .local) (v4 : (defScope st).names.lookup j = some .local)
    (d1 : (f == ("__debug__" : Str)) = false) (d2 : (f == ("__classdict__" : Str)) = false) (d3 : (g == ("__debug__" : Str)) = false) (d4 : (g == ("__classdict__" : Str)) = false) (d5 : (j == ("__debug__" : Str)) = false) (d6 : (j == ("__classdict__" : Str)) = false) : FnOk P w K mg base CX0 1 fI fd ["self", f, g, j] (spIni3 K bmB newId f g j) := by
  refine F.ok S (fun vs H Q E h => ?_) (fun cdv A outer s H vs Q E hr h => ?_)
  · obtain ⟨a, C, v, u, z, rfl, _⟩ := h
    rfl
  · obtain ⟨a, C, v, u, z, rfl, ha, T, no, no2, no3, q⟩ := h
    rw [hB]
    refine ⟨_, pss_cons (ps_xst (newId := newId) SF (pv 0 rfl (Or.inl v1)) (pv 1 rfl (Or.inl v2) d1 d2)) (pss_cons (ps_xst (newId := newId) SF (pv 0 rfl (Or.inl v1)) (pv 2 rfl (Or.inl v3) d3 d4)) (pss_one (ps_xst (newId := newId) SF (pv 0 rfl (Or.inl v1)) (pv 3 rfl (Or.inl v4) d5 d6)))), _, rfl, _, rfl, a, C, rfl, T, no, .inl ⟨ha, fun dx n ne => ?_⟩⟩
    refine ⟨_, rfl, _, rfl, a, C, rfl, T, no2, .inr ⟨dx, [(f, v)], upd_same, ?_, by show 1 ≤ 900; decide, ?_⟩⟩
    · rw [upd_ne ne, upd_same]
    refine ⟨_, rfl, _, rfl, a, C, rfl, T, no3, .inr ⟨dx, [(g, u), (f, v)], ?_, upd_same, by show 2 ≤ 900; decide, q dx _ n ne (fun b h1 h2 => ?_) ?_ upd_same⟩⟩
    · rw [upd_ne ne.symm, upd_same]
    · rw [upd_ne h2, upd_ne h2, upd_ne h1, upd_ne h2]
    · rw [upd_ne ne.symm, upd_ne ne.symm, upd_same]
end
section
open Evl
variable {K : PySem.W.Frag} {σ : L2.St} {H : Hp} {te tf tg : TE} {bmB : List Value} {newId : String} {C : Addr} {f g j : Str} {v u z : V}
theorem ext_mk {H1 H' : Hp} {a dx : Addr} {o : HO} (n : H1 a = none) (nd : H1 dx = none) (h : ∀ b, b ≠ a → b ≠ dx → H' b = upd H1 a o b) : Ex H1 H' := fun b x e => by
  rw [h b (ne_of_none e n) (ne_of_none e nd), upd_ne (ne_of_none e n)]
  exact e
theorem ee_mk2 (T : Xc K C bmB newId) (no : PySem.W.findIn K (.ref C) f = some none) (no2 : PySem.W.findIn K (.ref C) g = some none) (h1 : Ev te σ H v) (h2 : Ev tf σ H u) : EvE (tXmk C (spIni2 K bmB newId f g) (tCons te (tCons tf tNil))) σ H C [(g, u), (f, v)] := fun H1 e Q q =>
  h1 H1 e _ fun H2 e2 => h2 H2 (e.trans e2) _ fun H3 e3 => ⟨by show 2 ≤ 1000; decide, fun a na => ⟨a, C, v, u, rfl, upd_same, T, no, no2, fun dx H' nd ne hk ha hd => by
    rw [upd_ne ne] at nd
    exact ⟨rfl, q a _ ((e2.trans e3).trans (ext_mk na nd hk)) (fresh_back (e2.trans e3) na) ⟨dx, ha, hd⟩⟩⟩⟩
theorem ee_mk3 (T : Xc K C bmB newId) (no : PySem.W.findIn K (.ref C) f = some none) (no2 : PySem.W.findIn K (.ref C) g = some none) (no3 : PySem.W.findIn K (.ref C) j = some none) (h1 : Ev te σ H v) (h2 : Ev tf σ H u) (h3 : Ev tg σ H z) :
    EvE (tXmk C (spIni3 K bmB newId f g j) (tCons te (tCons tf (tCons tg tNil)))) σ H C [(j, z), (g, u), (f, v)] := fun H1 e Q q =>
  h1 H1 e _ fun H2 e2 => h2 H2 (e.trans e2) _ fun H3 e3 => h3 H3 ((e.trans e2).trans e3) _ fun H4 e4 => ⟨by show 3 ≤ 1000; decide, fun a na => ⟨a, C, v, u, z, rfl, upd_same, T, no, no2, no3, fun dx H' nd ne hk ha hd => by
    rw [upd_ne ne] at nd
    exact ⟨rfl, q a _ (((e2.trans e3).trans e4).trans (ext_mk na nd hk)) (fresh_back ((e2.trans e3).trans e4) na) ⟨dx, ha, hd⟩⟩⟩⟩
/-- of a class without a maker -/
theorem e0_mk {H1 : Hp} {C : Addr} {Q : VK} (q : ∀ a H2, Ex H1 H2 → H1 a = none → ErrIs H2 a C → Q (.ref a) H2) : ∀ a, H1 a = none → Q (.ref a) (upd H1 a (exo a C none)) := fun a na => q a _ (Ex.new na) na (.inl upd_same)
end
end Hc

set_option maxHeartbeats 4000000
namespace Hc
open PySem PySem.Spec PyProof.Rows L2
/-- an own class below ValueError whose instances have a dict -/
def oexB (K : PySem.W.Frag) (C : Addr) : Bool := match K.lookup C with
  | some ⟨.type "type", _, .cls cd, sl⟩ => (match cd.mro, sl.toList with
    | .ref C' :: bm, [_, _, _, _, some (.builtin n), _] => decide (C' = C) && (decide (n = "ValueError.__new__") && (!cd.hasDel && (cd.hasDict && PySem.HandSPX.refsVE bm)))
    | _, _ => false)
  | _ => false
theorem oexB_ok {K : PySem.W.Frag} {C : Addr} (h : oexB K C = true) : ∃ nm q N bs bm sn sub ab col dd k0 k1 k2 k3 k5, K.lookup C = some (excClassObj nm q C N bs bm true sn sub ab col dd k0 k1 k2 k3 k5 "ValueError.__new__") ∧ PySem.HandSPX.refsVE bm = true := by
  unfold oexB at h
  split at h
  · rename_i dd cd sl ho
    split at h
    · rename_i C' bm k0 k1 k2 k3 n k5 hm hs
      simp only [Bool.and_eq_true, decide_eq_true_eq, Bool.not_eq_true'] at h
      obtain ⟨rfl, rfl, hdel, hdict, hve⟩ := h
      obtain ⟨nm, bs, mro, ns, qn, hd, sn, sub, ab, col, del⟩ := cd
      dsimp only at hm hdel hdict
      subst hm hdel hdict
      have hsl : sl = #[k0, k1, k2, k3, some (.builtin "ValueError.__new__"), k5] := by
        rw [← hs]
      subst hsl
      exact ⟨nm, qn, ns, bs, bm, sn, sub, ab, col, dd, k0, k1, k2, k3, k5, ho, hve⟩
    · cases h
  · cases h
end Hc

set_option maxHeartbeats 0
namespace Hs
open PySem PySem.Spec PyProof.Rows L2 Hc
def bsD : ErrD := ⟨"BadShape", ["text"], false⟩
def fn02 : List He.DefD := [dk "_law_start" (top 14), dk "_law_draw" (top 15), dk "_law_of" (top 16), dk "_law_tree" (top 17), dk "_law_lists" (top 18), dk "_law_text" (top 20), dk "_law_end" (top 21), dk "_law_refused" (top 22), dk "_law_right" (top 23), dk "_law_bent" (top 24), dk "law" (top 25), dk "parts_of" (top 5), dk "is_shape" (top 10), dk "has_form" (top 11), dmk "Shape" "__init__" "Shape.__init__" (inClass (top 12) 0), dmk "BadShape" "__init__" "BadShape.__init__" (inClass (top 2) 0)]
def fa02 : List He.Fa := [.glo "_law_start", .glo "_law_draw", .glo "_law_of", .glo "_law_tree", .glo "_law_lists", .glo "_law_text", .glo "_law_end", .glo "_law_refused", .glo "_law_right", .glo "_law_bent", .glo "law", .glo "parts_of", .glo "is_shape", .glo "has_form", .glo "Shape", .glo "BadShape", .glo "HandedcopiesError", .glo "BadLine", .free "int", .free "abs", .free "len", .free "enumerate", .free "all", .free "isinstance", .free "str", .free "tuple", .free "max", .free "sum", .free "range", .free "bool", .free "ValueError", .int "MOST_ITEMS" 3, .int "MOST_DEPTH" 3, .int "MOST_LISTS" 5, .cls "Shape", .noat "Shape" "text", .noat "Shape" "_parts", .noat "Shape" "_depth", .noat "Shape" "_lists", .mkr "Shape"]
def ex02 (K : PySem.W.Frag) : Bool := decide (PySem.W.findIn K (.ref (He.ga K "Shape")) "__class__" = some (some (.builtin "object.__class__"))) &&
  (decide (PySem.W.specialIn K (.builtin "object.__class__") "__get__" = some (some (.builtin "getset_descriptor.__get__"))) &&
  (decide (PySem.W.takesIn K (.builtin "object.__class__") = some true) &&
  (decide (PySem.W.mroIn K (He.ga K "Shape") (.type "object") = some true) &&
  (propB K (He.ga K "Shape") "depth" &&
  (propB K (He.ga K "Shape") "lists" &&
  (codeA K (gAd K (He.ga K "Shape") "depth") "Shape.depth" &&
  (codeA K (gAd K (He.ga K "Shape") "lists") "Shape.lists" &&
  (oexB K (He.ga K "BadShape") &&
  (xcOk K (He.ga K "BadShape") bsD &&
  (decide (PySem.W.findIn K (.ref (He.ga K "BadShape")) "__init__" = some (some (.ref (He.ma K (He.ga K "BadShape") "__init__")))) &&
  (decide (PySem.W.typeIn K (.ref (He.ma K (He.ga K "BadShape") "__init__")) = some (.type "function")) &&
  (decide (PySem.W.findIn K (.ref (He.ga K "BadShape")) "text" = some none) &&
  (decide (PySem.W.typeIn K (.ref (He.ga K "BadShape")) = some (.type "type")) &&
  (decide (PySem.W.exmOne K (.ref (He.ga K "BadShape")) (.ref (He.ga K "HandedcopiesError")) = some true) &&
  (decide (PySem.W.kitOne K (.ref (He.ga K "BadShape")) (.ref (He.ga K "BadShape")) = some true) &&
  (decide (PySem.W.kitOne K (.ref (He.ga K "BadShape")) (.ref (He.ga K "BadLine")) = some false) &&
  (decide (PySem.W.kitOne K (.ref (He.ga K "BadShape")) (.type "ValueError") = some true))))))))))))))))))
def gt02 (K : PySem.W.Frag) : List He.FnV := [fnA K (gAd K (He.ga K "Shape") "depth"), fnA K (gAd K (He.ga K "Shape") "lists")]
def gv02 : List He.FnV := [fnVal "depth" "Shape.depth" (inClass (top 12) 1), fnVal "lists" "Shape.lists" (inClass (top 12) 2)]
abbrev R02 : PySem.W.OpenRow := PySem.W.OpenLaw.row PySem.Challenge.rw_handedcopies_k02_shapes_refused
def lo02 : List Str := ["HandedcopiesError", "BadShape", "BadLine", "parts_of", "MOST_DEPTH", "MOST_ITEMS", "MOST_LISTS", "is_shape", "has_form", "Shape", "_law_start", "_law_draw", "_law_of", "_law_tree", "_law_lists", "_law_depth", "_law_text", "_law_end", "_law_refused", "_law_right", "_law_bent"]
theorem run02 (w : World) : HandSHeadRun.RunEq R02 (PySem.W.view R02.prog [25]) (hookG 8 fa02 fn02 ex02 gt02 gv02) (obG 8 fa02 fn02 ex02 gt02) 12000 lo02 w := by
  intro os
  kernel_rfl
end Hs

set_option maxHeartbeats 4000000
namespace Hs
open PySem PySem.Spec PyProof.Rows L2 Hc
theorem pr_of {P : Program} {w : World} {K : PySem.W.Frag} {mg : Str → Option Value} {base : Heap} {C : Addr} {f q fld : Str} {st : Stmt} {p1 p2 p3 : Pos} (h : propB K C f = true) (e : fnA K (gAd K C f) = fnVal f q st) (cd : codeA K (gAd K C f) q = true) (S : FnScope ["self"] ["self"] (defScope st)) (hb : defBody st = [.Return (some (.Attribute (.Name "self" p1) fld p2)) p3])
    (bd : ∀ (kV doc pm : Value) (an : Option Addr) (cdv ct : Value) (us : List Value), us.length = 1 → bindArgs (PySem.W.fnOf f q (defArgs st) (defBody st) (defScope st) .none kV doc pm an cdv ct) ⟨us, []⟩ = pure ((["self"] : List Str).zip us)) (c : Cls K C) (n : NoAttr K C fld) : Pr P w K mg base C f fld 1 := by
  obtain ⟨oc, od, osl, kV, doc, pm, an, cdv, ct, lk, hcd⟩ := fnA_ok e cd
  exact ⟨_, _, _, propB_ok h, .all fun us hl => bd kV doc pm an cdv ct us hl, fn_getter lk hcd S rfl hb c n⟩
theorem facts02 {P : Program} {w : World} {K : PySem.W.Frag} {h : Heap} {mg : Str → Option Value} {f : Addr} (X : K.In h) (G : h.Ns mainGlobals mg) (hfa : mg ("law" : Str) = some (.ref f)) (x : ex02 K = true) (c : He.SaysD fa02 fn02 K) (gg : gt02 K = gv02) :
    ∃ fd : FuncData, (∀ (s : Shared) (v : Value), BindsTo s fd ⟨[v], []⟩ [("_law_script", v)]) ∧ ∀ base : Heap, K.In base → base.Ns mainGlobals mg → FnOk P w K mg base CX0 17 f fd ["_law_script"] (spLaw K) := by
  unfold ex02 at x
  simp only [Bool.and_eq_true, decide_eq_true_eq] at x
  obtain ⟨y1, y2, y3, y4, y5, y6, y7, y8, y9, y10, y11, y12, y13, y14, y15, y16, y17, y18⟩ := x
  have gg1 : fnA K (gAd K (He.ga K "Shape") "depth") = fnVal "depth" "Shape.depth" (inClass (top 12) 1) := (List.cons.inj gg).1
  have gg2 : fnA K (gAd K (He.ga K "Shape") "lists") = fnVal "lists" "Shape.lists" (inClass (top 12) 2) := (List.cons.inj (List.cons.inj gg).2).1
  obtain ⟨fd_start, F_start⟩ := def_of (x := "_law_start") (st := top 14) c 0
  have g_start := He.glo_ok X G (c.fact 0 (f := .glo "_law_start") rfl)
  have b_start : Binds K fd_start ["_law_script"] [] := F_start.binds fun _ _ _ _ _ _ us hl => match us, hl with | [_], _ => rfl
  obtain ⟨fd_draw, F_draw⟩ := def_of (x := "_law_draw") (st := top 15) c 1
  have g_draw := He.glo_ok X G (c.fact 1 (f := .glo "_law_draw") rfl)
  have b_draw : Binds K fd_draw ["_law_state", "_law_many"] [] := F_draw.binds fun _ _ _ _ _ _ us hl => match us, hl with | [_, _], _ => rfl
  obtain ⟨fd_of, F_of⟩ := def_of (x := "_law_of") (st := top 16) c 2
  have g_of := He.glo_ok X G (c.fact 2 (f := .glo "_law_of") rfl)
  have b_of : Binds K fd_of ["_law_state", "_law_some"] [] := F_of.binds fun _ _ _ _ _ _ us hl => match us, hl with | [_, _], _ => rfl
  obtain ⟨fd_tree, F_tree⟩ := def_of (x := "_law_tree") (st := top 17) c 3
  have g_tree := He.glo_ok X G (c.fact 3 (f := .glo "_law_tree") rfl)
  have b_tree : Binds K fd_tree ["_law_state", "_law_floors", "_law_room"] [] := F_tree.binds fun _ _ _ _ _ _ us hl => match us, hl with | [_, _, _], _ => rfl
  obtain ⟨fd_lists, F_lists⟩ := def_of (x := "_law_lists") (st := top 18) c 4
  have g_lists := He.glo_ok X G (c.fact 4 (f := .glo "_law_lists") rfl)
  have b_lists : Binds K fd_lists ["_law_tree_here"] [] := F_lists.binds fun _ _ _ _ _ _ us hl => match us, hl with | [_], _ => rfl
  obtain ⟨fd_text, F_text⟩ := def_of (x := "_law_text") (st := top 20) c 5
  have g_text := He.glo_ok X G (c.fact 5 (f := .glo "_law_text") rfl)
  have b_text : Binds K fd_text ["_law_tree_here"] [] := F_text.binds fun _ _ _ _ _ _ us hl => match us, hl with | [_], _ => rfl
  obtain ⟨fd_end, F_end⟩ := def_of (x := "_law_end") (st := top 21) c 6
  have g_end := He.glo_ok X G (c.fact 6 (f := .glo "_law_end") rfl)
  have b_end : Binds K fd_end ["_law_text_here", "_law_at", "_law_floors"] [] := F_end.binds fun _ _ _ _ _ _ us hl => match us, hl with | [_, _, _], _ => rfl
  obtain ⟨fd_refused, F_refused⟩ := def_of (x := "_law_refused") (st := top 22) c 7
  have g_refused := He.glo_ok X G (c.fact 7 (f := .glo "_law_refused") rfl)
  have b_refused : Binds K fd_refused ["_law_thing"] [] := F_refused.binds fun _ _ _ _ _ _ us hl => match us, hl with | [_], _ => rfl
  obtain ⟨fd_right, F_right⟩ := def_of (x := "_law_right") (st := top 23) c 8
  have g_right := He.glo_ok X G (c.fact 8 (f := .glo "_law_right") rfl)
  have b_right : Binds K fd_right ["_law_text_here"] [] := F_right.binds fun _ _ _ _ _ _ us hl => match us, hl with | [_], _ => rfl
  obtain ⟨fd_bent, F_bent⟩ := def_of (x := "_law_bent") (st := top 24) c 9
  have g_bent := He.glo_ok X G (c.fact 9 (f := .glo "_law_bent") rfl)
  have b_bent : Binds K fd_bent ["_law_state", "_law_text_here"] [] := F_bent.binds fun _ _ _ _ _ _ us hl => match us, hl with | [_, _], _ => rfl
  obtain ⟨fd_law, F_law⟩ := def_of (x := "law") (st := top 25) c 10
  have g_law := He.glo_ok X G (c.fact 10 (f := .glo "law") rfl)
  have b_law : Binds K fd_law ["_law_script"] [] := F_law.binds fun _ _ _ _ _ _ us hl => match us, hl with | [_], _ => rfl
  obtain ⟨fd_partsof, F_partsof⟩ := def_of (x := "parts_of") (st := top 5) c 11
  have g_partsof := He.glo_ok X G (c.fact 11 (f := .glo "parts_of") rfl)
  have b_partsof : Binds K fd_partsof ["text"] [] := F_partsof.binds fun _ _ _ _ _ _ us hl => match us, hl with | [_], _ => rfl
  obtain ⟨fd_isshape, F_isshape⟩ := def_of (x := "is_shape") (st := top 10) c 12
  have g_isshape := He.glo_ok X G (c.fact 12 (f := .glo "is_shape") rfl)
  have b_isshape : Binds K fd_isshape ["text"] [] := F_isshape.binds fun _ _ _ _ _ _ us hl => match us, hl with | [_], _ => rfl
  obtain ⟨fd_hasform, F_hasform⟩ := def_of (x := "has_form") (st := top 11) c 13
  have g_hasform := He.glo_ok X G (c.fact 13 (f := .glo "has_form") rfl)
  have b_hasform : Binds K fd_hasform ["text", "floors"] [] := F_hasform.binds fun _ _ _ _ _ _ us hl => match us, hl with | [_, _], _ => rfl
  obtain ⟨fd_init, F_init⟩ := mth_of (C := "Shape") (m := "__init__") (q := "Shape.__init__") (st := inClass (top 12) 0) c 14
  have b_init : Binds K fd_init ["self", "text"] [] := F_init.binds fun _ _ _ _ _ _ us hl => match us, hl with | [_, _], _ => rfl
  obtain ⟨fd_bad, F_bad⟩ := mth_of (C := "BadShape") (m := "__init__") (q := "BadShape.__init__") (st := inClass (top 2) 0) c 15
  have b_bad : Binds K fd_bad ["self", "text"] [] := F_bad.binds fun _ _ _ _ _ _ us hl => match us, hl with | [_, _], _ => rfl
  have gS := He.glo_ok X G (c.fact 14 (f := .glo "Shape") rfl)
  have gB := He.glo_ok X G (c.fact 15 (f := .glo "BadShape") rfl)
  have gH := He.glo_ok X G (c.fact 16 (f := .glo "HandedcopiesError") rfl)
  have gL := He.glo_ok X G (c.fact 17 (f := .glo "BadLine") rfl)
  have mkS := He.mkr_ok (c.fact 39 (f := .mkr "Shape") rfl)
  have clS := He.cls_ok (c.fact 34 (f := .cls "Shape") rfl)
  have shc : ShC K (He.ga K "Shape") := ⟨clS, y1, y2, y3, y4, He.noat_ok (c.fact 35 (f := .noat "Shape" "text") rfl), He.noat_ok (c.fact 36 (f := .noat "Shape" "_parts") rfl), He.noat_ok (c.fact 37 (f := .noat "Shape" "_depth") rfl), He.noat_ok (c.fact 38 (f := .noat "Shape" "_lists") rfl)⟩
  have TP : TxtP mg := ⟨He.free_ok X G (c.fact 21 (f := .free "enumerate") rfl), He.free_ok X G (c.fact 22 (f := .free "all") rfl), He.free_ok X G (c.fact 20 (f := .free "len") rfl), He.int_ok X G (c.fact 31 (f := .int "MOST_ITEMS" 3) rfl), He.int_ok X G (c.fact 32 (f := .int "MOST_DEPTH" 3) rfl), He.int_ok X G (c.fact 33 (f := .int "MOST_LISTS" 5) rfl)⟩
  have TS : TxtS mg := ⟨TP, He.free_ok X G (c.fact 23 (f := .free "isinstance") rfl), He.free_ok X G (c.fact 24 (f := .free "str") rfl), He.free_ok X G (c.fact 25 (f := .free "tuple") rfl), He.free_ok X G (c.fact 26 (f := .free "max") rfl)⟩
  have TT : TxtT mg := ⟨⟨TS, He.free_ok X G (c.fact 27 (f := .free "sum") rfl)⟩, He.free_ok X G (c.fact 28 (f := .free "range") rfl)⟩
  have TD : TxtD mg := ⟨He.free_ok X G (c.fact 18 (f := .free "int") rfl), He.free_ok X G (c.fact 19 (f := .free "abs") rfl), He.free_ok X G (c.fact 20 (f := .free "len") rfl)⟩
  have xb := xcOk_ok y10
  have N : BsC K mg (He.ga K "BadShape") (He.ga K "HandedcopiesError") (He.ga K "BadLine") (He.ma K (He.ga K "BadShape") "__init__") := ⟨gB, gH, gL, ⟨oexB_ok y9, xb.sa, xb.xf.exC, y14, xb.kC⟩, y11, y12, xb.xf, y13, xb.ex, y15, y16, y17, y18, He.free_ok X G (c.fact 30 (f := .free "ValueError") rfl)⟩
  have e := hfa.symm.trans g_law
  cases e
  refine ⟨fd_law, fun s v => ?_, fun base _ _ => ?_⟩
  · obtain ⟨oc, od, kV, doc, pm, an, cdv, ct, osl, e7, _, _⟩ := F_law.ex
    subst e7
    exact .of_eq rfl
  · have rP : Rd P w K mg base "parts_of" 1 ["text"] spParts := ⟨_, fd_partsof, g_partsof, F_partsof.kp, b_partsof, ok_parts F_partsof TP⟩
    have rF : Rd P w K mg base "has_form" 5 ["text", "floors"] (spForm 3) := rd_form F_hasform g_hasform b_hasform TP rP 3
    have rI : Rd P w K mg base "is_shape" 6 ["text"] spShape := ⟨_, fd_isshape, g_isshape, F_isshape.kp, b_isshape, ok_is F_isshape TP rF⟩
    have pD : Pr P w K mg base (He.ga K "Shape") "depth" "_depth" 1 := pr_of y5 gg1 y7 ⟨rfl, rfl, rfl, by decide +kernel, rfl, by decide +kernel, by decide +kernel⟩ rfl (fun _ _ _ _ _ _ us hl => match us, hl with | [_], _ => rfl) clS shc.nD
    have pL : Pr P w K mg base (He.ga K "Shape") "lists" "_lists" 1 := pr_of y6 gg2 y8 ⟨rfl, rfl, rfl, by decide +kernel, rfl, by decide +kernel, by decide +kernel⟩ rfl (fun _ _ _ _ _ _ us hl => match us, hl with | [_], _ => rfl) clS shc.nL
    have rDr : Rd P w K mg base "_law_draw" 1 ["_law_state", "_law_many"] spDraw := ⟨_, fd_draw, g_draw, F_draw.kp, b_draw, ok_draw F_draw TD⟩
    have rSt : Rd P w K mg base "_law_start" 1 ["_law_script"] (spStart K) := ⟨_, fd_start, g_start, F_start.kp, b_start, ok_start F_start TD⟩
    have rO : Rd P w K mg base "_law_of" 2 ["_law_state", "_law_some"] (spOf K) := ⟨_, fd_of, g_of, F_of.kp, b_of, ok_of F_of TD F_draw b_draw g_draw⟩
    have rL : ∀ n, n ≤ 3 → Rd P w K mg base "_law_lists" (1 + n) ["_law_tree_here"] (spLists K n) := rd_lists F_lists g_lists b_lists TT.toTxtF
    have rX : Rd P w K mg base "_law_text" 4 ["_law_tree_here"] (spText K 3) := rd_text F_text g_text b_text TT.toTxtF 3 (by decide)
    have rT : Rd P w K mg base "_law_tree" 7 ["_law_state", "_law_floors", "_law_room"] (spTree3 K) := ⟨_, fd_tree, g_tree, F_tree.kp, b_tree, fn_tree3 (fn_tree F_tree g_tree b_tree TT rDr rL)⟩
    have rM : Rm P w K mg base "Shape" (He.ga K "Shape") 14 ["self", "text"] (spInit K (He.ga K "Shape") 3) := (rm_init F_init TS shc gS mkS b_init rI (rP.mono (by decide)) pD (by decide) 3 (by decide)).mono (by decide)
    have FS : FnOk P w K mg base (L2.CX P w) 7 _ fd_init ["self", "text"] (spBad K (He.ga K "BadShape")) := ok_initB F_init TS N rI (ok_bi F_bad N) b_bad (by decide)
    have rN : Rd P w K mg base "_law_refused" 16 ["_law_thing"] (spRefN K) := ⟨_, fd_refused, g_refused, F_refused.kp, b_refused, ok_refN F_refused rM⟩
    have rY : Rd P w K mg base "_law_refused" 9 ["_law_thing"] (spRefY K (He.ga K "BadShape")) := ⟨_, fd_refused, g_refused, F_refused.kp, b_refused, ok_refY F_refused TS (He.free_ok X G (c.fact 29 (f := .free "bool") rfl)) N gS mkS FS b_init⟩
    have rE : Rd P w K mg base "_law_end" 4 ["_law_text_here", "_law_at", "_law_floors"] (spEnd 3) := rd_end F_end g_end b_end TT 3
    have rR : Rd P w K mg base "_law_right" 16 ["_law_text_here"] spRight2 := ⟨_, fd_right, g_right, F_right.kp, b_right, ok_right2 F_right TT shc rE (rY.mono (by decide)) rM pL⟩
    have rB : Rd P w K mg base "_law_bent" 4 ["_law_state", "_law_text_here"] spBent := ⟨_, fd_bent, g_bent, F_bent.kp, b_bent, (ok_bent F_bent TT (rDr.mono (by decide)) rO).mono (by decide)⟩
    exact ok_law F_law TT rSt rDr rT rX rN (rY.mono (by decide)) rR rB
end Hs
open PySem PySem.W PySem.Calls PyProof.Rows
set_option maxHeartbeats 0 in
theorem PySem.Challenge.cw_handedcopies_k02_shapes_refused_holds : PySem.Challenge.rw_handedcopies_k02_shapes_refused.Holds := by
  w_on; o_law
  refine HandSHeadRun.head_any (r := OpenLaw.row PySem.Challenge.rw_handedcopies_k02_shapes_refused) (q := view (OpenLaw.row PySem.Challenge.rw_handedcopies_k02_shapes_refused).prog [25]) (H := Hc.hookG 8 Hs.fa02 Hs.fn02 Hs.ex02 Hs.gt02 Hs.gv02) (ob := Hc.obG 8 Hs.fa02 Hs.fn02 Hs.ex02 Hs.gt02) (M := 12000) (loose := Hs.lo02) (d := HandSHeadRun.topDef (OpenLaw.row PySem.Challenge.rw_handedcopies_k02_shapes_refused).prog 25) (kwd := []) (Hc.obG_eq _ _ _ _ _ _)
    (by kernel_rfl) (fun s => by kernel_rfl) Hs.run02 (by kernel_rfl) (by kernel_rfl) (by kernel_rfl) (by rfl) (by first | assumption | decide +kernel) (by decide +kernel) ⟨rfl, rfl, rfl, rfl, rfl, by decide +kernel⟩ ?hw ?hc
  case hw => w_witness2
  case hc =>
    refine L2.walk_ofE (l := PySem.Challenge.rw_handedcopies_k02_shapes_refused) (n := 63) (k := 17) (x := "_law_script") (CX := L2.CX0) rfl (by decide) (by kernel_rfl) ⟨rfl, by decide, by decide⟩ ?F (fun _ _ _ _ z => z)
    intro w mg fa h Y G hmg0
    obtain ⟨K, KX, x, c, gg⟩ := Y
    have hmg : mg ("law" : PySem.Str) = some (.ref fa) := by
      have e : (HandSHeadRun.topDef (OpenLaw.row PySem.Challenge.rw_handedcopies_k02_shapes_refused).prog 25).name = ("law" : PySem.Str) := by kernel_rfl
      rw [← e]
      exact hmg0
    obtain ⟨fd, hb, hF⟩ := Hs.facts02 (P := (PySem.Challenge.rw_handedcopies_k02_shapes_refused).prog) (w := w) KX G hmg x c gg
    exact ⟨K, fd, Hs.spLaw K, KX, hb, fun H a ns hl _ hS => ⟨a, ns, rfl, hS, hl, fun _ => rfl⟩, hF⟩
