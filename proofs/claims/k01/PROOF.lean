import PyProof.Rows.All
import Wide.All
import OpenK.AllK
import Wide.FinOn
import PyProof.ListStr
import HandS.Base
import HandS.Call
import HandS.List
import HandS.Comp
import HandS.Ends
import HandS.Dict
import HandS.Iter
import HandS.Text
import HandS.Exc
import HandS.Words
import HandS.WordsList
import HandS.Flow
import HandS.Style
import HandS.NoneIn
import HandS.IsInst
import HandS.Wide
import HandS.Evl
import HandS.Codes
import PySem.Challenge.RW_handedcopies_k01_shapes_made
import PyProof.Draws
import PyProof.EnumMake
import HandS.Property
import KE.KFmtOwn
import KE.KCallOwn
import PyProof.InstEq
import OpenK.KOps
import HandS.FStr
import KE.GoesEnum
import HandS.Zip
import KE.KStateDown
import HandS.Defaults
import HandS.Head0
import HandS.Head1
import HandS.Head2
import HandS.HeadEnd
import HandS.HeadHook1
import HandS.HeadHook2
import HandS.HeadHook4
set_option Elab.async false
set_option linter.all false
set_option maxRecDepth 100000
set_option maxHeartbeats 4000000
/-! Rules that hold for any program: xs[i] read by values, list(a text), frames of what stays. -/
namespace Hc
open PySem PySem.Spec PyProof.Rows L2

/-- all that was tracked outside S is as it was -/
def Ext (S : Addr → Prop) (H H' : Hp) : Prop := ∀ b o, H b = some o → ¬ S b → H' b = some o
theorem Ext.refl (S : Addr → Prop) (H : Hp) : Ext S H H := fun _ _ h _ => h
theorem Ext.trans {S : Addr → Prop} {H H1 H2 : Hp} (a : Ext S H H1) (b : Ext S H1 H2) : Ext S H H2 := fun c o h n => b c o (a c o h n) n
theorem Ext.mono {S T : Addr → Prop} {H H1 : Hp} (a : Ext S H H1) (h : ∀ b, S b → T b) : Ext T H H1 := fun c o e n => a c o e fun z => n (h c z)
theorem Ext.same {S : Addr → Prop} {H H1 : Hp} (a : Same H H1) : Ext S H H1 := fun c o e _ => a c o e
theorem Ext.new {S : Addr → Prop} {H : Hp} {p : Addr} {o : HO} (h : H p = none) : Ext S H (upd H p o) := fun b x e _ => by
  rw [upd_ne (ne_of_none e h)]
  exact e
theorem Ext.put {S : Addr → Prop} {H : Hp} {p : Addr} {o : HO} (h : S p) : Ext S H (upd H p o) := fun b x e n => by
  rw [upd_ne (fun z => n (by rw [z]; exact h))]
  exact e
theorem same_new {H : Hp} {p : Addr} {o : HO} (h : H p = none) : Same H (upd H p o) := fun b x e => by
  rw [upd_ne (ne_of_none e h)]
  exact e
/-- what is new in H' was free in H or lay in S -/
theorem Ext.free {S : Addr → Prop} {H H' : Hp} (e : Ext S H H') {l : Addr} (h : H' l = none) (hs : ¬ S l) : H l = none := by
  cases q : H l with
  | none => rfl
  | some o =>
    rw [e l o q hs] at h
    cases h
theorem Ext.seq {S : Addr → Prop} {K : PySem.W.Frag} {H H' : Hp} {a : Addr} {xs : List V} (e : Ext S H H') (n : ¬ S a) (h : SqL K H a xs) : SqL K H' a xs := by
  rcases h with (h | ⟨o, h⟩) | h
  · exact .inl (.inl (e _ _ h n))
  · exact .inl (.inr ⟨o, e _ _ h n⟩)
  · exact .inr h
theorem Ext.seqT {S : Addr → Prop} {K : PySem.W.Frag} {H H' : Hp} {a : Addr} {xs : List V} (e : Ext S H H') (n : ¬ S a) (h : SqT K H a xs) : SqT K H' a xs := by
  rcases h with (h | ⟨o, h⟩) | h
  · exact .inl (.inl (e _ _ h n))
  · exact .inl (.inr ⟨o, e _ _ h n⟩)
  · exact .inr h

section
variable {X : Cx}
/-- xs[i] by values, for xs[i] op= e -/
theorem pg_list : PGet X (rIxL X.K) := by
  intro pins s σ H x y v u Q I rx ry h
  obtain ⟨p, xs, i, z, rfl, rfl, hq, he, q⟩ := h
  cases rx
  obtain ⟨t, rfl⟩ := ry
  obtain ⟨its, r, pl, hz⟩ := I.list hq
  obtain ⟨j, h1, h2, h3, h4, h5⟩ := atI_get he
  obtain ⟨w, ew, rw'⟩ := r.get h2
  have hl := r.length
  have hn := line63
  have fin : EP X pins σ Q w s := ⟨z, H, I, rw', q⟩
  by_cases h0 : 0 ≤ i
  · have hj : i.toNat = j := by
      rw [seqIndex_of h0 h5] at h1
      exact Option.some.inj h1
    exact wpAny_getItem_list pl.isList h0 (by omega) (by rw [hj]; simpa using ew) fin
  · have hj : (i + (its.toArray.size : Int)).toNat = j := by
      rw [seqIndex_neg (by omega) h4] at h1
      rw [List.size_toArray, ← hl]
      exact Option.some.inj h1
    exact wpAny_getItem_list_neg pl.isList (by omega) (by rw [List.size_toArray] <;> omega) (by omega) (by rw [hj]; simpa using ew) fin
/-- the signs of a text, each a text -/
def signs (x : Str) : List V := x.cps.toList.map fun c => V.str ⟨#[c]⟩
theorem vals_signs {x : Str} {acc : Array Value} (h : ItemsOf (SignAt x) acc x.cps.size) : Vals (signs x) acc.toList := by
  obtain ⟨hs, hi⟩ := h
  have key : ∀ (cs : List Nat) (us : List Value), cs.length = us.length → (∀ (j : Nat) (v : Value), us[j]? = some v → ∃ c u, cs[j]? = some c ∧ v = .str ⟨#[c]⟩ u) → Vals (cs.map fun c => V.str ⟨#[c]⟩) us := by
    intro cs
    induction cs with
    | nil =>
      intro us hl _
      cases us with
      | nil => exact .nil
      | cons u r => simp at hl
    | cons c cs ih =>
      intro us hl hx
      cases us with
      | nil => simp at hl
      | cons u r =>
        obtain ⟨c', t, e1, e2⟩ := hx 0 u rfl
        have e1' : c = c' := by simpa using e1
        subst e1'
        exact .cons ⟨t, e2⟩ (ih r (by simpa using hl) fun j v e => by
          obtain ⟨c2, t2, q1, q2⟩ := hx (j + 1) v (by simpa using e)
          exact ⟨c2, t2, by simpa using q1, q2⟩)
  refine key x.cps.toList acc.toList (by simp [hs]) fun j v e => ?_
  obtain ⟨c, u, e1, e2⟩ := hi j v (by rw [← Array.getElem?_toList]; exact e)
  exact ⟨c, u, by rw [Array.getElem?_toList]; exact e1, e2⟩
/-- list(a text): a new list of its signs -/
theorem call_listS (hc : X.calm = true) : CallR X (.type "list") (fun xs H Q => ∃ x : Str, xs = [.str x] ∧ x.cps.size ≤ sizeLine ∧ ∀ l, H l = none → Q (.ref l) (upd H l (.lst (signs x)))) := by
  intro pins s σ H xs us Q I r h
  obtain ⟨x, rfl, hz, q⟩ := h
  obtain ⟨u, rfl, t, rfl⟩ := vals1 r
  refine call_list_str (I.ok.hd hc) x t (fun h' tk acc' c' k hS hi => ?_) hz
  have rv := vals_signs hi
  refine ⟨.ref s.heap.objs.size, upd H s.heap.objs.size (.lst (signs x)), I.laid (t' := tk) k (Nat.le_refl _) ⟨?_, acc'.toList, c', rv, ?_⟩, rfl, q _ (I.hok.fresh (Nat.le_refl _))⟩
  · unfold signs
    rw [List.length_map, Array.length_toList]
    exact hz
  · rw [hS]
end

/-! ### comprehensions over a list whose items are told by things of any kind -/
open Evl in
theorem given_map {α : Type} (d : α) (p : α → Bool) (h : α → V) : ∀ ns : List α, given ns.length (fun i => p (ns.getD i d)) (fun i => h (ns.getD i d)) = (ns.filter p).map h := by
  have key : ∀ (r l : List α), given (l ++ r).length (fun i => p ((l ++ r).getD i d)) (fun i => h ((l ++ r).getD i d)) = given l.length (fun i => p ((l ++ r).getD i d)) (fun i => h ((l ++ r).getD i d)) ++ (r.filter p).map h := by
    intro r
    induction r with
    | nil =>
      intro l
      simp
    | cons x r ih =>
      intro l
      have e : l ++ x :: r = (l ++ [x]) ++ r := by simp
      rw [e, ih (l ++ [x])]
      have hx : ((l ++ [x]) ++ r).getD l.length d = x := by simp
      rw [show (l ++ [x]).length = l.length + 1 by simp]
      cases hp : p x with
      | true =>
        rw [given_yes (by rw [hx]; exact hp), hx, List.filter_cons_of_pos hp]
        simp
      | false =>
        rw [given_no (by rw [hx]; exact hp), List.filter_cons_of_neg (by simp [hp])]
  intro ns
  have e := key ns []
  simpa [given] using e
section
open Evl
variable {K : PySem.W.Frag} {σ : L2.St} {H : Hp} {te : TE} {t : TT}
theorem get_map {α : Type} {ns : List α} {f : α → V} {i : Nat} {x : V} (h : (ns.map f)[i]? = some x) (d : α) : ∃ y, ns[i]? = some y ∧ x = f y ∧ ns.getD i d = y ∧ y ∈ ns := by
  rw [List.getElem?_map] at h
  cases e : ns[i]? with
  | none =>
    rw [e] at h
    cases h
  | some y =>
    rw [e] at h
    exact ⟨y, rfl, (Option.some.inj h).symm, by rw [List.getD_eq_getElem?_getD, e]; rfl, List.mem_of_getElem? e⟩
/-- [te for x in a if t], a a list that stands -/
theorem el_map {α : Type} {a : Addr} {tl : TE} {j : Nat} {vs : List Nat} (ns : List α) (f : α → V) (p : α → Bool) (h : α → V) (hl : Ev tl σ H (.ref a)) (hx : SqL K H a (ns.map f)) (hz : ns.length ≤ 40000) (hw : ∀ x, wipe ((wipe σ vs).set j (some x)) vs = wipe σ vs)
    (ht : ∀ x H1, Ex H H1 → x ∈ ns → EvT t ((wipe σ vs).set j (some (f x))) H1 (p x)) (he : ∀ x H1, Ex H H1 → x ∈ ns → p x = true → Ev te ((wipe σ vs).set j (some (f x))) H1 (h x)) :
    EvL (tLc (iList K tl) (gName j) t te vs) σ H ((ns.filter p).map h) := by
  cases ns with
  | nil => exact el_lcL (fun _ => false) (fun _ => .non) hl hx (Nat.zero_le _) hw (fun i x H1 _ e => nomatch e) (fun i x H1 _ e => nomatch e)
  | cons d r =>
    rw [← given_map d p h (d :: r), show (d :: r).length = ((d :: r).map f).length by simp]
    refine el_lcL _ _ hl hx (by rw [List.length_map]; exact hz) hw (fun i x H1 e hi => ?_) (fun i x H1 e hi hp => ?_)
    · obtain ⟨y, e1, rfl, e2, hm⟩ := get_map hi d
      rw [e2]
      exact ht y H1 e hm
    · obtain ⟨y, e1, rfl, e2, hm⟩ := get_map hi d
      rw [e2] at hp ⊢
      exact he y H1 e hm hp
/-- .. over a new list -/
theorem el_mapN {α : Type} {tl : TE} {j : Nat} {vs : List Nat} (ns : List α) (f : α → V) (p : α → Bool) (h : α → V) (hl : EvL tl σ H (ns.map f)) (hz : ns.length ≤ 40000) (hw : ∀ x, wipe ((wipe σ vs).set j (some x)) vs = wipe σ vs)
    (ht : ∀ x H1, Ex H H1 → x ∈ ns → EvT t ((wipe σ vs).set j (some (f x))) H1 (p x)) (he : ∀ x H1, Ex H H1 → x ∈ ns → p x = true → Ev te ((wipe σ vs).set j (some (f x))) H1 (h x)) :
    EvL (tLc (iList K tl) (gName j) t te vs) σ H ((ns.filter p).map h) := by
  cases ns with
  | nil => exact el_lcNL (fun _ => false) (fun _ => .non) hl (Nat.zero_le _) hw (fun i x H1 _ e => nomatch e) (fun i x H1 _ e => nomatch e)
  | cons d r =>
    rw [← given_map d p h (d :: r), show (d :: r).length = ((d :: r).map f).length by simp]
    refine el_lcNL _ _ hl (by rw [List.length_map]; exact hz) hw (fun i x H1 e hi => ?_) (fun i x H1 e hi hp => ?_)
    · obtain ⟨y, e1, rfl, e2, hm⟩ := get_map hi d
      rw [e2]
      exact ht y H1 e hm
    · obtain ⟨y, e1, rfl, e2, hm⟩ := get_map hi d
      rw [e2] at hp ⊢
      exact he y H1 e hm hp
theorem et_yes : EvT tYes σ H true := fun H1 _ _ q => q H1 (Ex.refl H1)
end
end Hc

set_option maxHeartbeats 4000000
/-! Shapes as texts and as trees. -/
namespace Hs
open PySem PySem.Spec PyProof.Rows L2
abbrev S (l : List Nat) : Str := ⟨l.toArray⟩
theorem S_len (a : List Nat) : (S a).length = a.length := by simp [S, Str.length]
theorem S_cat (a b : List Nat) : S a ++ S b = S (a ++ b) := TL.ext_tl (TL.tl_append (S a) (S b))
theorem S_inj {a b : List Nat} (h : S a = S b) : a = b := congrArg (fun x : Str => x.cps.toList) h
theorem S_tl (x : Str) : S x.cps.toList = x := TL.mk_tl x
theorem join_S (a : List Nat) (ys : List (List Nat)) : Txt.join (S a) (ys.map S) = S (TL.joinL a ys) := SX.join_S a ys

/-! ### texts -/
theorem cut_nn (L : List Nat) (i j : Nat) : cutS (S L) (some (i : Int)) (some (j : Int)) = S ((L.drop i).take (j - i)) := by
  unfold cutS
  rw [HT.sIx_nat, HT.sIx_nat, S_len]
  congr 2
  show (L.drop (min i L.length)).take (min j L.length - min i L.length) = (L.drop i).take (j - i)
  by_cases h : i ≤ L.length
  · rw [Nat.min_eq_left h]
    by_cases h2 : j ≤ L.length
    · rw [Nat.min_eq_left h2]
    · rw [Nat.min_eq_right (by omega), List.take_of_length_le (l := L.drop i) (i := L.length - i) (by rw [List.length_drop]; omega), List.take_of_length_le (by rw [List.length_drop]; omega)]
  · rw [Nat.min_eq_right (a := i) (by omega), List.drop_of_length_le (by omega), List.drop_of_length_le (l := L) (i := i) (by omega)]
    simp
theorem cut_n (L : List Nat) (i : Nat) : cutS (S L) (some (i : Int)) none = S (L.drop i) := by
  unfold cutS
  rw [HT.sIx_nat, HT.sIx_none, S_len]
  congr 2
  show (L.drop (min i L.length)).take (L.length - min i L.length) = L.drop i
  by_cases h : i ≤ L.length
  · rw [Nat.min_eq_left h, List.take_of_length_le (by rw [List.length_drop]; omega)]
  · rw [Nat.min_eq_right (by omega), List.drop_of_length_le (by omega), List.drop_of_length_le (l := L) (i := i) (by omega)]
    simp
/-- text[1:-1] -/
def inner (L : List Nat) : List Nat := (L.drop 1).take (L.length - 2)
theorem cut_in (L : List Nat) : cutS (S L) (some (1 : Int)) (some (-1 : Int)) = S (inner L) := by
  unfold cutS inner
  rw [show (1 : Int) = ((1 : Nat) : Int) from rfl, HT.sIx_nat, S_len]
  have e : HT.sIx L.length L.length (some (-((1 : Nat) : Int))) = L.length - 1 := by
    unfold HT.sIx
    dsimp only
    rw [if_pos (by decide)]
    omega
  rw [e]
  congr 2
  show (L.drop (min 1 L.length)).take (L.length - 1 - min 1 L.length) = (L.drop 1).take (L.length - 2)
  by_cases h : 1 ≤ L.length
  · rw [Nat.min_eq_left h, Nat.sub_sub]
  · rw [Nat.min_eq_right (by omega), List.drop_of_length_le (by omega), List.drop_of_length_le (l := L) (i := 1) (by omega)]
    simp
theorem inner_len (L : List Nat) : (inner L).length ≤ L.length := by
  unfold inner
  rw [List.length_take, List.length_drop]
  omega
theorem starts1 (L : List Nat) (c : Nat) : Txt.startswith (S L) (S [c]) = (L.head? == some c) := by
  unfold Txt.startswith
  rw [StrLaws.subAt_eq, S_len, S_len]
  show (decide (0 + 1 ≤ L.length) && ((L.drop 0).take 1 == [c])) = _
  cases L with
  | nil => rfl
  | cons x r =>
    rw [List.drop_zero, List.take_succ_cons, List.take_zero, List.length_cons, List.head?_cons, decide_eq_true (by omega)]
    show ([x] == [c]) = (some x == some c)
    by_cases h : x = c
    · subst h; simp
    · simp [h]
theorem ends1 (L : List Nat) (c : Nat) : Txt.endswith (S L) (S [c]) = (L.getLast? == some c) := by
  unfold Txt.endswith
  rw [StrLaws.subAt_eq, S_len, S_len]
  show (decide (0 + 1 ≤ L.length) && ((L.drop (L.length - 1)).take 1 == [c])) = _
  rcases List.eq_nil_or_concat L with rfl | ⟨l, x, rfl⟩
  · rfl
  · rw [List.concat_eq_append, List.getLast?_append]
    simp
theorem count1 (L : List Nat) (c : Nat) : Txt.count (S L) (S [c]) = ((L.count c : Nat) : Int) := by
  show Txt.count (S L) ⟨#[c]⟩ = _
  rw [count_cnt]
  show cnt c L = _
  induction L with
  | nil => rfl
  | cons x r ih =>
    rw [cnt_cons, ih, List.count_cons]
    by_cases h : x = c
    · subst h
      simp
      omega
    · simp [h]

/-! ### parts -/
abbrev SS := List (List Nat) × Int × Nat
def stepP (L : List Nat) (st : SS) (at_ c : Nat) : SS :=
  if c ∈ [91, 40] then (st.1, st.2.1 + 1, st.2.2)
  else if c ∈ [41, 93] then (st.1, st.2.1 - 1, st.2.2)
  else if st.2.1 = 0 ∧ (L.drop at_).take 2 = [44, 32] then (st.1 ++ [(L.drop st.2.2).take (at_ - st.2.2)], st.2.1, at_ + 2)
  else st
def scan (L : List Nat) : List Nat → Nat → SS → SS
  | [], _, st => st
  | c :: r, i, st => scan L r (i + 1) (stepP L st i c)
def partsOf (L : List Nat) : List (List Nat) := (scan L L 0 ([], 0, 0)).1 ++ [L.drop (scan L L 0 ([], 0, 0)).2.2]

theorem scan_len (L : List Nat) : ∀ (r : List Nat) (i : Nat) (st : SS), (scan L r i st).1.length ≤ st.1.length + r.length
  | [], _, _ => Nat.le_refl _
  | c :: r, i, st => by
    show (scan L r (i + 1) (stepP L st i c)).1.length ≤ _
    have h := scan_len L r (i + 1) (stepP L st i c)
    have h2 : (stepP L st i c).1.length ≤ st.1.length + 1 := by
      unfold stepP
      split
      · exact Nat.le_succ _
      · split
        · exact Nat.le_succ _
        · split
          · simp
          · exact Nat.le_succ _
    rw [List.length_cons]
    omega
theorem partsOf_len (L : List Nat) : (partsOf L).length ≤ L.length + 1 := by
  unfold partsOf
  have h := scan_len L L 0 ([], 0, 0)
  rw [List.length_append, List.length_singleton]
  simpa using h
theorem scan_items (L : List Nat) : ∀ (r : List Nat) (i : Nat) (st : SS), (∀ p ∈ st.1, p.length ≤ L.length) → ∀ p ∈ (scan L r i st).1, p.length ≤ L.length
  | [], _, _, h => h
  | c :: r, i, st, h => by
    refine scan_items L r (i + 1) (stepP L st i c) ?_
    unfold stepP
    split
    · exact h
    · split
      · exact h
      · split
        · intro p hp
          rcases List.mem_append.mp hp with hp | hp
          · exact h p hp
          · rw [List.mem_singleton.mp hp, List.length_take, List.length_drop]
            omega
        · exact h
theorem partsOf_items (L : List Nat) : ∀ p ∈ partsOf L, p.length ≤ L.length := by
  intro p hp
  unfold partsOf at hp
  rcases List.mem_append.mp hp with hp | hp
  · exact scan_items L L 0 ([], 0, 0) (fun p hp => nomatch hp) p hp
  · rw [List.mem_singleton.mp hp, List.length_drop]
    omega

/-! ### forms -/
def hasForm : Nat → List Nat → Bool
  | 0, t => decide (t = [46])
  | f + 1, t => decide (t = [46]) || ((t.head? == some 91) && (t.getLast? == some 93) && (decide ((partsOf (inner t)).length ≤ 3) && (partsOf (inner t)).all (hasForm f)))
def isShape (t : List Nat) : Bool := decide (t.count 91 ≤ 5) && hasForm 3 t
theorem form_up : ∀ (f : Nat) (t : List Nat), hasForm f t = true → hasForm (f + 1) t = true
  | 0, t, h => by
    show (decide (t = [46]) || _) = true
    have h' : decide (t = [46]) = true := h
    rw [h']
    rfl
  | f + 1, t, h => by
    have h' : (decide (t = [46]) || ((t.head? == some 91) && (t.getLast? == some 93) && (decide ((partsOf (inner t)).length ≤ 3) && (partsOf (inner t)).all (hasForm f)))) = true := h
    show (decide (t = [46]) || ((t.head? == some 91) && (t.getLast? == some 93) && (decide ((partsOf (inner t)).length ≤ 3) && (partsOf (inner t)).all (hasForm (f + 1))))) = true
    rw [Bool.or_eq_true] at h' ⊢
    rcases h' with h' | h'
    · exact .inl h'
    · rw [Bool.and_eq_true, Bool.and_eq_true, Bool.and_eq_true] at h' ⊢
      obtain ⟨⟨a, b⟩, c, d⟩ := h'
      refine .inr ⟨⟨a, b⟩, c, ?_⟩
      rw [List.all_eq_true] at d ⊢
      exact fun p hp => form_up f p (d p hp)
theorem form_le {f g : Nat} (h : f ≤ g) {t : List Nat} (x : hasForm f t = true) : hasForm g t = true := by
  induction h with
  | refl => exact x
  | step _ ih => exact form_up _ _ ih

/-! ### trees: lists of lists, n floors at most -/
def Tre : Nat → Type
  | 0 => Unit
  | n + 1 => List (Tre n)
def txt : (n : Nat) → Tre n → List Nat
  | 0, _ => [46]
  | n + 1, (l : List (Tre n)) => if l.isEmpty then [46] else 91 :: (TL.joinL [44, 32] (l.map (txt n)) ++ [93])
def lsts : (n : Nat) → Tre n → Nat
  | 0, _ => 0
  | n + 1, (l : List (Tre n)) => if l.isEmpty then 0 else 1 + (l.map (lsts n)).sum
def dep : (n : Nat) → Tre n → Nat
  | 0, _ => 0
  | n + 1, (l : List (Tre n)) => if l.isEmpty then 0 else 1 + (l.map (dep n)).foldl max 0
def slim : (n : Nat) → Tre n → Bool
  | 0, _ => true
  | n + 1, (l : List (Tre n)) => decide (l.length ≤ 3) && l.all (slim n)
theorem txt_nil (n : Nat) : txt (n + 1) ([] : List (Tre n)) = [46] := rfl
theorem txt_cons (n : Nat) (x : Tre n) (r : List (Tre n)) : txt (n + 1) (x :: r : List (Tre n)) = 91 :: (TL.joinL [44, 32] ((x :: r).map (txt n)) ++ [93]) := rfl
theorem joinL_cons (s p q : List Nat) (r : List (List Nat)) : TL.joinL s (p :: q :: r) = p ++ (s ++ TL.joinL s (q :: r)) := rfl

theorem scan_app (L : List Nat) : ∀ (a r : List Nat) (i : Nat) (st : SS), scan L (a ++ r) i st = scan L r (i + a.length) (scan L a i st)
  | [], r, i, st => rfl
  | c :: a, r, i, st => by
    show scan L (a ++ r) (i + 1) (stepP L st i c) = scan L r (i + (a.length + 1)) (scan L a (i + 1) (stepP L st i c))
    rw [scan_app L a r (i + 1), show i + 1 + a.length = i + (a.length + 1) by omega]
theorem drop_app {L a r : List Nat} {i : Nat} (h : L.drop i = a ++ r) : L.drop (i + a.length) = r := by
  rw [← List.drop_drop, h, List.drop_left]
/-- a text of a shape leaves the scan as it was -/
theorem scan_txt : ∀ (n : Nat) (t : Tre n) (L r : List Nat) (i : Nat) (p : List (List Nat)) (k : Int) (s : Nat), 0 ≤ k → L.drop i = txt n t ++ r → scan L (txt n t) i (p, k, s) = (p, k, s) := by
  have dot : ∀ (L r : List Nat) (i : Nat) (p : List (List Nat)) (k : Int) (s : Nat), L.drop i = [46] ++ r → scan L [46] i (p, k, s) = (p, k, s) := by
    intro L r i p k s h
    show stepP L (p, k, s) i 46 = (p, k, s)
    unfold stepP
    rw [if_neg (by decide), if_neg (by decide), h, if_neg (by simp)]
  intro n
  induction n with
  | zero => exact fun t L r i p k s _ h => dot L r i p k s h
  | succ n ih =>
    intro t L r i p k s hk h
    match t, h with
    | [], h => exact dot L r i p k s h
    | x :: l, h =>
      rw [txt_cons] at h ⊢
      -- the items, within one bracket more
      have items : ∀ (l : List (Tre n)) (x : Tre n) (j : Nat) (q : List Nat) (k : Int), 0 < k → L.drop j = TL.joinL [44, 32] ((x :: l).map (txt n)) ++ q → scan L (TL.joinL [44, 32] ((x :: l).map (txt n))) j (p, k, s) = (p, k, s) := by
        intro l
        induction l with
        | nil =>
          intro x j q k hk h
          exact ih x L q j p k s (by omega) h
        | cons y l ih2 =>
          intro x j q k hk h
          rw [List.map_cons, List.map_cons, joinL_cons] at h ⊢
          rw [scan_app, ih x L ([44, 32] ++ TL.joinL [44, 32] (txt n y :: l.map (txt n)) ++ q) j p k s (by omega) (by rw [h]; simp), scan_app]
          have e : scan L [44, 32] (j + (txt n x).length) (p, k, s) = (p, k, s) := by
            show stepP L (stepP L (p, k, s) _ 44) _ 32 = (p, k, s)
            have one : ∀ (m c : Nat), c ∉ [91, 40] → c ∉ [41, 93] → stepP L (p, k, s) m c = (p, k, s) := by
              intro m c h1 h2
              unfold stepP
              rw [if_neg h1, if_neg h2, if_neg (by rintro ⟨z, _⟩; exact absurd z (by show ¬ k = 0; omega))]
            rw [one _ 44 (by decide) (by decide), one _ 32 (by decide) (by decide)]
          rw [e]
          refine ih2 y _ q k hk ?_
          have d1 : L.drop (j + (txt n x).length) = [44, 32] ++ (TL.joinL [44, 32] (txt n y :: l.map (txt n)) ++ q) := drop_app (a := txt n x) (by rw [h]; simp)
          exact drop_app (a := [44, 32]) d1
      show scan L (TL.joinL [44, 32] ((x :: l).map (txt n)) ++ [93]) (i + 1) (stepP L (p, k, s) i 91) = (p, k, s)
      have e1 : stepP L (p, k, s) i 91 = (p, k + 1, s) := by
        unfold stepP
        rw [if_pos (by decide)]
      rw [e1, scan_app, items l x (i + 1) ([93] ++ r) (k + 1) (by omega) (by
        have := drop_app (a := [91]) (r := TL.joinL [44, 32] ((x :: l).map (txt n)) ++ [93] ++ r) (L := L) (i := i) (by rw [h]; simp)
        rw [show i + 1 = i + [91].length by rfl, this]
        simp)]
      show stepP L (p, k + 1, s) (i + 1 + (TL.joinL [44, 32] ((x :: l).map (txt n))).length) 93 = (p, k, s)
      unfold stepP
      rw [if_neg (by decide), if_pos (by decide)]
      show (p, k + 1 - 1, s) = (p, k, s)
      rw [Int.add_sub_cancel]
theorem scan_join (n : Nat) : ∀ (l : List (Tre n)) (x : Tre n) (L : List Nat) (i : Nat) (p : List (List Nat)), L.drop i = TL.joinL [44, 32] ((x :: l).map (txt n)) →
    (scan L (TL.joinL [44, 32] ((x :: l).map (txt n))) i (p, 0, i)).1 ++ [L.drop (scan L (TL.joinL [44, 32] ((x :: l).map (txt n))) i (p, 0, i)).2.2] = p ++ (x :: l).map (txt n) := by
  intro l
  induction l with
  | nil =>
    intro x L i p h
    have e := scan_txt n x L [] i p 0 i (Int.le_refl 0) (by rw [List.append_nil]; exact h)
    show (scan L (txt n x) i (p, 0, i)).1 ++ [L.drop (scan L (txt n x) i (p, 0, i)).2.2] = p ++ [txt n x]
    rw [e]
    show p ++ [L.drop i] = _
    rw [h]
    rfl
  | cons y l ih =>
    intro x L i p h
    rw [List.map_cons, List.map_cons, joinL_cons] at h ⊢
    rw [scan_app, scan_app, scan_txt n x L _ i p 0 i (Int.le_refl 0) h]
    have d1 : L.drop (i + (txt n x).length) = [44, 32] ++ TL.joinL [44, 32] (txt n y :: l.map (txt n)) := drop_app h
    have e : scan L [44, 32] (i + (txt n x).length) (p, 0, i) = (p ++ [txt n x], 0, i + (txt n x).length + 2) := by
      show stepP L (stepP L (p, 0, i) _ 44) _ 32 = _
      have e1 : stepP L (p, 0, i) (i + (txt n x).length) 44 = (p ++ [txt n x], 0, i + (txt n x).length + 2) := by
        unfold stepP
        rw [if_neg (by decide), if_neg (by decide), if_pos ⟨rfl, by rw [d1]; rfl⟩]
        show (p ++ [(L.drop i).take (i + (txt n x).length - i)], _, _) = _
        rw [h, Nat.add_sub_cancel_left, List.take_left]
      rw [e1]
      have d2 : L.drop (i + (txt n x).length + 1) = 32 :: TL.joinL [44, 32] (txt n y :: l.map (txt n)) := by
        rw [← List.drop_drop, d1]
        rfl
      unfold stepP
      rw [if_neg (by decide), if_neg (by decide), if_neg (by rw [d2]; rintro ⟨_, z⟩; simp at z)]
    rw [e]
    have d3 : L.drop (i + (txt n x).length + 2) = TL.joinL [44, 32] (txt n y :: l.map (txt n)) := drop_app (a := [44, 32]) d1
    have z := ih y L (i + (txt n x).length + 2) (p ++ [txt n x]) d3
    rw [List.map_cons] at z
    refine z.trans ?_
    simp
theorem parts_txt (n : Nat) (x : Tre n) (l : List (Tre n)) : partsOf (inner (txt (n + 1) (x :: l : List (Tre n)))) = (x :: l).map (txt n) := by
  have e : inner (txt (n + 1) (x :: l : List (Tre n))) = TL.joinL [44, 32] ((x :: l).map (txt n)) := by
    rw [txt_cons]
    unfold inner
    rw [List.drop_one, List.tail_cons, List.length_cons, List.length_append, List.length_singleton]
    show List.take (_ + 1 + 1 - 2) _ = _
    rw [show (TL.joinL [44, 32] ((x :: l).map (txt n))).length + 1 + 1 - 2 = (TL.joinL [44, 32] ((x :: l).map (txt n))).length by omega, List.take_left]
  rw [e]
  unfold partsOf
  have z := scan_join n l x (TL.joinL [44, 32] ((x :: l).map (txt n))) 0 [] rfl
  rw [z]
  rfl
theorem txt_head (n : Nat) (x : Tre n) (l : List (Tre n)) : (txt (n + 1) (x :: l : List (Tre n))).head? = some 91 := rfl
theorem txt_last (n : Nat) (x : Tre n) (l : List (Tre n)) : (txt (n + 1) (x :: l : List (Tre n))).getLast? = some 93 := by
  rw [txt_cons, ← List.cons_append, List.getLast?_append]
  rfl
theorem txt_form : ∀ (n : Nat) (t : Tre n), slim n t = true → hasForm n (txt n t) = true
  | 0, _, _ => rfl
  | n + 1, [], _ => rfl
  | n + 1, x :: l, h => by
    have h' : (decide ((x :: l).length ≤ 3) && (x :: l).all (slim n)) = true := h
    rw [Bool.and_eq_true, List.all_eq_true] at h'
    unfold hasForm
    rw [parts_txt, txt_head, txt_last, List.length_map, h'.1, List.all_map]
    have e : (x :: l).all (hasForm n ∘ txt n) = true := List.all_eq_true.mpr fun y hy => txt_form n y (h'.2 y hy)
    rw [e]
    simp
theorem txt_dot {n : Nat} {x : Tre n} {l : List (Tre n)} : txt (n + 1) (x :: l : List (Tre n)) ≠ [46] := by
  rw [txt_cons]
  intro z
  simp at z
theorem count_join (l : List (List Nat)) : (TL.joinL [44, 32] l).count 91 = (l.map (·.count 91)).sum := by
  induction l with
  | nil => rfl
  | cons p r ih =>
    cases r with
    | nil => simp [TL.joinL]
    | cons q r =>
      rw [joinL_cons, List.count_append, List.count_append, ih]
      simp
theorem txt_count : ∀ (n : Nat) (t : Tre n), (txt n t).count 91 = lsts n t
  | 0, _ => rfl
  | n + 1, [] => rfl
  | n + 1, x :: l => by
    rw [txt_cons, List.count_cons, List.count_append, count_join, List.map_map]
    show (((x :: l).map ((·.count 91) ∘ txt n)).sum + [93].count 91) + _ = 1 + ((x :: l).map (lsts n)).sum
    have e : (x :: l).map ((·.count 91) ∘ txt n) = (x :: l).map (lsts n) := List.map_congr_left fun y _ => txt_count n y
    rw [e]
    simp
    omega
/-- trees with one text are one tree -/
theorem txt_inj : ∀ (n : Nat) (a b : Tre n), txt n a = txt n b → a = b
  | 0, _, _, _ => rfl
  | n + 1, [], [], _ => rfl
  | n + 1, [], y :: m, h => absurd h.symm txt_dot
  | n + 1, x :: l, [], h => absurd h txt_dot
  | n + 1, x :: l, y :: m, h => by
    have e : (x :: l).map (txt n) = (y :: m).map (txt n) := by rw [← parts_txt, ← parts_txt, h]
    have key : ∀ (p q : List (Tre n)), p.map (txt n) = q.map (txt n) → p = q := by
      intro p
      induction p with
      | nil =>
        intro q hq
        cases q with
        | nil => rfl
        | cons _ _ => simp at hq
      | cons c p ih =>
        intro q hq
        cases q with
        | nil => simp at hq
        | cons d q =>
          simp only [List.map_cons, List.cons.injEq] at hq
          rw [txt_inj n c d hq.1, ih q hq.2]
    exact key _ _ e
end Hs

set_option maxHeartbeats 4000000
namespace Hc
open PySem PySem.Spec PyProof.Rows L2
def top (i : Nat) : Stmt := PySem.Challenge.pw_handedcopies_k01_shapes_made.main.body.getD i (.Pass ⟨0, 0, 0, 0⟩)
abbrev sParts : Stmt := top 4
abbrev sIsShape : Stmt := top 9
abbrev sHasForm : Stmt := top 10
abbrev cShape : Stmt := top 11
abbrev sStart : Stmt := top 13
abbrev sDraw : Stmt := top 14
abbrev sOf : Stmt := top 15
abbrev sTree : Stmt := top 16
abbrev sLists : Stmt := top 17
abbrev sDepth : Stmt := top 18
abbrev sText : Stmt := top 19
end Hc

set_option maxHeartbeats 4000000
/-! for i, c in enumerate(a text). -/
namespace Hs
open PySem PySem.Spec PyProof.Rows L2
/-- the text's signs, each in a new pair with its index -/
def Iten (x : Str) : It :=
  ⟨fun i _ => i < x.cps.size, fun i H v H' => ∃ T c, v = .ref T ∧ H T = none ∧ H' = upd H T (.tup [.int (i : Nat), .str ⟨#[c]⟩]) ∧ x.cps[i]? = some c, fun i _ => x.cps.size ≤ i⟩
theorem turn_enumS {P : Program} {w : World} {K : PySem.W.Frag} {elts : List Expr} {kk : Nat} {tpos : Pos} (x : Str) (t : Tok) (e it : Addr) :
    Turn P w K (.Tuple elts kk tpos) (Iten x) [e, it] e (fun i h => (∃ old, IsEnum h e it ((i : Nat) : Int) old) ∧ h.IsStrIter it (strIterType x) x t i ∧ e ≠ it ∧ i ≤ x.cps.size) where
  mem := by simp
  obj := fun i h st b hb => by
    obtain ⟨⟨old, he⟩, ⟨o, ho, hc, hd⟩, _, _⟩ := st
    have e' : b = e ∨ b = it := by simpa using hb
    rcases e' with z | z
    · rw [z]; exact ⟨_, he, fun v q => nomatch q⟩
    · rw [z]; exact ⟨o, ho, fun v q => by rw [hd] at q; cases q⟩
  keep := fun i h h' st k => by
    obtain ⟨⟨old, he⟩, ⟨o, ho, r⟩, hne⟩ := st
    exact ⟨⟨old, k e (by simp) _ he⟩, ⟨o, k it (by simp) o ho, r⟩, hne⟩
  item := by
    intro X hP hw hK hc i pins s σ H E I hf st hg
    subst hP hw hK
    obtain ⟨⟨old, he⟩, hit, hne, _⟩ := st
    have hel : e < s.heap.objs.size := Heap.lt_size he
    have hil : it < s.heap.objs.size := by obtain ⟨_, q, _⟩ := hit; exact Heap.lt_size q
    have hd : X.A.in1.handled = none := I.ok.hd hc
    have W : Draws X.prog X.w X.A.in1 it [it] x.cps.size (fun i v => ∃ c u, x.cps[i]? = some c ∧ v = .str ⟨#[c]⟩ u) (fun i h => h.IsStrIter it (strIterType x) x t i) := by
      unfold strIterType
      cases ha : x.cps.all (· < 128)
      · simpa [ha] using Draws.strWide hd it x t
      · simpa [ha] using Draws.strAscii hd it x t
    refine wpAny_pyNext_enum_itemD W he hit hg hne (by simpa using hne) fun u h' tk hu ho hit' hT hsz hk => ?_
    obtain ⟨c, u', hcx, rfl⟩ := hu
    refine ⟨_, rfl, wpAny_letOwnedTupleGo_enum (s := { s with heap := h', toks := tk + 1 }) ho fun h'' he' sb => ?_⟩
    have hT2 : h''.get? s.heap.objs.size = some { cls := .type "tuple", data := .seq #[.int i tk, .str ⟨#[c]⟩ u'] } := (sb.2 _ (Nat.ne_of_gt hel)).trans hT
    have new : ObjOk X.prog X.w (upd H s.heap.objs.size (.tup [.int (i : Nat), .str ⟨#[c]⟩])) h'' s.heap.objs.size (.tup [.int (i : Nat), .str ⟨#[c]⟩]) :=
      ⟨by show 2 ≤ sizeLine; decide, [.int i tk, .str ⟨#[c]⟩ u'], .cons ⟨_, rfl⟩ (.cons ⟨_, rfl⟩ .nil), ⟨_, hT2, rfl, _, rfl⟩⟩
    have I1 : Inv X pins σ (upd H s.heap.objs.size (.tup [.int (i : Nat), .str ⟨#[c]⟩])) { s with heap := h'', toks := tk + 1 } :=
      I.turnedNew (ch := [e, it]) (fun b ob hb q => (sb.2 b (fun z => hb (by simp [z]))).trans (hk b ob (fun z => hb (by simp [z])) (fun z => hb (by simp [z])) q)) hf (Nat.le_refl _) new
    have hit2 : h''.IsStrIter it (strIterType x) x t (i + 1) := by
      obtain ⟨o, ho', r⟩ := hit'
      exact ⟨o, (sb.2 it (Ne.symm hne)).trans ho', r⟩
    refine ⟨.ref s.heap.objs.size, _, I1, rfl, ⟨_, c, rfl, I.hok.fresh (Nat.le_refl _), rfl, hcx⟩, ⟨⟨.str ⟨#[c]⟩ u', ?_⟩, hit2, hne, hg⟩, fun b hb => ?_⟩
    · have e1 : ((i + 1 : Nat) : Int) = (i : Int) + 1 := by omega
      rw [e1]; exact he'
    · have hb' : b < s.heap.objs.size := by
        have e' : b = e ∨ b = it := by simpa using hb
        rcases e' with z | z
        · rw [z]; exact hel
        · rw [z]; exact hil
      rw [upd_ne (Nat.ne_of_lt hb')]
      exact (hf b hb).1
  done := by
    intro X hP hw hK hc i pins s σ H E I hf st hg
    subst hP hw hK
    obtain ⟨⟨old, he⟩, hit, hne, hle⟩ := st
    have ei : i = x.cps.size := Nat.le_antisymm hle hg
    subst ei
    obtain ⟨f0, f1, f2, f3, f4, f5⟩ := hf it (by simp)
    have hd : X.A.in1.handled = none := I.ok.hd hc
    have W : Draws X.prog X.w X.A.in1 it [it] x.cps.size (fun i v => ∃ c u, x.cps[i]? = some c ∧ v = .str ⟨#[c]⟩ u) (fun i h => h.IsStrIter it (strIterType x) x t i) := by
      unfold strIterType
      cases ha : x.cps.all (· < 128)
      · simpa [ha] using Draws.strWide hd it x t
      · simpa [ha] using Draws.strAscii hd it x t
    exact wpAny_pyNext_enum_endD W he hit fun h' eb => ⟨rfl, I.turned (t' := s.toks) (fun b o hb q => eb b o hb q) f0 f1 f3 f4 f5⟩
  self := fun A i s Q E st h => let ⟨⟨_, he⟩, _⟩ := st; wpAny_pyIter_enum he h
def iEnumS (ta : TA) : TI := fun σ H R => ta σ H fun vs H1 => ∃ x, vs = [.str x] ∧ R (Iten x) H1
theorem pi_enumS {X : Cx} {e : Expr} {ta : TA} {p pos tpos : Pos} {elts : List Expr} {kk : Nat} (hg : Gl X "enumerate") (hm : X.mg "enumerate" = none) (ha : PA X [e] ta) (hs : starEach [e] X.env = [(false, eval e X.env)] := by rfl) :
    PI X (.Tuple elts kk tpos) (.Call (.Name "enumerate" p) [e] [] pos) (iEnumS ta) := by
  refine ⟨fun pins s σ H R I h => ?_⟩
  refine Call_ (ld_blt I hg hm boot_enumerate (PyProof.Rows.callWith_type1 (thn (ha.run pos pins s σ H _ I h) fun us s1 ⟨vs, H1, I1, r1, q1⟩ => ?_) hs rfl))
  obtain ⟨x, ex, q⟩ := q1
  subst ex
  cases r1 with
  | cons r rr =>
    cases rr
    obtain ⟨t, rfl⟩ := r
    refine call_enumerate_str fun h' he hit hsz hk => wpAny_pyIter_enum he ?_
    have I2 : Inv X pins σ H1 { s1 with heap := h' } := I1.kept (t' := s1.toks) hk
    refine ⟨s1.heap.objs.size + 1, [s1.heap.objs.size + 1, s1.heap.objs.size], _, _, H1, rfl, I2, turn_enumS x t (s1.heap.objs.size + 1) s1.heap.objs.size, ⟨⟨.none, he⟩, hit, Nat.succ_ne_self _, Nat.zero_le _⟩, fun b hb => ?_, q⟩
    have e' : b = s1.heap.objs.size + 1 ∨ b = s1.heap.objs.size := by simpa using hb
    have hle : s1.heap.objs.size ≤ b := by
      rcases e' with z | z
      · rw [z]; exact Nat.le_add_right _ _
      · rw [z]; exact Nat.le_refl _
    exact I1.fpOk hle (I1.hok.fresh hle)
/-- a for over enumerate(a text) -/
theorem for_enumS {x : Str} {g : TG} {tb : TS} {D : Ends} {σ : L2.St} {H : Hp} (Pv : Nat → L2.St → Hp → Prop) (h0 : Pv 0 σ H)
    (hs : ∀ i c T σ H, x.cps[i]? = some c → Pv i σ H → H T = none → g (.ref T) σ (upd H T (.tup [.int (i : Nat), .str ⟨#[c]⟩])) fun σ2 H2 => tb { D with nx := Pv (i + 1), ct := Pv (i + 1), bk := D.nx } σ2 H2) (hd : ∀ σ H, Pv x.cps.size σ H → D.nx σ H) :
    ∃ W : Nat → Nat → L2.St → Hp → Prop, (∃ m, W 0 m σ H) ∧ ∀ i m σ H, W i m σ H →
      ((Iten x).stop i H ∧ D.nx σ H) ∨ ((Iten x).go i H ∧ ∃ N : L2.St → Hp → Prop, (∀ σ' H', N σ' H' → ∃ m', m' < m ∧ W (i + 1) m' σ' H') ∧ ∀ v H', (Iten x).yld i H v H' → g v σ H' fun σ2 H2 => tb { D with nx := N, ct := N, bk := D.nx } σ2 H2) := by
  refine ⟨fun i m σ H => m = x.cps.size - i ∧ i ≤ x.cps.size ∧ Pv i σ H, ⟨x.cps.size, by simp, Nat.zero_le _, h0⟩, ?_⟩
  rintro i m σ H ⟨rfl, hi, p⟩
  by_cases hlt : i < x.cps.size
  · refine .inr ⟨hlt, Pv (i + 1), fun σ' H' p' => ⟨x.cps.size - (i + 1), by omega, rfl, hlt, p'⟩, fun v H' y => ?_⟩
    obtain ⟨T, c, rfl, nT, rfl, hc⟩ := y
    exact hs i c T σ H hc p nT
  · have e : i = x.cps.size := by omega
    subst e
    exact .inl ⟨Nat.le_refl _, hd σ H p⟩
end Hs

set_option maxHeartbeats 4000000
/-! parts_of, has_form, is_shape. -/
namespace Hs
open PySem PySem.Spec PyProof.Rows L2 Evl Hc
/-- the longest text that is looked at -/
def cap : Nat := 30000
theorem cap_line {n : Nat} (h : n ≤ cap) : n ≤ sizeLine := Nat.le_trans h (by decide)
structure TxtP (mg : Str → Option Value) : Prop where
  enu : mg "enumerate" = none
  all : mg "all" = none
  len : mg "len" = none
  mI : ∃ t, mg "MOST_ITEMS" = some (.int 3 t)
  mD : ∃ t, mg "MOST_DEPTH" = some (.int 3 t)
  mL : ∃ t, mg "MOST_LISTS" = some (.int 5 t)
def spParts : Sp := fun vs H Q _ => ∃ L, vs = [.str (S L)] ∧ L.length ≤ cap ∧ ∀ p H', H p = none → Ex H H' → H' p = some (.lst ((partsOf L).map fun x => V.str (S x))) → Q (.ref p) H'
def spForm (f : Nat) : Sp := fun vs H Q _ => ∃ L, vs = [.str (S L), .int (f : Int)] ∧ L.length ≤ cap ∧ ∀ H', Ex H H' → Q (.bl (hasForm f L)) H'
def spShape : Sp := fun vs H Q _ => ∃ L, vs = [.str (S L)] ∧ L.length ≤ cap ∧ ∀ H', Ex H H' → Q (.bl (isShape L)) H'
abbrev nParts : List Str := ["text", "parts", "nested", "start", "at", "sign"]
theorem scParts : FnScope nParts ["text"] (defScope sParts) := ⟨rfl, rfl, rfl, by decide +kernel, rfl, by decide +kernel, by decide +kernel⟩
section
variable {σ : L2.St} {H : Hp} {te ta tb : TE} {tl th : TO}
theorem ev_slS {z : Str} {lo hi : Option Int} (h : Ev te σ H (.str z)) (h1 : EvO tl σ H lo) (h2 : EvO th σ H hi) (hz : z.length ≤ sizeLine) : Ev (tSl rSlS te tl th) σ H (.str (cutS z lo hi)) := fun H1 e Q q =>
  h H1 e _ fun H2 e2 => h1 H2 (e.trans e2) _ fun H3 e3 => h2 H3 ((e.trans e2).trans e3) _ fun H4 e4 => ⟨z, rfl, hz, q H4 ((e2.trans e3).trans e4)⟩
theorem dec_S {a b : List Nat} : decide (V.str (S a) = V.str (S b)) = decide (a = b) := by
  by_cases h : a = b
  · subst h
    simp
  · rw [decide_eq_false h, decide_eq_false]
    intro z
    exact h (S_inj (V.str.inj z))
theorem dec_I {a b : Int} : decide (V.int a = V.int b) = decide (a = b) := by
  rw [dec_int]
  rfl
theorem ev_eqS {a b : List Nat} (h1 : Ev ta σ H (.str (S a))) (h2 : Ev tb σ H (.str (S b))) : Ev (tOp rEq ta tb) σ H (.bl (decide (a = b))) := by
  rw [← dec_S]
  exact ev_op h1 h2 (rv_eq rfl)
theorem ev_neS {a b : List Nat} (h1 : Ev ta σ H (.str (S a))) (h2 : Ev tb σ H (.str (S b))) : Ev (tOp rNe ta tb) σ H (.bl (!decide (a = b))) := by
  rw [← dec_S]
  exact ev_op h1 h2 (rv_ne rfl)
theorem ev_eqI {a b : Int} (h1 : Ev ta σ H (.int a)) (h2 : Ev tb σ H (.int b)) : Ev (tOp rEq ta tb) σ H (.bl (decide (a = b))) := by
  rw [← dec_I]
  exact ev_op h1 h2 (rv_eq rfl)
end
section
variable {P : Program} {w : World} {K : PySem.W.Frag} {mg : Str → Option Value} {base : Heap}
theorem mem_two (c : Nat) (a b : Nat) : (c ∈ (S [a, b]).cps.toList) = (c ∈ [a, b]) := rfl
theorem ok_parts {f : Addr} {fd : FuncData} {k : Nat} (F : Fun K "parts_of" "parts_of" sParts f fd) (T : TxtP mg) : FnOk P w K mg base CX0 (k + 1) f fd ["text"] spParts := by
  refine F.ok scParts (fun vs H Q E h => ?_) (fun cdv A outer s H vs Q E hr h => ?_)
  · obtain ⟨L, rfl, _⟩ := h
    rfl
  · obtain ⟨L, rfl, hL, q⟩ := h
    refine ⟨_, pss_cons (ps_set (i := 1) scParts.nd rfl (.inl rfl) (pe_lst pa_nil)) (pss_cons (ps_set (i := 2) scParts.nd rfl (.inl rfl) pe_int) (pss_cons (ps_set (i := 3) scParts.nd rfl (.inl rfl) pe_int)
      (pss_cons (ps_for PassesOwn.never rfl (pi_enumS (by rfl) T.enu (pa_cons (pv 0) pa_nil)) (pg_tup (by rfl) (pgs_cons (pg_name (i := 4) scParts.nd rfl (.inl rfl)) (pgs_cons (pg_name (i := 5) scParts.nd rfl (.inl rfl)) pgs_nil)))
        (pss_one (ps_if (pt_cmpR op_in_sign (pv 5) pe_str (by rfl)) (pss_one (ps_aug (i := 2) scParts.nd rfl (.inl rfl) pe_int ip_add))
          (pss_one (ps_if (pt_cmpR op_in_sign (pv 5) pe_str (by rfl)) (pss_one (ps_aug (i := 2) scParts.nd rfl (.inl rfl) pe_int ip_sub))
            (pss_one (ps_if (PW.pt (pw_and (pt_cmpR op_eq (pv 2) pe_int (nomark _)) (pw_and1 (pt_cmpR op_eq (pe_slice sl_str (pv 0) (po_some (pv 4)) (po_some (pe_op op_add (pv 4) pe_int))) pe_str (nomark _)))))
              (pss_cons (ps_expr (pe_bm PySem.F.plainAttrs_list PySem.F.slot_list_append PySem.F.type_list_append mt_append (pv 1) (pa_cons (pe_slice sl_str (pv 0) (po_some (pv 3)) (po_some (pv 4))) pa_nil)))
                (pss_one (ps_set (i := 3) scParts.nd rfl (.inl rfl) (pe_op op_add (pv 4) pe_int)))) pss_nil)))))))
      (pss_cons (ps_expr (pe_bm PySem.F.plainAttrs_list PySem.F.slot_list_append PySem.F.type_list_append mt_append (pv 1) (pa_cons (pe_slice sl_str (pv 0) (po_some (pv 3)) po_none) pa_nil)))
      (pss_one (ps_ret (pv 1))))))), ?_⟩
    refine ⟨Nat.zero_le _, fun p np => ?_⟩
    refine ⟨_, rfl, S L, rfl, ?_⟩
    refine for_enumS (x := S L) (fun i σ H' => ∃ (st : SS) (v4 v5 : Option V), σ = [some (.str (S L)), some (.ref p), some (.int st.2.1), some (.int (st.2.2 : Nat)), v4, v5] ∧ scan L (L.drop i) i st = scan L L 0 ([], 0, 0) ∧ st.1.length ≤ i ∧ Ex H H' ∧ H' p = some (.lst (st.1.map fun x => V.str (S x)))) ?_ ?_ ?_
    · exact ⟨([], 0, 0), none, none, rfl, rfl, Nat.le_refl _, Ex.new np, upd_same⟩
    · rintro i c T0 σ H' hc ⟨⟨ps, n, a⟩, v4, v5, rfl, hs, hl, e, hp⟩ nT
      have hc' : L[i]? = some c := by
        have z : (S L).cps[i]? = L[i]? := by simp
        rw [← z]
        exact hc
      have hi : i < L.length := (List.getElem?_eq_some_iff.mp hc').1
      have hd : L.drop i = c :: L.drop (i + 1) := by
        rw [List.drop_eq_getElem_cons hi]
        congr 1
        exact (List.getElem?_eq_some_iff.mp hc').2
      rw [hd] at hs
      replace hs : scan L (L.drop (i + 1)) (i + 1) (stepP L (ps, n, a) i c) = scan L L 0 ([], 0, 0) := hs
      refine ⟨T0, _, rfl, SqT.of upd_same, rfl, .int (i : Nat), [.str ⟨#[c]⟩], rfl, .str ⟨#[c]⟩, [], rfl, rfl, ?_⟩
      have eT : Ex H (upd H' T0 (.tup [.int (i : Nat), .str ⟨#[c]⟩])) := e.trans (Ex.new nT)
      have hpT : (upd H' T0 (.tup [.int (i : Nat), .str ⟨#[c]⟩])) p = some (.lst (ps.map fun x => V.str (S x))) := (Ex.new nT) _ _ hp
      generalize upd H' T0 (.tup [.int (i : Nat), .str ⟨#[c]⟩]) = K0 at eT hpT ⊢
      have st' : ∀ (st : SS), stepP L (ps, n, a) i c = st → scan L (L.drop (i + 1)) (i + 1) st = scan L L 0 ([], 0, 0) := fun st e => e ▸ hs
      refine ⟨_, rfl, c, S [91, 40], rfl, rfl, _, rfl, ?_⟩
      refine ite2 (fun h1 => ?_) (fun h1 => ?_)
      · have h1' : c ∈ [91, 40] := of_decide_eq_true h1
        exact ⟨.int n, rfl, n, 1, rfl, rfl, (ps, n + 1, a), _, _, rfl, st' _ (if_pos h1'), Nat.le_succ_of_le hl, eT, hpT⟩
      · have h1' : c ∉ [91, 40] := fun z => h1 (decide_eq_true z)
        refine ⟨_, rfl, c, S [41, 93], rfl, rfl, _, rfl, ?_⟩
        refine ite2 (fun h2 => ?_) (fun h2 => ?_)
        · have h2' : c ∈ [41, 93] := of_decide_eq_true h2
          exact ⟨.int n, rfl, n, 1, rfl, rfl, (ps, n - 1, a), _, _, rfl, st' _ ((if_neg h1').trans (if_pos h2')), Nat.le_succ_of_le hl, eT, hpT⟩
        · have h2' : c ∉ [41, 93] := fun z => h2 (decide_eq_true z)
          have hstep : stepP L (ps, n, a) i c = (if n = 0 ∧ (L.drop i).take 2 = [44, 32] then (ps ++ [(L.drop a).take (i - a)], n, i + 2) else (ps, n, a)) := (if_neg h1').trans (if_neg h2')
          have hsl : ∀ (x y : Nat), (S L).length ≤ sizeLine := fun _ _ => by rw [S_len]; exact cap_line hL
          refine s_when (b := decide (n = 0) && decide ((L.drop i).take 2 = [44, 32])) (et_and (et_test (ev_eqI (ev_var rfl) ev_c)) fun _ => et_test (ev_eqS (b := [44, 32]) (Evl.ev_is (ev_slS (ev_var rfl) (eo_some (ev_var rfl)) (eo_some (ev_op (z := .int ((i + 2 : Nat) : Int)) (ev_var rfl) ev_c rv_I0)) (hsl 0 0)) (by rw [cut_nn, Nat.add_sub_cancel_left])) ev_c)) (fun hb H1 f1 => ?_) (fun hb H1 f1 => ?_)
          · rw [Bool.and_eq_true, decide_eq_true_eq, decide_eq_true_eq] at hb
            refine q_app (l := p) (f1 _ _ hpT) (ev_var rfl) (v := .str (S ((L.drop a).take (i - a)))) (Evl.ev_is (ev_slS (ev_var rfl) (eo_some (ev_var rfl)) (eo_some (ev_var rfl)) (hsl 0 0)) (by rw [cut_nn])) (by rw [List.length_map]; have := cap_line hL; show ps.length < 100000; have h3 : ps.length ≤ i := hl; have h4 : L.length ≤ 30000 := hL; omega) fun H2 f2 => ?_
            refine s_asg (ev_op (z := .int ((i + 2 : Nat) : Int)) (ev_var rfl) ev_c rv_I0) fun H3 f3 => ?_
            refine ⟨(ps ++ [(L.drop a).take (i - a)], n, i + 2), _, _, rfl, st' _ (hstep.trans (if_pos hb)), ?_, ?_, ?_⟩
            · show (ps ++ [_]).length ≤ i + 1
              have h3 : ps.length ≤ i := hl
              rw [List.length_append, List.length_singleton]
              omega
            · exact ((((eT.trans f1).trans f2).mut np).trans f3)
            · refine f3 _ _ ?_
              rw [upd_same, List.map_append]
              rfl
          · have hb' : ¬ (n = 0 ∧ (L.drop i).take 2 = [44, 32]) := by
              intro z
              rw [decide_eq_true z.1, decide_eq_true z.2] at hb
              cases hb
            exact ⟨(ps, n, a), _, _, rfl, st' _ (hstep.trans (if_neg hb')), Nat.le_succ_of_le hl, eT.trans f1, f1 _ _ hpT⟩
    · rintro σ H' ⟨⟨ps, n, a⟩, v4, v5, rfl, hs, hl, e, hp⟩
      have hz : (S L).cps.size = L.length := by simp
      rw [hz] at hs hl
      rw [List.drop_length] at hs
      replace hs : (ps, n, a) = scan L L 0 ([], 0, 0) := hs
      refine q_app (l := p) hp (ev_var rfl) (v := .str (S (L.drop a))) (Evl.ev_is (ev_slS (ev_var rfl) (eo_some (ev_var rfl)) eo_none (by rw [S_len]; exact cap_line hL)) (by rw [cut_n])) (by rw [List.length_map]; show ps.length < 100000; have h3 : ps.length ≤ L.length := hl; have h4 : L.length ≤ 30000 := hL; omega) fun H2 f2 => ?_
      refine s_ret (ev_var rfl) fun H3 f3 => ?_
      refine q p H3 np (((e.trans f2).mut np).trans f3) (f3 _ _ ?_)
      rw [upd_same]
      unfold partsOf
      rw [← hs, List.map_append]
      rfl

/-- a def of the text, ready to be called -/
structure Rd (P : Program) (w : World) (K : PySem.W.Frag) (mg : Str → Option Value) (base : Heap) (x : Str) (k : Nat) (ps : List Str) (sp : Sp) : Prop where
  ex : ∃ (f : Addr) (fd : FuncData), mg x = some (.ref f) ∧ PySem.W.keepIn K (.ref f) = true ∧ Binds K fd ps [] ∧ FnOk P w K mg base CX0 k f fd ps sp
theorem Rd.mono {x : Str} {j k : Nat} {ps : List Str} {sp : Sp} (r : Rd P w K mg base x j ps sp) (h : j ≤ k) : Rd P w K mg base x k ps sp := by
  obtain ⟨f, fd, g, kp, b, G⟩ := r.ex
  exact ⟨f, fd, g, kp, b, G.mono h⟩
theorem pe_rd {X : Cx} {x : Str} {k j : Nat} {ps : List Str} {sp : Sp} {e : Expr} {es : List Expr} {ta : TA} {p pos : Pos} (r : Rd X.prog X.w X.K X.mg X.base x k ps sp) (hr : Room j X.A) (hk : k ≤ j) (hg : Gl X x) (ha : PA X (e :: es) ta)
    (hdb : (x == ("__debug__" : Str)) = false := by decide) (he : starEach (e :: es) X.env = (false, eval e X.env) :: starEach es X.env := by rfl) (hpl : (backTo pos (starEach es X.env)).any (·.1) = false := by rfl) : PE X (.Call (.Name x p) (e :: es) [] pos) (tCall sp [] E0 ta) := by
  obtain ⟨f, fd, g1, kp, b, G⟩ := r.ex
  exact pe_call G (hr.mono hk) hg g1 kp b .nil pass0 ha hdb he hpl
/-- what is never asked -/
def spNo : Sp := fun _ _ _ _ => False
theorem rd_no {x : Str} {st : Stmt} {f : Addr} {fd : FuncData} {ps : List Str} (F : Fun K x x st f fd) (g : mg x = some (.ref f)) (b : Binds K fd ps []) (k : Nat) : Rd P w K mg base x k ps spNo :=
  ⟨f, fd, g, F.kp, b, ⟨fun _ _ _ _ h => h.elim, fun _ _ _ _ _ _ _ _ _ _ _ _ _ h => h.elim⟩⟩
theorem ev_m1 {σ : L2.St} {H : Hp} {to te : TE} {r : V → List V → Hp → VK → Prop} {a : Str} {y z : V} (h1 : Ev to σ H (.str a)) (h2 : Ev te σ H y) (hr : ∀ (H1 : Hp) (Q : VK), Q z H1 → r (.str a) [y] H1 Q) : Ev (tM1 r to te) σ H z := fun H1 e Q q =>
  h1 H1 e _ fun H2 e2 => ⟨⟨a, rfl⟩, h2 H2 (e.trans e2) _ fun H3 e3 => hr H3 Q (q H3 (e2.trans e3))⟩
theorem ev_all {σ : L2.St} {H : Hp} {tl : TE} {bs : List Bool} (h : EvL tl σ H (bs.map V.bl)) : Ev (tCB (rAll K) (tCons tl tNil)) σ H (.bl (bs.all id)) := fun H1 e Q q =>
  h H1 e _ fun p H2 np e2 hp => ⟨p, bs, rfl, SqL.of hp, q H2 e2⟩
theorem sp_parts {H : Hp} {L : List Nat} (h : L.length ≤ cap) : SpL spParts ([.str (S L)] ++ []) H ((partsOf L).map fun x => V.str (S x)) := fun H1 e Q q E => ⟨L, rfl, h, fun p H' np ex hp => q p H' np ex hp⟩
theorem sp_form {H : Hp} {L : List Nat} {n : Nat} (h : L.length ≤ cap) : SpV (spForm n) ([.str (S L), .int (n : Int)] ++ []) H (.bl (hasForm n L)) := fun H1 e Q q E => ⟨L, rfl, h, fun H' ex => q H' ex⟩
theorem sp_shape {H : Hp} {L : List Nat} (h : L.length ≤ cap) : SpV spShape ([.str (S L)] ++ []) H (.bl (isShape L)) := fun H1 e Q q E => ⟨L, rfl, h, fun H' ex => q H' ex⟩
theorem ev_starts {σ : L2.St} {H : Hp} {to te : TE} {L : List Nat} {c : Nat} (h1 : Ev to σ H (.str (S L))) (h2 : Ev te σ H (.str (S [c]))) :
    Ev (tM1 (fun x xs H Q => ∃ a b, x = .str a ∧ xs = [.str b] ∧ Q (.bl (Txt.startswith a b)) H) to te) σ H (.bl (L.head? == some c)) := ev_m1 h1 h2 fun H1 Q q => ⟨S L, S [c], rfl, rfl, by rw [starts1]; exact q⟩
theorem ev_ends {σ : L2.St} {H : Hp} {to te : TE} {L : List Nat} {c : Nat} (h1 : Ev to σ H (.str (S L))) (h2 : Ev te σ H (.str (S [c]))) :
    Ev (tM1 (fun x xs H Q => ∃ a b, x = .str a ∧ xs = [.str b] ∧ Q (.bl (Txt.endswith a b)) H) to te) σ H (.bl (L.getLast? == some c)) := ev_m1 h1 h2 fun H1 Q q => ⟨S L, S [c], rfl, rfl, by rw [ends1]; exact q⟩
theorem ev_count {σ : L2.St} {H : Hp} {to te : TE} {L : List Nat} {c : Nat} (h1 : Ev to σ H (.str (S L))) (h2 : Ev te σ H (.str (S [c]))) :
    Ev (tM1 (fun x xs H Q => ∃ a b, x = .str a ∧ xs = [.str b] ∧ Q (.int (Txt.count a b)) H) to te) σ H (.int ((L.count c : Nat) : Int)) := ev_m1 h1 h2 fun H1 Q q => ⟨S L, S [c], rfl, rfl, by rw [count1]; exact q⟩
theorem wipe1 {σ : L2.St} {j : Nat} (x : V) : wipe ((wipe σ [j]).set j (some x)) [j] = wipe σ [j] := by
  show ((σ.set j none).set j (some x)).set j none = σ.set j none
  rw [List.set_set, List.set_set]
abbrev nForm : List Str := ["text", "floors", "parts", "part"]
theorem scForm : FnScope nForm ["text", "floors"] (defScope sHasForm) := ⟨rfl, rfl, rfl, by decide +kernel, rfl, by decide +kernel, by decide +kernel⟩
theorem ok_form1 {f : Addr} {fd : FuncData} {k n : Nat} {spP : Sp} (F : Fun K "has_form" "has_form" sHasForm f fd) (T : TxtP mg) (rP : Rd P w K mg base "parts_of" k ["text"] spParts) (rF : Rd P w K mg base "has_form" k ["text", "floors"] spP)
    (hc : n = 0 ∨ ∃ m, n = m + 1 ∧ spP = spForm m) : FnOk P w K mg base CX0 (k + 1) f fd ["text", "floors"] (spForm n) := by
  refine F.ok scForm (fun vs H Q E h => ?_) (fun cdv A outer s H vs Q E hr h => ?_)
  · obtain ⟨L, rfl, _⟩ := h
    rfl
  · obtain ⟨L, rfl, hL, q⟩ := h
    obtain ⟨tI, hI⟩ := T.mI
    refine ⟨_, pss_cons (ps_if (pt_cmpR op_eq (pv 0) pe_str (nomark _)) (pss_one (ps_ret pe_bl)) pss_nil)
      (pss_cons (ps_if (PW.pt (pw_or (pt_cmpR op_eq (pv 1) pe_int (nomark _)) (pw_or (pt_not (pt_val (pe_m1 PySem.F.slot_str_startswith PySem.F.type_str_startswith mt_startswith (pv 0) pe_str))) (pw_or1 (pt_not (pt_val (pe_m1 PySem.F.slot_str_endswith PySem.F.type_str_endswith mt_endswith (pv 0) pe_str)))))))
          (pss_one (ps_ret pe_bl)) pss_nil)
      (pss_cons (ps_set (i := 2) scForm.nd rfl (.inl rfl) (pe_rd rP hr (Nat.le_refl _) (by rfl) (pa_cons (pe_slice sl_str (pv 0) (po_some pe_int) (po_some (pe_un un_neg pe_int))) pa_nil)))
      (pss_one (ps_ret (pe_and (pe_cmpR op_le (pe_callB call_len_seq (by rfl) T.len PySem.boot_len (pa_cons (pv 2) pa_nil)) (pe_glob (v := .int 3) (by rfl) hI ⟨_, rfl⟩) (nomark _))
        (pe_one (pe_callB (cr_all rfl) (by rfl) T.all boot_all (pa_cons (pe_lc (own := [("part", 3)]) (g := gName 3) (tt := tYes) rfl scForm.nd (pi_list (pv 2)) (blkOk_by (N := nForm) (sc := defScope sHasForm) (by decide +kernel)) (fun _ _ _ _ _ => pg_name (i := 3) scForm.nd rfl (.inl rfl)) (fun _ _ _ _ _ => pts_nil)
          (fun _ _ _ _ _ => pe_rd rF hr (Nat.le_refl _) (by rfl) (pa_cons (pv 3) (pa_cons (pe_op op_sub (pv 1) pe_int) pa_nil)))) pa_nil)))))))), ?_⟩
    refine q_when (et_test (ev_eqS (ev_var rfl) ev_c)) (fun hb H1 f1 => ?_) (fun hb H1 f1 => ?_)
    · refine s_ret ev_c fun H2 f2 => ?_
      have e : hasForm n L = true := by
        have e1 : L = [46] := of_decide_eq_true hb
        rw [e1]
        cases n <;> rfl
      rw [← e]
      exact q H2 (f1.trans f2)
    · have hne : L ≠ [46] := of_decide_eq_false hb
      refine q_when (et_or (et_test (ev_eqI (ev_var rfl) ev_c)) fun _ => et_or (et_not (et_B (ev_starts (c := 91) (ev_var rfl) ev_c))) fun _ => et_not (et_B (ev_ends (c := 93) (ev_var rfl) ev_c))) (fun hb2 H2 f2 => ?_) (fun hb2 H2 f2 => ?_)
      · refine s_ret ev_c fun H3 f3 => ?_
        have e : hasForm n L = false := by
          cases n with
          | zero => exact decide_eq_false hne
          | succ n =>
            unfold hasForm
            rw [decide_eq_false hne]
            rw [decide_eq_false (by omega)] at hb2
            revert hb2
            cases (L.head? == some 91) <;> cases (L.getLast? == some 93) <;> simp
        rw [← e]
        exact q H3 ((f1.trans f2).trans f3)
      · obtain ⟨m, rfl, rfl⟩ : ∃ m, n = m + 1 ∧ spP = spForm m := by
          rcases hc with rfl | h
          · simp at hb2
          · exact h
        have e : hasForm (m + 1) L = (decide ((partsOf (inner L)).length ≤ 3) && (partsOf (inner L)).all (hasForm m)) := by
          unfold hasForm
          rw [decide_eq_false hne]
          rw [decide_eq_false (by omega)] at hb2
          revert hb2
          cases (L.head? == some 91) <;> cases (L.getLast? == some 93) <;> simp
        have hi : (inner L).length ≤ cap := Nat.le_trans (inner_len L) hL
        refine q_asgL (el_call (ea_cons (Evl.ev_is (ev_slS (lo := some 1) (hi := some (-1)) (ev_var rfl) (eo_some ev_c) (eo_some (ev_un ev_c ru_neg)) (by rw [S_len]; exact cap_line hL)) (by rw [cut_in])) ea_nil) (sp_parts hi)) fun p H3 np f3 hp => ?_
        refine s_ret (ev_andV (ev_op (ev_len (ev_var rfl) (SqL.of hp)) ev_c rv_I0) fun _ => ev_all (bs := (partsOf (inner L)).map (hasForm m)) (by
          have z := el_map (K := K) (H := H3) (tl := tVar 2) (te := tCall (spForm m) [] E0 (tCons (tVar 3) (tCons (tOp (rI0 fun i j => .int (i - j)) (tVar 1) (tC (.int 1))) tNil))) (t := tYes) (j := 3) (vs := [3]) (σ := [some (.str (S L)), some (.int ((m + 1 : Nat) : Int)), some (.ref p), none]) (partsOf (inner L)) (fun x => V.str (S x)) (fun _ => true) (fun x => V.bl (hasForm m x)) (ev_var rfl) (SqL.of hp) ?_ wipe1 (fun x H1 _ _ => et_yes) (fun x H1 _ hx _ => ?_)
          · rw [List.filter_eq_self.mpr (fun _ _ => rfl)] at z
            rw [List.map_map]
            exact z
          · have h1 := partsOf_len (inner L)
            have h2 : (inner L).length ≤ 30000 := hi
            omega
          · refine ev_call (ea_cons (ev_var rfl) (ea_cons (ev_op (z := .int (m : Int)) (ev_var rfl) ev_c (by
              have e : ((m : Int)) = ((m + 1 : Nat) : Int) - 1 := by omega
              rw [e]
              exact rv_I0)) ea_nil)) (sp_form (Nat.le_trans (partsOf_items _ x hx) hi)))) fun H4 f4 => ?_
        have e2 : hasForm (m + 1) L = (decide ((((partsOf (inner L)).map fun x => V.str (S x)).length : Int) ≤ 3) && ((partsOf (inner L)).map (hasForm m)).all id) := by
          rw [e, List.length_map, List.all_map]
          congr 1
          · rw [decide_eq_decide]
            omega
        rw [← e2]
        exact q H4 (((f1.trans f2).trans f3).trans f4)
theorem rd_form {f : Addr} {fd : FuncData} {k : Nat} (F : Fun K "has_form" "has_form" sHasForm f fd) (g : mg "has_form" = some (.ref f)) (b : Binds K fd ["text", "floors"] []) (T : TxtP mg) (rP : Rd P w K mg base "parts_of" k ["text"] spParts) :
    ∀ n, Rd P w K mg base "has_form" (k + 1 + n) ["text", "floors"] (spForm n)
  | 0 => ⟨f, fd, g, F.kp, b, ok_form1 F T rP (rd_no F g b k) (.inl rfl)⟩
  | n + 1 => ⟨f, fd, g, F.kp, b, ok_form1 F T (rP.mono (show k ≤ k + 1 + n by omega)) (rd_form F g b T rP n) (.inr ⟨n, rfl, rfl⟩)⟩
theorem scIs : FnScope ["text"] ["text"] (defScope sIsShape) := ⟨rfl, rfl, rfl, by decide +kernel, rfl, by decide +kernel, by decide +kernel⟩
theorem ok_is {f : Addr} {fd : FuncData} {k : Nat} (F : Fun K "is_shape" "is_shape" sIsShape f fd) (T : TxtP mg) (rF : Rd P w K mg base "has_form" k ["text", "floors"] (spForm 3)) : FnOk P w K mg base CX0 (k + 1) f fd ["text"] spShape := by
  refine F.ok scIs (fun vs H Q E h => ?_) (fun cdv A outer s H vs Q E hr h => ?_)
  · obtain ⟨L, rfl, _⟩ := h
    rfl
  · obtain ⟨L, rfl, hL, q⟩ := h
    obtain ⟨tL, hI⟩ := T.mL
    obtain ⟨tD, hD⟩ := T.mD
    refine ⟨_, pss_one (ps_ret (pe_and (pe_cmpR op_le (pe_m1 PySem.F.slot_str_count PySem.F.type_str_count mt_count (pv 0) pe_str) (pe_glob (v := .int 5) (by rfl) hI ⟨_, rfl⟩) (nomark _))
      (pe_one (pe_rd rF hr (Nat.le_refl _) (by rfl) (pa_cons (pv 0) (pa_cons (pe_glob (v := .int 3) (by rfl) hD ⟨_, rfl⟩) pa_nil)))))), ?_⟩
    refine s_ret (ev_andV (ev_op (ev_count (c := 91) (ev_var rfl) ev_c) ev_c rv_I0) fun _ => ev_call (ea_cons (ev_var rfl) (ea_cons ev_c ea_nil)) (sp_form hL)) fun H1 f1 => ?_
    have e : isShape L = (decide (((L.count 91 : Nat) : Int) ≤ 5) && hasForm 3 L) := by
      unfold isShape
      congr 1
      rw [decide_eq_decide]
      omega
    rw [← e]
    exact q H1 f1
end
end Hs

set_option maxHeartbeats 4000000
/-! Shape(text), its fields and properties. -/
namespace Hs
open PySem PySem.Spec PyProof.Rows L2 Evl Hc
/-! ### evaluations whose value is told by a relation -/
def EvR (te : TE) (σ : L2.St) (H : Hp) (R : V → Hp → Prop) : Prop := ∀ H1, Ex H H1 → ∀ Q : VK, (∀ v H2, Ex H1 H2 → R v H2 → Q v H2) → te σ H1 Q
/-- item by item -/
def All2 {α : Type} (R : α → V → Hp → Prop) (ns : List α) (xs : List V) (H : Hp) : Prop := xs.length = ns.length ∧ ∀ (i : Nat) (n : α) (x : V), ns[i]? = some n → xs[i]? = some x → R n x H
/-- what stays: no list, and of the instances those with four fields -/
def Gd (o : HO) : Prop := (∀ xs, o ≠ .lst xs) ∧ ∀ C dx fs, o = .ins C dx fs → fs.length = 4
def NL (H H' : Hp) : Prop := ∀ b o, H b = some o → Gd o → H' b = some o
theorem NL.refl (H : Hp) : NL H H := fun _ _ h _ => h
theorem NL.trans {H H1 H2 : Hp} (a : NL H H1) (b : NL H1 H2) : NL H H2 := fun c o h n => b c o (a c o h n) n
theorem NL.ex {H H1 : Hp} (a : Ex H H1) : NL H H1 := fun c o h _ => a c o h
theorem NL.upd {H : Hp} {p : Addr} {o u : HO} (h : H p = some o) (n : ¬ Gd o) : NL H (L2.upd H p u) := fun b z e g => by
  rw [upd_ne (fun q => by rw [q, h] at e; exact n (by rw [Option.some.inj e]; exact g))]
  exact e
theorem NL.put {H : Hp} {p : Addr} {xs ys : List V} (h : H p = some (.lst xs)) : NL H (L2.upd H p (.lst ys)) := NL.upd h fun g => g.1 xs rfl
theorem gd_tup {xs : List V} : Gd (.tup xs) := ⟨fun ys z => (by cases z), fun C dx fs z => (by cases z)⟩
theorem NL.seqT {K : PySem.W.Frag} {H H' : Hp} {a : Addr} {xs : List V} (e : NL H H') (h : SqT K H a xs) : SqT K H' a xs := by
  rcases h with (h | ⟨o, h⟩) | h
  · exact .inl (.inl (e _ _ h gd_tup))
  · exact .inl (.inr ⟨o, e _ _ h ⟨fun ys z => (by cases z), fun C dx fs z => (by cases z)⟩⟩)
  · exact .inr h
def ExMon (R : V → Hp → Prop) : Prop := ∀ v H H', NL H H' → R v H → R v H'
theorem All2.ex {α : Type} {R : α → V → Hp → Prop} {ns : List α} {xs : List V} {H H' : Hp} (h : All2 R ns xs H) (m : ∀ n, ExMon (R n)) (e : NL H H') : All2 R ns xs H' := ⟨h.1, fun i n x a b => m n x H H' e (h.2 i n x a b)⟩
theorem All2.nil {α : Type} {R : α → V → Hp → Prop} {H : Hp} : All2 R [] [] H := ⟨rfl, fun i n x a _ => by simp at a⟩
theorem All2.snoc {α : Type} {R : α → V → Hp → Prop} {ns : List α} {n : α} {xs : List V} {x : V} {H : Hp} (h : All2 R ns xs H) (r : R n x H) : All2 R (ns ++ [n]) (xs ++ [x]) H := by
  refine ⟨by rw [List.length_append, List.length_append, h.1]; rfl, fun i m y a b => ?_⟩
  by_cases hi : i < ns.length
  · rw [List.getElem?_append_left hi] at a
    rw [List.getElem?_append_left (by rw [h.1]; exact hi)] at b
    exact h.2 i m y a b
  · rw [List.getElem?_append_right (by omega)] at a
    rw [List.getElem?_append_right (by rw [h.1]; omega), h.1] at b
    obtain ⟨k, hk⟩ : ∃ k, i - ns.length = k := ⟨_, rfl⟩
    rw [hk] at a b
    cases k with
    | zero =>
      simp at a b
      subst a
      subst b
      exact r
    | succ k => simp at a
/-- what a comprehension keeps that makes things -/
def Cr {α : Type} (R : α → V → Hp → Prop) (ns : List α) (H : Hp) (D : Addr) (i : Nat) (H' : Hp) : Prop := H D = none ∧ Ex H H' ∧ ∃ xs, H' D = some (.lst xs) ∧ All2 R (ns.take i) xs H'
section
variable {K : PySem.W.Frag} {σ : L2.St} {H : Hp} {te : TE}
theorem take_succ' {α : Type} {ns : List α} {i : Nat} {n : α} (h : ns[i]? = some n) : ns.take (i + 1) = ns.take i ++ [n] := by
  rw [List.take_add_one, h]
  rfl
theorem cr_turn {α : Type} {R : α → V → Hp → Prop} {ns : List α} {H' : Hp} {D : Addr} {i : Nat} {n : α} {σ2 : L2.St} (m : ∀ n, ExMon (R n)) (p : Cr R ns H D i H') (hn : ns[i]? = some n) (hz : ns.length ≤ 40000) (he : ∀ H1, Ex H H1 → EvR te σ2 H1 (R n)) :
    tYes σ2 H' fun b H3 => if b = true then te σ2 H3 fun y H4 => ∃ acc, H4 D = some (.lst acc) ∧ acc.length < sizeLine ∧ Cr R ns H D (i + 1) (upd H4 D (.lst (acc ++ [y]))) else Cr R ns H D (i + 1) H3 := by
  show te σ2 H' fun y H4 => ∃ acc, H4 D = some (.lst acc) ∧ acc.length < sizeLine ∧ Cr R ns H D (i + 1) (upd H4 D (.lst (acc ++ [y])))
  obtain ⟨p1, p2, xs, p3, p4⟩ := p
  have hi : i < ns.length := (List.getElem?_eq_some_iff.mp hn).1
  refine he H' p2 H' (Ex.refl H') _ fun y H4 e4 r => ⟨xs, e4 _ _ p3, sz_lt (by have := p4.1; rw [List.length_take] at this; omega), p1, (p2.trans e4).mut p1, xs ++ [y], upd_same, ?_⟩
  rw [take_succ' hn]
  have hD := e4 _ _ p3
  exact (p4.ex m ((NL.ex e4).trans (NL.put hD))).snoc (m n _ _ _ (NL.put hD) r)
/-- [te for x in a], a a list, made things told by R -/
theorem er_core {β : Type} {R : β → V → Hp → Prop} {a : Addr} {j : Nat} {vs : List Nat} {H1 : Hp} {D : Addr} {Qd : Hp → Prop} (m : ∀ n, ExMon (R n)) (ns : List β) (ys : List V) (hl : ys.length = ns.length) (hs : ∀ H2, Ex H1 H2 → SqL K H2 a ys) (hz : ns.length ≤ 40000)
    (hw : ∀ x, wipe ((wipe σ vs).set j (some x)) vs = wipe σ vs) (hD : H1 D = none) (he : ∀ (i : Nat) (n : β) (y : V) H2, Ex H1 H2 → ns[i]? = some n → ys[i]? = some y → EvR te ((wipe σ vs).set j (some y)) H2 (R n))
    (q : ∀ xs H2, Ex H1 H2 → H2 D = some (.lst xs) → All2 R ns xs H2 → Qd H2) :
    ∃ W : Nat → Nat → Hp → Prop, (∃ m, W 0 m (upd H1 D (.lst []))) ∧ ∀ i m H, W i m H →
      ((Itl K a).stop i H ∧ Qd H) ∨ ((Itl K a).go i H ∧ ∃ Nx : Hp → Prop, (∀ H', Nx H' → ∃ m', m' < m ∧ W (i + 1) m' H') ∧ ∀ x H', (Itl K a).yld i H x H' → gName j x (wipe σ vs) H' fun σ2 H2 => wipe σ2 vs = wipe σ vs ∧ tYes σ2 H2 fun b H3 =>
        if b = true then te σ2 H3 fun y H4 => ∃ acc, H4 D = some (.lst acc) ∧ acc.length < sizeLine ∧ Nx (upd H4 D (.lst (acc ++ [y]))) else Nx H3) :=
  lc_list (xs := ys) (Cr R ns H1 D) ⟨hD, Ex.new hD, [], upd_same, All2.nil⟩ (fun i H' _ p => hs _ p.2.1) (fun i y H' hi p => by
      obtain ⟨n, hn⟩ : ∃ n, ns[i]? = some n := ⟨_, List.getElem?_eq_getElem (by rw [← hl]; exact (List.getElem?_eq_some_iff.mp hi).1)⟩
      exact ⟨hw y, cr_turn m p hn hz fun H3 e3 => he i n y H3 e3 hn hi⟩)
      (fun H' p => by
        obtain ⟨p1, p2, xs, p3, p4⟩ := p
        rw [List.take_of_length_le (by omega)] at p4
        exact q xs H' p2 p3 p4)
theorem er_lcN {β : Type} {R : β → V → Hp → Prop} {tl : TE} {j : Nat} {vs : List Nat} (m : ∀ n, ExMon (R n)) (ns : List β) (ys : List V) (hl : ys.length = ns.length) (h : EvL tl σ H ys) (hz : ns.length ≤ 40000)
    (hw : ∀ x, wipe ((wipe σ vs).set j (some x)) vs = wipe σ vs) (he : ∀ (i : Nat) (n : β) (y : V) H1, Ex H H1 → ns[i]? = some n → ys[i]? = some y → EvR te ((wipe σ vs).set j (some y)) H1 (R n)) :
    ∀ H1, Ex H H1 → ∀ Q : VK, (∀ p xs H2, H1 p = none → Ex H1 H2 → H2 p = some (.lst xs) → All2 R ns xs H2 → Q (.ref p) H2) → tLc (iList K tl) (gName j) tYes te vs σ H1 Q := fun H0 e Q q =>
  h H0 e _ fun a H1 na e1 hx => ⟨a, rfl, ⟨ys, SqL.of hx⟩, fun D hD =>
    er_core m ns ys hl (fun H2 e2 => SqL.of (e2 _ _ hx)) hz hw hD (fun i n y H2 e2 => he i n y H2 ((e.trans e1).trans e2)) fun xs H2 e2 => q D xs H2 (fresh_back e1 hD) (e1.trans e2)⟩
theorem er_lcL {β : Type} {R : β → V → Hp → Prop} {a : Addr} {tl : TE} {j : Nat} {vs : List Nat} (m : ∀ n, ExMon (R n)) (ns : List β) (ys : List V) (hl : ys.length = ns.length) (h : Ev tl σ H (.ref a)) (hx : SqL K H a ys) (hz : ns.length ≤ 40000)
    (hw : ∀ x, wipe ((wipe σ vs).set j (some x)) vs = wipe σ vs) (he : ∀ (i : Nat) (n : β) (y : V) H1, Ex H H1 → ns[i]? = some n → ys[i]? = some y → EvR te ((wipe σ vs).set j (some y)) H1 (R n)) :
    ∀ H1, Ex H H1 → ∀ Q : VK, (∀ p xs H2, H1 p = none → Ex H1 H2 → H2 p = some (.lst xs) → All2 R ns xs H2 → Q (.ref p) H2) → tLc (iList K tl) (gName j) tYes te vs σ H1 Q := fun H0 e Q q =>
  h H0 e _ fun H1 e1 => ⟨a, rfl, ⟨ys, ex_l (e.trans e1) hx⟩, fun D hD =>
    er_core m ns ys hl (fun H2 e2 => ex_l ((e.trans e1).trans e2) hx) hz hw hD (fun i n y H2 e2 => he i n y H2 ((e.trans e1).trans e2)) fun xs H2 e2 => q D xs H2 (fresh_back e1 hD) (e1.trans e2)⟩
/-- .. over a tuple, the values known by index -/
theorem el_lcT {a : Addr} {xs : List V} {tl : TE} {j : Nat} {vs : List Nat} (v : Nat → V) (h : Ev tl σ H (.ref a)) (hx : SqT K H a xs) (hz : xs.length ≤ 40000) (hw : ∀ x, wipe ((wipe σ vs).set j (some x)) vs = wipe σ vs)
    (he : ∀ (i : Nat) (x : V) H1, Ex H H1 → xs[i]? = some x → Ev te ((wipe σ vs).set j (some x)) H1 (v i)) :
    EvL (tLc (iTup K tl) (gName j) tYes te vs) σ H ((List.range xs.length).map v) := fun H0 e Q q => h H0 e _ fun H1 e1 => ⟨a, rfl, ⟨xs, ex_t (e.trans e1) hx⟩, fun Dl hD =>
  lc_tup (xs := xs) (Cw H1 (fun _ => true) v Dl) ⟨hD, Ex.new hD, upd_same⟩ (fun i H' _ p => ex_t ((e.trans e1).trans p.2.1) hx) (fun i x H' hi p => ⟨hw x, cw_turn p (by have := (List.getElem?_eq_some_iff.mp hi).1; omega) et_yes (fun _ => he i x H1 (e.trans e1) hi)⟩)
    (fun H' p => q Dl H' (fresh_back e1 p.1) (e1.trans p.2.1) (by
      have z := p.2.2
      unfold given at z
      rw [List.filter_eq_self.mpr (fun _ _ => rfl)] at z
      exact z))⟩
end

/-! ### shapes as objects -/
def ShB (K : PySem.W.Frag) (C : Addr) (L : List Nat) (d k : Nat) (xs : List V) (v : V) (H : Hp) : Prop :=
  ∃ a dx p, v = .ref a ∧ H a = some (.ins C dx [("text", .str (S L)), ("_parts", .ref p), ("_depth", .int (d : Int)), ("_lists", .int (k : Int))]) ∧ SqT K H p xs
def ShV (K : PySem.W.Frag) (C : Addr) : (n : Nat) → Tre n → V → Hp → Prop
  | 0, _, v, H => ShB K C [46] 0 0 [] v H
  | n + 1, (l : List (Tre n)), v, H => ∃ xs, ShB K C (txt (n + 1) l) (dep (n + 1) l) (lsts (n + 1) l) xs v H ∧ All2 (fun t v H => ShV K C n t v H) l xs H
def Items (K : PySem.W.Frag) (C : Addr) : (n : Nat) → Tre n → List V → Hp → Prop
  | 0, _, xs, _ => xs = []
  | n + 1, (l : List (Tre n)), xs, H => All2 (fun t v H => ShV K C n t v H) l xs H
theorem shV_iff {K : PySem.W.Frag} {C : Addr} : ∀ (n : Nat) (t : Tre n) (v : V) (H : Hp), ShV K C n t v H ↔ ∃ xs, ShB K C (txt n t) (dep n t) (lsts n t) xs v H ∧ Items K C n t xs H
  | 0, _, v, H => ⟨fun h => ⟨[], h, rfl⟩, fun ⟨xs, h, e⟩ => by
    have e' : xs = [] := e
    subst e'
    exact h⟩
  | n + 1, l, v, H => Iff.rfl
theorem shB_mon {K : PySem.W.Frag} {C : Addr} {L : List Nat} {d k : Nat} {xs : List V} : ExMon (ShB K C L d k xs) := fun v H H' e h => by
  obtain ⟨a, dx, p, hv, ha, hp⟩ := h
  exact ⟨a, dx, p, hv, e _ _ ha ⟨fun ys z => (by cases z), fun C dx fs z => (by cases z; rfl)⟩, e.seqT hp⟩
theorem shV_mon {K : PySem.W.Frag} {C : Addr} : ∀ (n : Nat) (t : Tre n), ExMon (ShV K C n t)
  | 0, t => shB_mon
  | n + 1, l => fun v H H' e h => by
    obtain ⟨xs, h1, h2⟩ := h
    exact ⟨xs, shB_mon v H H' e h1, h2.ex (fun t => shV_mon n t) e⟩
theorem items_mon {K : PySem.W.Frag} {C : Addr} {H H' : Hp} {xs : List V} (e : NL H H') : ∀ (n : Nat) (t : Tre n), Items K C n t xs H → Items K C n t xs H'
  | 0, _, h => h
  | n + 1, l, h => All2.ex (R := fun t v H => ShV K C n t v H) h (fun t => shV_mon n t) e
theorem map_get {α β : Type} (f : α → β) {l : List α} {i : Nat} {x : α} (h : l[i]? = some x) : (l.map f)[i]? = some (f x) := by
  rw [List.getElem?_map, h]
  rfl
def deps : (n : Nat) → Tre n → List Nat
  | 0, _ => []
  | n + 1, (l : List (Tre n)) => l.map (dep n)
theorem items_deps {K : PySem.W.Frag} {C : Addr} {H : Hp} {xs : List V} : ∀ (n : Nat) (t : Tre n), Items K C n t xs H → xs.length = (deps n t).length ∧ ∀ (i : Nat) (y : V), xs[i]? = some y → ∃ a dx fs d, y = .ref a ∧ H a = some (.ins C dx fs) ∧ fs.lookup ("_depth" : Str) = some (.int ((d : Nat) : Int)) ∧ (deps n t)[i]? = some d
  | 0, _, h => by
    have h' : xs = [] := h
    subst h'
    exact ⟨rfl, fun i y e => by simp at e⟩
  | n + 1, l, h => by
    refine ⟨h.1.trans (List.length_map ..).symm, fun i y e => ?_⟩
    have hi : i < List.length l := by rw [← h.1]; exact (List.getElem?_eq_some_iff.mp e).1
    have ht := List.getElem?_eq_getElem hi
    have r := h.2 i _ y ht e
    obtain ⟨zs, ⟨a, dx, p, hv, ha, _⟩, _⟩ := (shV_iff n _ y H).mp r
    refine ⟨a, dx, _, _, hv, ha, rfl, ?_⟩
    exact map_get (dep n) ht
theorem fold_max (ds : List Nat) : ∀ b : Nat, ds.foldl max b ∈ b :: ds ∧ (∀ d ∈ b :: ds, d ≤ ds.foldl max b) := by
  induction ds with
  | nil => exact fun b => ⟨List.mem_cons_self, fun d h => by rw [List.mem_singleton.mp h]; exact Nat.le_refl _⟩
  | cons c r ih =>
    intro b
    obtain ⟨h1, h2⟩ := ih (max b c)
    refine ⟨?_, fun d hd => ?_⟩
    · show r.foldl max (max b c) ∈ _
      rcases List.mem_cons.mp h1 with e | e
      · rw [e]
        rcases Nat.le_total b c with z | z
        · rw [Nat.max_eq_right z]
          exact List.mem_cons_of_mem _ List.mem_cons_self
        · rw [Nat.max_eq_left z]
          exact List.mem_cons_self
      · exact List.mem_cons_of_mem _ (List.mem_cons_of_mem _ e)
    · show d ≤ r.foldl max (max b c)
      have hb := h2 _ List.mem_cons_self
      rcases List.mem_cons.mp hd with e | hd
      · omega
      · rcases List.mem_cons.mp hd with e | hd
        · omega
        · exact h2 d (List.mem_cons_of_mem _ hd)
theorem dep_max : ∀ (n : Nat) (t : Tre n) (m : Int), m ∈ (0 : Int) :: (deps n t).map (fun d => ((d : Nat) : Int) + 1) → (∀ y, y ∈ (0 : Int) :: (deps n t).map (fun d => ((d : Nat) : Int) + 1) → y ≤ m) → m = ((dep n t : Nat) : Int)
  | 0, _, m, h, _ => List.mem_singleton.mp h
  | n + 1, [], m, h, _ => List.mem_singleton.mp h
  | n + 1, x :: l, m, h, hm => by
    show m = ((1 + ((x :: l).map (dep n)).foldl max 0 : Nat) : Int)
    have hd : deps (n + 1) (x :: l : List (Tre n)) = (x :: l).map (dep n) := rfl
    rw [hd] at h hm
    obtain ⟨h1, h2⟩ := fold_max ((x :: l).map (dep n)) 0
    generalize ((x :: l).map (dep n)).foldl max 0 = M at h1 h2
    have up : m ≤ (M : Int) + 1 := by
      rcases List.mem_cons.mp h with e | e
      · omega
      · obtain ⟨d, hd1, rfl⟩ := List.mem_map.mp e
        have := h2 d (List.mem_cons_of_mem _ hd1)
        omega
    have lo : (M : Int) + 1 ≤ m := by
      have hM : M ∈ (x :: l).map (dep n) := by
        rcases List.mem_cons.mp h1 with e | e
        · have := h2 (dep n x) (List.mem_cons_of_mem _ List.mem_cons_self)
          rw [show M = dep n x by omega]
          exact List.mem_cons_self
        · exact e
      exact hm _ (List.mem_cons_of_mem _ (List.mem_map.mpr ⟨M, hM, rfl⟩))
    omega

/-- what of the class the text has -/
structure ShC (K : PySem.W.Frag) (C : Addr) : Prop where
  cl : Cls K C
  ha : PySem.W.findIn K (.ref C) "__class__" = some (some (.builtin "object.__class__"))
  hn : PySem.W.specialIn K (.builtin "object.__class__") "__get__" = some (some (.builtin "getset_descriptor.__get__"))
  htk : PySem.W.takesIn K (.builtin "object.__class__") = some true
  hm : PySem.W.mroIn K C (.type "object") = some true
  nT : NoAttr K C "text"
  nP : NoAttr K C "_parts"
  nD : NoAttr K C "_depth"
  nL : NoAttr K C "_lists"
/-- a property whose getter returns a field -/
structure Pr (P : Program) (w : World) (K : PySem.W.Frag) (mg : Str → Option Value) (base : Heap) (C : Addr) (f fld : Str) (k : Nat) : Prop where
  ex : ∃ (p g : Addr) (fd : FuncData), PropOf K C f p g ∧ Binds K fd ["self"] [] ∧ FnOk P w K mg base CX0 k g fd ["self"] (getSp C fld)
theorem pe_pr {X : Cx} {C : Addr} {f fld : Str} {k j : Nat} {e : Expr} {te : TE} {pos : Pos} (r : Pr X.prog X.w X.K X.mg X.base C f fld k) (c : Cls X.K C) (hr : Room j X.A) (hk : k + 1 ≤ j) (he : PE X e te) (hab : attributeBase e f X.env (eval e X.env) = eval e X.env := by rfl) : PE X (.Attribute e f pos) (tProp C (getSp C fld) [] E0 te) := by
  obtain ⟨p, g, fd, hp, b, G⟩ := r.ex
  exact pe_prop he c hp G (hr.mono hk) b .nil pass0 hab
/-- a class of the text, ready to be called -/
structure Rm (P : Program) (w : World) (K : PySem.W.Frag) (mg : Str → Option Value) (base : Heap) (x : Str) (C : Addr) (k : Nat) (ps : List Str) (sp : Sp) : Prop where
  ex : ∃ (f : Addr) (fd : FuncData), mg x = some (.ref C) ∧ Mk K C f ∧ Binds K fd ps [] ∧ FnOk P w K mg base CX0 k f fd ps sp
theorem Rm.mono {P : Program} {w : World} {K : PySem.W.Frag} {mg : Str → Option Value} {base : Heap} {x : Str} {C : Addr} {j k : Nat} {ps : List Str} {sp : Sp} (r : Rm P w K mg base x C j ps sp) (h : j ≤ k) : Rm P w K mg base x C k ps sp := by
  obtain ⟨f, fd, g, m, b, G⟩ := r.ex
  exact ⟨f, fd, g, m, b, G.mono h⟩
theorem pe_rm {X : Cx} {x : Str} {C : Addr} {k j : Nat} {ps : List Str} {sp : Sp} {e : Expr} {es : List Expr} {ta : TA} {p pos : Pos} (r : Rm X.prog X.w X.K X.mg X.base x C k ps sp) (hr : Room j X.A) (hk : k + 1 ≤ j) (hg : Gl X x) (ha : PA X (e :: es) ta)
    (hdb : (x == ("__debug__" : Str)) = false := by decide) (he : starEach (e :: es) X.env = (false, eval e X.env) :: starEach es X.env := by rfl) (hpl : (backTo pos (starEach es X.env)).any (·.1) = false := by rfl) : PE X (.Call (.Name x p) (e :: es) [] pos) (tMake C sp [] E0 ta) := by
  obtain ⟨f, fd, g1, m, b, G⟩ := r.ex
  exact pe_make m G (hr.mono hk) hg g1 b .nil pass0 ha hdb he hpl
/-- Shape(text) of a tree's text -/
def spInit (K : PySem.W.Frag) (C : Addr) (n : Nat) : Sp := fun vs H Q _ => ∃ (x dx : Addr) (t : Tre n), vs = [.ref x, .str (S (txt n t))] ∧ H x = some (.ins C dx []) ∧ slim n t = true ∧ lsts n t ≤ 5 ∧ (txt n t).length ≤ cap ∧
  ∀ H', Hc.Ext (fun b => b = x) H H' → ShV K C n t (.ref x) H' → Q .non H'
theorem er_make {K : PySem.W.Frag} {σ : L2.St} {H : Hp} {C : Addr} {n : Nat} {ta : TA} (t : Tre n) (ha : EvA ta σ H [.str (S (txt n t))]) (hs : slim n t = true) (hl : lsts n t ≤ 5) (hc : (txt n t).length ≤ cap) : EvR (tMake C (spInit K C n) [] E0 ta) σ H (ShV K C n t) := fun H1 e Q q =>
  ha H1 e _ fun H2 e2 => fun x dx nx nd ne => ⟨x, dx, t, rfl, upd_same, hs, hl, hc, fun H' k r => ⟨rfl, q (.ref x) H' (fun b o hb => by
    have h2 := e2 _ _ hb
    refine k b o ?_ (ne_of_none h2 nx)
    rw [upd_ne (ne_of_none h2 nx), upd_ne (ne_of_none h2 nd)]
    exact h2) r⟩⟩
theorem ev_prop {σ : L2.St} {H : Hp} {C a dx : Addr} {fs : List (Str × V)} {fld : Str} {v : V} {te : TE} (h : Ev te σ H (.ref a)) (ha : H a = some (.ins C dx fs)) (hl : fs.lookup fld = some v) : Ev (tProp C (getSp C fld) [] E0 te) σ H v := fun H1 e Q q =>
  h H1 e _ fun H2 e2 => ⟨a, dx, fs, rfl, e2 _ _ (e _ _ ha), a, dx, fs, v, rfl, e2 _ _ (e _ _ ha), hl, q H2 e2⟩
theorem ev_fld {K : PySem.W.Frag} {σ : L2.St} {H : Hp} {C a dx : Addr} {fs : List (Str × V)} {f : Str} {v : V} {te : TE} (h : Ev te σ H (.ref a)) (ha : H a = some (.ins C dx fs)) (c : Cls K C) (n : NoAttr K C f) (hl : fs.lookup f = some v) : Ev (tFld K te f) σ H v := fun H1 e Q q =>
  h H1 e _ fun H2 e2 => ⟨a, C, dx, fs, v, rfl, e2 _ _ (e _ _ ha), c, n, hl, q H2 e2⟩
/-- o.f = e, then the rest -/
theorem q_fld {K : PySem.W.Frag} {σ : L2.St} {H : Hp} {D : Ends} {tz : TS} {ta tv : TE} {f : Str} {C a dx : Addr} {fs : List (Str × V)} {R : V → Hp → Prop} (hv : EvR tv σ H R) (ho : ∀ H1, Ex H H1 → Ev ta σ H1 (.ref a)) (ha : H a = some (.ins C dx fs)) (c : Cls K C) (n : NoAttr K C f) (hl : fs.length < 1000) (m : ExMon R)
    (k : ∀ y H1, Ex H H1 → R y H1 → tz D σ (upd H1 a (.ins C dx (putF f y fs)))) : tSeq (sFld K ta tv f) tz D σ H :=
  hv H (Ex.refl H) _ fun y H1 e1 r => ho H1 e1 H1 (Ex.refl H1) _ fun H2 e2 => ⟨a, C, dx, fs, rfl, e2 _ _ (e1 _ _ ha), c, n, hl, k y H2 (e1.trans e2) (m y _ _ (NL.ex e2) r)⟩

/-- .. as the last statement -/
theorem s_fld {K : PySem.W.Frag} {σ : L2.St} {H : Hp} {D : Ends} {ta tv : TE} {f : Str} {C a dx : Addr} {fs : List (Str × V)} {R : V → Hp → Prop} (hv : EvR tv σ H R) (ho : ∀ H1, Ex H H1 → Ev ta σ H1 (.ref a)) (ha : H a = some (.ins C dx fs)) (c : Cls K C) (n : NoAttr K C f) (hl : fs.length < 1000) (m : ExMon R)
    (k : ∀ y H1, Ex H H1 → R y H1 → D.nx σ (upd H1 a (.ins C dx (putF f y fs)))) : sFld K ta tv f D σ H := q_fld (tz := tNext) hv ho ha c n hl m k
theorem range_getD {α : Type} (f : Nat → α) : ∀ l : List Nat, (List.range l.length).map (fun i => f (l.getD i 0)) = l.map f := by
  intro l
  apply List.ext_getElem
  · simp
  · intro i h1 h2
    simp at h1
    simp [h1]
theorem deps_len {n : Nat} {t : Tre n} (h : slim n t = true) : (deps n t).length ≤ 40000 := by
  match n, t, h with
  | 0, _, _ => exact Nat.zero_le _
  | n + 1, l, h =>
    have h' : (decide (List.length l ≤ 3) && List.all l (slim n)) = true := h
    rw [Bool.and_eq_true, decide_eq_true_eq] at h'
    exact Nat.le_trans (Nat.le_of_eq (List.length_map (dep n) (as := (l : List (Tre n))))) (Nat.le_trans h'.1 (by decide))
theorem ev_max {K : PySem.W.Frag} {σ : L2.St} {H : Hp} {tl : TE} {ns : List Int} {M : Int} (h : EvL tl σ H (ns.map V.int)) (h0 : 0 < ns.length) (hM : ∀ m, m ∈ ns → (∀ y, y ∈ ns → y ≤ m) → m = M) : Ev (tCB (rMax K) (tCons tl tNil)) σ H (.int M) := fun H1 e Q q =>
  h H1 e _ fun p H2 np e2 hp => ⟨p, ns, rfl, SqL.of hp, h0, fun m hm hm2 => by rw [hM m hm hm2]; exact q H2 e2⟩
theorem er_of {σ : L2.St} {H : Hp} {te : TE} {v : V} (h : Ev te σ H v) : EvR te σ H fun y _ => y = v := fun H1 e Q q => h H1 e Q fun H2 e2 => q _ H2 e2 rfl
theorem mon_eq {v : V} : ExMon fun y _ => y = v := fun _ _ _ _ h => h
theorem ev_isi {K : PySem.W.Frag} {σ : L2.St} {H : Hp} {te tc : TE} {x c : V} {t u : Value} {b : Bool} (h : Ev te σ H x) (hc : Ev tc σ H c) (kc : ClsV c u) (ty : ∀ H1, Ex H H1 → TyX K H1 x t) (hk : PySem.W.kitOne K t u = some b) : Ev (tCB (rIsi K) (tCons te (tCons tc tNil))) σ H (.bl b) :=
  ev_cb (ea_cons h (ea_cons hc ea_nil)) fun H1 e Q q => ⟨x, c, t, u, b, rfl, kc, ty H1 e, hk, q H1 (Ex.refl H1)⟩
theorem el_cat {σ : L2.St} {H : Hp} {ta tb : TE} {xs ys : List V} (ha : EvL ta σ H xs) (hb : EvL tb σ H ys) (hz : xs.length + ys.length ≤ 100000) : EvL (tOp rCat ta tb) σ H (xs ++ ys) := fun H1 e Q q =>
  ha H1 e _ fun p H2 n1 e2 h1 => hb H2 (e.trans e2) _ fun r H3 n2 e3 h2 => ⟨p, r, xs, ys, rfl, rfl, e3 _ _ h1, h2, sz_of hz, fun t nt => q t _ (fresh_back (e2.trans e3) nt) ((e2.trans e3).trans (Ex.new nt)) upd_same⟩
def rTupOf (K : PySem.W.Frag) : List V → Hp → VK → Prop := fun xs H Q => ∃ p ys, xs = [.ref p] ∧ ((SqL K H p ys ∧ ∀ l, H l = none → Q (.ref l) (upd H l (.tup ys))) ∨ (SqT K H p ys ∧ Q (.ref p) H))
/-- tuple(a new list) -/
theorem eru_tuple {K : PySem.W.Frag} {σ : L2.St} {H : Hp} {β : Type} {R : β → V → Hp → Prop} {ns : List β} {tl : TE} (m : ∀ n, ExMon (R n)) (h : ∀ H1, Ex H H1 → ∀ Q : VK, (∀ p xs H2, H1 p = none → Ex H1 H2 → H2 p = some (.lst xs) → All2 R ns xs H2 → Q (.ref p) H2) → tl σ H1 Q) :
    ∀ H1, Ex H H1 → ∀ Q : VK, (∀ u xs H2, H1 u = none → Ex H1 H2 → H2 u = some (.tup xs) → All2 R ns xs H2 → Q (.ref u) H2) → tCB (rTupOf K) (tCons tl tNil) σ H1 Q := fun H1 e Q q =>
  h H1 e _ fun p xs H2 np e2 hp hal => ⟨p, xs, rfl, .inl ⟨SqL.of hp, fun u nu => q u xs _ (fresh_back e2 nu) (e2.trans (Ex.new nu)) upd_same (hal.ex m (NL.ex (Ex.new nu)))⟩⟩
structure TxtS (mg : Str → Option Value) : Prop extends TxtP mg where
  isi : mg "isinstance" = none
  str : mg "str" = none
  tup : mg "tuple" = none
  max : mg "max" = none
abbrev nInit : List Str := ["self", "text", "part"]
abbrev sInit : Stmt := inClass cShape 0
theorem scInit : FnScope nInit ["self", "text"] (defScope sInit) := ⟨rfl, rfl, rfl, by decide +kernel, rfl, by decide +kernel, by decide +kernel⟩
theorem sum_mem {x : Nat} : ∀ {l : List Nat}, x ∈ l → x ≤ l.sum
  | y :: r, h => by
    rw [List.sum_cons]
    rcases List.mem_cons.mp h with rfl | h
    · omega
    · have := sum_mem h
      omega
theorem boot_strT : bootBuiltins "str" = some (.type "str") := by decide +kernel
section
variable {P : Program} {w : World} {K : PySem.W.Frag} {mg : Str → Option Value} {base : Heap}
theorem ok_init1 {f C : Addr} {fd : FuncData} {j n : Nat} {spP : Sp} (F : Fun K "__init__" "Shape.__init__" sInit f fd) (T : TxtS mg) (c : ShC K C) (rI : Rd P w K mg base "is_shape" j ["text"] spShape) (rP : Rd P w K mg base "parts_of" j ["text"] spParts)
    (rD : Pr P w K mg base C "depth" "_depth" 1) (rM : Rm P w K mg base "Shape" C j ["self", "text"] spP) (hj : 1 ≤ j) (hn : n ≤ 3) (hc : n = 0 ∨ ∃ m, n = m + 1 ∧ spP = spInit K C m) :
    FnOk P w K mg base CX0 (j + 2) f fd ["self", "text"] (spInit K C n) := by
  refine F.ok scInit (fun vs H Q E h => ?_) (fun cdv A outer s H vs Q E hr h => ?_)
  · obtain ⟨x, dx, t, rfl, _⟩ := h
    rfl
  · obtain ⟨x, dx, t, rfl, hx, hs, hl5, hcap, q⟩ := h
    refine ⟨_, pss_cons (ps_if (PW.pt (pw_or (pt_not (pt_val (pe_callB call_isi (by rfl) T.isi boot_isinstance (pa_cons (pv 1) (pa_cons (pe_bltn (v := .ty "str") (by rfl) T.str boot_strT rfl) pa_nil))))) (pw_or1 (pt_not (pt_val (pe_rd rI hr (Nat.le_succ j) (by rfl) (pa_cons (pv 1) pa_nil))))))) (pss_one ps_never) pss_nil)
      (pss_cons (ps_fld (pv 0) (pv 1) (by rfl))
      (pss_cons (ps_fld (pv 0) (pe_ifExp (pt_cmpR op_eq (pv 1) pe_str (nomark _)) (pe_tup pa_nil) (pe_callTy call_tuple_of (by rfl) T.tup boot_tuple (pa_cons (pe_lc (own := [("part", 2)]) (g := gName 2) (tt := tYes) rfl scInit.nd (pi_list (pe_rd rP hr (Nat.le_succ j) (by rfl) (pa_cons (pe_slice sl_str (pv 1) (po_some pe_int) (po_some (pe_un un_neg pe_int))) pa_nil)))
          (blkOk_by (N := nInit) (sc := defScope sInit) (by decide +kernel)) (fun _ _ _ _ _ => pg_name (i := 2) scInit.nd rfl (.inl rfl)) (fun _ _ _ _ _ => pts_nil) (fun _ _ _ _ _ => pe_rm rM hr (Nat.le_refl _) (by rfl) (pa_cons (pv 2) pa_nil))) pa_nil))) (by rfl))
      (pss_cons (ps_fld (pv 0) (pe_callB (cr_max rfl) (by rfl) T.max boot_max (pa_cons (pe_op op_cat (pe_lst (pa_cons pe_int pa_nil)) (pe_lc (own := [("part", 2)]) (g := gName 2) (tt := tYes) rfl scInit.nd (pi_tup (pe_fld (pv 0) (by rfl)))
          (blkOk_by (N := nInit) (sc := defScope sInit) (by decide +kernel)) (fun _ _ _ _ _ => pg_name (i := 2) scInit.nd rfl (.inl rfl)) (fun _ _ _ _ _ => pts_nil) (fun _ _ _ _ _ => pe_op op_add (pe_pr rD c.cl hr (Nat.succ_le_succ hj) (pv 2)) pe_int))) pa_nil)) (by rfl))
      (pss_one (ps_fld (pv 0) (pe_m1 PySem.F.slot_str_count PySem.F.type_str_count mt_count (pv 1) pe_str) (by rfl)))))), ?_⟩
    have hsh : isShape (txt n t) = true := by
      unfold isShape
      rw [txt_count, decide_eq_true hl5, form_le hn (txt_form n t hs)]
      rfl
    have hline : (S (txt n t)).length ≤ sizeLine := by rw [S_len]; exact cap_line hcap
    -- the test
    refine q_when (b := false) (et_is (et_or (et_not (et_B (ev_isi (ev_var rfl) ev_c (.ty "str") (fun _ _ => .base (.str _)) (kit_ty rfl)))) fun _ => et_not (et_B (ev_call (ea_cons (ev_var rfl) ea_nil) (sp_shape hcap)))) (by rw [hsh]; rfl)) (fun z => nomatch z) fun _ H1 f1 => ?_
    -- self.text
    refine q_fld (er_of (ev_var rfl)) (fun _ _ => ev_var rfl) (f1 _ _ hx) c.cl c.nT (by show 0 < 1000; decide) mon_eq fun y H2 f2 ry => ?_
    subst ry
    have o2 : Hc.Ext (fun b => b = x) H (upd H2 x (.ins C dx (putF "text" (.str (S (txt n t))) []))) := (Hc.Ext.same (f1.trans f2)).trans (Hc.Ext.put rfl)
    have h2 : (upd H2 x (.ins C dx (putF "text" (.str (S (txt n t))) []))) x = some (.ins C dx [("text", .str (S (txt n t)))]) := upd_same
    generalize upd H2 x (.ins C dx (putF "text" (.str (S (txt n t))) [])) = K2 at o2 h2 ⊢
    -- self._parts
    refine q_fld (R := fun v H => ∃ p xs, v = .ref p ∧ SqT K H p xs ∧ Items K C n t xs H) ?_ (fun _ _ => ev_var rfl) h2 c.cl c.nP (by show 1 < 1000; decide) (fun v H H' e h => by
      obtain ⟨p, xs, h1, h2, h3⟩ := h
      exact ⟨p, xs, h1, e.seqT h2, items_mon e n t h3⟩) fun y H3 f3 ry => ?_
    · intro H3 e3 Q qq
      refine et_test (ev_eqS (a := txt n t) (b := [46]) (ev_var rfl) ev_c) H3 e3 _ fun H4 e4 => ?_
      by_cases hd : txt n t = [46]
      · rw [decide_eq_true hd]
        refine iteT ⟨Nat.zero_le _, fun p np => qq (.ref p) _ (e4.trans (Ex.new np)) ⟨p, [], rfl, SqT.of upd_same, ?_⟩⟩
        match n, t, hd with
        | 0, _, _ => rfl
        | n + 1, [], _ => exact All2.nil
        | n + 1, y :: l, hd => exact absurd hd txt_dot
      · rw [decide_eq_false hd]
        refine iteF ?_
        obtain ⟨m, rfl, rfl⟩ : ∃ m, n = m + 1 ∧ spP = spInit K C m := by
          rcases hc with rfl | h
          · exact absurd rfl hd
          · exact h
        match t, hd, hs, hl5, hcap, hline, qq with
        | [], hd, _, _, _, _, _ => exact absurd rfl hd
        | y0 :: l, hd, hs, hl5, hcap, hline, qq =>
          have hi : (inner (txt (m + 1) (y0 :: l : List (Tre m)))).length ≤ cap := Nat.le_trans (inner_len _) hcap
          have hs' : (decide ((y0 :: l).length ≤ 3) && (y0 :: l).all (slim m)) = true := hs
          rw [Bool.and_eq_true, List.all_eq_true, decide_eq_true_eq] at hs'
          have hpt := parts_txt m y0 l
          have z := eru_tuple (K := K) (fun t => shV_mon m t) (er_lcN (K := K) (j := 2) (vs := [2]) (te := tMake C (spInit K C m) [] E0 (tCons (tVar 2) tNil)) (R := fun t v H => ShV K C m t v H) (σ := [some (.ref x), some (.str (S (txt (m + 1) (y0 :: l : List (Tre m))))), none]) (H := K2) (tl := tCall spParts [] E0 (tCons (tSl rSlS (tVar 1) (tPart (tC (.int 1))) (tPart (tUn (rU fun i => .int (-i)) (tC (.int 1))))) tNil)) (fun t => shV_mon m t) (y0 :: l) (((y0 :: l).map (txt m)).map fun z => V.str (S z)) (by rw [List.length_map, List.length_map]) (by
            rw [← hpt]
            exact el_call (ea_cons (Evl.ev_is (ev_slS (lo := some 1) (hi := some (-1)) (ev_var rfl) (eo_some ev_c) (eo_some (ev_un ev_c ru_neg)) hline) (by rw [cut_in])) ea_nil) (sp_parts hi)) (by omega) wipe1 (fun i n y H5 _ hn hy => ?_))
          · refine z H4 (e3.trans e4) _ fun p xs H5 np e5 hp hal => ?_
            exact qq (.ref p) _ (e4.trans e5) ⟨p, xs, rfl, SqT.of hp, hal⟩
          · have ey : y = V.str (S (txt m n)) := by
              rw [map_get _ (map_get (txt m) hn)] at hy
              exact (Option.some.inj hy).symm
            subst ey
            have hmem := List.mem_of_getElem? hn
            refine er_make n (ea_cons (ev_var rfl) ea_nil) (hs'.2 n hmem) ?_ ?_
            · have e1 : lsts (m + 1) (y0 :: l : List (Tre m)) = 1 + ((y0 :: l).map (lsts m)).sum := rfl
              have e2 := sum_mem (List.mem_map.mpr ⟨n, hmem, rfl⟩ : lsts m n ∈ (y0 :: l).map (lsts m))
              omega
            · have := partsOf_items (inner (txt (m + 1) (y0 :: l : List (Tre m)))) (txt m n) (by rw [hpt]; exact List.mem_map.mpr ⟨n, hmem, rfl⟩)
              exact Nat.le_trans this hi
    · obtain ⟨p, xs, rfl, hp, hit⟩ := ry
      have h3 := f3 _ _ h2
      have g3 : ¬ Gd (HO.ins C dx [("text", .str (S (txt n t)))]) := fun g => absurd (g.2 _ _ _ rfl) (show ¬ (1 = 4) by decide)
      have n3 := NL.upd (u := .ins C dx (putF "_parts" (.ref p) [("text", .str (S (txt n t)))])) h3 g3
      have o3 : Hc.Ext (fun b => b = x) H (upd H3 x (.ins C dx (putF "_parts" (.ref p) [("text", .str (S (txt n t)))]))) := (o2.trans (Hc.Ext.same f3)).trans (Hc.Ext.put rfl)
      have h3' : (upd H3 x (.ins C dx (putF "_parts" (.ref p) [("text", .str (S (txt n t)))]))) x = some (.ins C dx [("text", .str (S (txt n t))), ("_parts", .ref p)]) := upd_same
      replace hp := n3.seqT hp
      replace hit := items_mon n3 n t hit
      generalize upd H3 x (.ins C dx (putF "_parts" (.ref p) [("text", .str (S (txt n t)))])) = K3 at o3 h3' hp hit ⊢
      -- self._depth
      obtain ⟨hlen, hdep⟩ := items_deps n t hit
      refine q_fld (R := fun v _ => v = .int ((dep n t : Nat) : Int)) ?_ (fun _ _ => ev_var rfl) h3' c.cl c.nD (by show 2 < 1000; decide) mon_eq fun y H4 f4 ry => ?_
      · refine er_of (ev_max (ns := (0 : Int) :: (deps n t).map (fun d => ((d : Nat) : Int) + 1)) ?_ (by simp) (dep_max n t))
        have z := el_lcT (K := K) (H := K3) (σ := [some (.ref x), some (.str (S (txt n t))), none]) (a := p) (xs := xs) (tl := tFld K (tVar 0) "_parts") (j := 2) (vs := [2]) (te := tOp (rI0 fun i j => .int (i + j)) (tProp C (getSp C "_depth") [] E0 (tVar 2)) (tC (.int 1))) (fun i => V.int ((((deps n t).getD i 0 : Nat) : Int) + 1))
          (ev_fld (ev_var rfl) h3' c.cl c.nP rfl) hp (by rw [hlen]; exact deps_len hs) wipe1 (fun i y H5 f5 hy => by
            obtain ⟨a, dx', fs, d, rfl, ha, hd, hdd⟩ := hdep i y hy
            have e : (deps n t).getD i 0 = d := by rw [List.getD_eq_getElem?_getD, hdd]; rfl
            rw [e]
            exact ev_op (ev_prop (ev_var rfl) (f5 _ _ ha) hd) ev_c rv_I0)
        rw [hlen] at z
        have e0 : ((0 : Int) :: (deps n t).map (fun d => ((d : Nat) : Int) + 1)).map V.int = [V.int 0] ++ (List.range (deps n t).length).map (fun i => V.int ((((deps n t).getD i 0 : Nat) : Int) + 1)) := by
          rw [List.map_cons, List.map_map]
          congr 1
          exact (range_getD (fun d : Nat => V.int (((d : Nat) : Int) + 1)) (deps n t)).symm
        rw [e0]
        exact el_cat (el_lst (ea_cons ev_c ea_nil) (by show 1 ≤ 100000; decide)) z (by
          have := deps_len hs
          rw [List.length_map, List.length_range]
          show 1 + _ ≤ 100000
          omega)
      · subst ry
        have h4 := f4 _ _ h3'
        have g4 : ¬ Gd (HO.ins C dx [("text", .str (S (txt n t))), ("_parts", .ref p)]) := fun g => absurd (g.2 _ _ _ rfl) (show ¬ (2 = 4) by decide)
        have n4 := (NL.ex f4).trans (NL.upd (u := .ins C dx (putF "_depth" (.int ((dep n t : Nat) : Int)) [("text", .str (S (txt n t))), ("_parts", .ref p)])) h4 g4)
        have o4 : Hc.Ext (fun b => b = x) H (upd H4 x (.ins C dx (putF "_depth" (.int ((dep n t : Nat) : Int)) [("text", .str (S (txt n t))), ("_parts", .ref p)]))) := (o3.trans (Hc.Ext.same f4)).trans (Hc.Ext.put rfl)
        have h4' : (upd H4 x (.ins C dx (putF "_depth" (.int ((dep n t : Nat) : Int)) [("text", .str (S (txt n t))), ("_parts", .ref p)]))) x = some (.ins C dx [("text", .str (S (txt n t))), ("_parts", .ref p), ("_depth", .int ((dep n t : Nat) : Int))]) := upd_same
        replace hp := n4.seqT hp
        replace hit := items_mon n4 n t hit
        generalize upd H4 x (.ins C dx (putF "_depth" (.int ((dep n t : Nat) : Int)) [("text", .str (S (txt n t))), ("_parts", .ref p)])) = K4 at o4 h4' hp hit ⊢
        -- self._lists
        refine s_fld (er_of (ev_count (c := 91) (L := txt n t) (ev_var rfl) ev_c)) (fun _ _ => ev_var rfl) h4' c.cl c.nL (by show 3 < 1000; decide) mon_eq fun y H5 f5 ry => ?_
        subst ry
        rw [txt_count]
        have h5 := f5 _ _ h4'
        have g5 : ¬ Gd (HO.ins C dx [("text", .str (S (txt n t))), ("_parts", .ref p), ("_depth", .int ((dep n t : Nat) : Int))]) := fun g => absurd (g.2 _ _ _ rfl) (show ¬ (3 = 4) by decide)
        have n5 := (NL.ex f5).trans (NL.upd (u := .ins C dx (putF "_lists" (.int ((lsts n t : Nat) : Int)) [("text", .str (S (txt n t))), ("_parts", .ref p), ("_depth", .int ((dep n t : Nat) : Int))])) h5 g5)
        refine q _ ((o4.trans (Hc.Ext.same f5)).trans (Hc.Ext.put rfl)) ((shV_iff n t _ _).mpr ⟨xs, ⟨x, dx, p, rfl, upd_same, n5.seqT hp⟩, items_mon n5 n t hit⟩)
theorem rm_init {f C : Addr} {fd : FuncData} (F : Fun K "__init__" "Shape.__init__" sInit f fd) (T : TxtS mg) (c : ShC K C) (g : mg "Shape" = some (.ref C)) (m : Mk K C f) (b : Binds K fd ["self", "text"] []) {j : Nat} (rI : Rd P w K mg base "is_shape" j ["text"] spShape) (rP : Rd P w K mg base "parts_of" j ["text"] spParts)
    (rD : Pr P w K mg base C "depth" "_depth" 1) (hj : 1 ≤ j) : ∀ n, n ≤ 3 → Rm P w K mg base "Shape" C (j + 2 + 2 * n) ["self", "text"] (spInit K C n)
  | 0, h => ⟨f, fd, g, m, b, (ok_init1 F T c rI rP rD (spP := spNo) ⟨f, fd, g, m, b, ⟨fun _ _ _ _ h => h.elim, fun _ _ _ _ _ _ _ _ _ _ _ _ _ h => h.elim⟩⟩ hj h (.inl rfl))⟩
  | n + 1, h => ⟨f, fd, g, m, b, (ok_init1 F T c (rI.mono (show j ≤ j + 2 + 2 * n by omega)) (rP.mono (show j ≤ j + 2 + 2 * n by omega)) rD (rm_init F T c g m b rI rP rD hj n (by omega)) (by omega) h (.inr ⟨n, rfl, rfl⟩)).mono (by omega)⟩
end
end Hs

set_option maxHeartbeats 4000000
/-! The draws of a law: where its state stands, and that each draw gives some number below its bound and leaves all else. -/
namespace Hc
open PySem PySem.Spec PyProof.Rows L2

/-- a draw's state: the list st, with the great numbers at g, the small ones at sm -/
def DrawSt (H : Hp) (st g sm : Addr) : Prop := ∃ (gs ss : List Int) (n z : Int), H st = some (.lst [.ref g, .ref sm, .int n, .int z]) ∧ H g = some (.lst (gs.map V.int)) ∧ H sm = some (.lst (ss.map V.int)) ∧
  (∀ x ∈ gs, 0 ≤ x) ∧ (∀ x ∈ ss, 0 ≤ x ∧ x < 2 ^ 40) ∧ ss.length ≤ 63 ∧ gs.length ≤ 63 ∧ 0 ≤ n ∧ 0 ≤ z ∧ z < 2 ^ 63 ∧ g ≠ sm
/-- what a draw writes -/
def Dr (st g : Addr) : Addr → Prop := fun b => b = st ∨ b = g
theorem DrawSt.ext {H H' : Hp} {st g sm : Addr} {S : Addr → Prop} (d : DrawSt H st g sm) (e : Ext S H H') (h1 : ¬ S st) (h2 : ¬ S g) (h3 : ¬ S sm) : DrawSt H' st g sm := by
  obtain ⟨gs, ss, n, z, a1, a2, a3, r⟩ := d
  exact ⟨gs, ss, n, z, e _ _ a1 h1, e _ _ a2 h2, e _ _ a3 h3, r⟩
theorem DrawSt.same {H H' : Hp} {st g sm : Addr} (d : DrawSt H st g sm) (e : Same H H') : DrawSt H' st g sm := by
  obtain ⟨gs, ss, n, z, a1, a2, a3, r⟩ := d
  exact ⟨gs, ss, n, z, e _ _ a1, e _ _ a2, e _ _ a3, r⟩

/-- a free place is none of the state's -/
theorem DrawSt.off {H : Hp} {st g sm p : Addr} (d : DrawSt H st g sm) (h : H p = none) : p ≠ st ∧ p ≠ g ∧ p ≠ sm := by
  obtain ⟨_, _, _, _, a1, a2, a3, _⟩ := d
  exact ⟨(ne_of_none a1 h).symm, (ne_of_none a2 h).symm, (ne_of_none a3 h).symm⟩
theorem DrawSt.put {H : Hp} {st g sm p : Addr} {o : HO} (d : DrawSt H st g sm) (n : p ≠ st ∧ p ≠ g ∧ p ≠ sm) : DrawSt (upd H p o) st g sm := by
  obtain ⟨gs, ss, a, z, a1, a2, a3, r⟩ := d
  exact ⟨gs, ss, a, z, (upd_ne n.1.symm).trans a1, (upd_ne n.2.1.symm).trans a2, (upd_ne n.2.2.symm).trans a3, r⟩
theorem dr_off {st g sm p : Addr} (n : p ≠ st ∧ p ≠ g ∧ p ≠ sm) : ¬ Dr st g p := fun z => z.elim n.1 n.2.1
/-- what was written behind H at a place that is free in H -/
theorem Ext.puts {S : Addr → Prop} {H H' : Hp} {p : Addr} {o : HO} (e : Ext S H H') (h : H p = none) : Ext S H (upd H' p o) := fun b u z n => by
  rw [upd_ne (ne_of_none z h)]
  exact e b u z n

structure TxtD (mg : Str → Option Value) : Prop where
  int : mg "int" = none
  abs : mg "abs" = none
  len : mg "len" = none

def spStart (K : PySem.W.Frag) : Sp := fun vs H Q _ => ∃ (a : Addr) (ns : List Int), vs = [.ref a] ∧ SqL K H a (ns.map V.int) ∧ ns.length ≤ 63 ∧
  ∀ (H' : Hp) (st g sm : Addr), Same H H' → H st = none → H g = none → H sm = none → DrawSt H' st g sm → Q (.ref st) H'
def spDraw : Sp := fun vs H Q _ => ∃ (st g sm : Addr) (m : Int), vs = [.ref st, .int m] ∧ DrawSt H st g sm ∧ 0 < m ∧ m < 2 ^ 60 ∧
  ∀ (r : Int) (H' : Hp), 0 ≤ r → r < m → Ext (Dr st g) H H' → DrawSt H' st g sm → Q (.int r) H'
def spOf (K : PySem.W.Frag) : Sp := fun vs H Q _ => ∃ (st g sm l : Addr) (xs : List V), vs = [.ref st, .ref l] ∧ DrawSt H st g sm ∧ (SqL K H l xs ∨ SqT K H l xs) ∧ ¬ Dr st g l ∧ 0 < xs.length ∧ xs.length < 2 ^ 60 ∧
  ∀ (i : Nat) (v : V) (H' : Hp), xs[i]? = some v → Ext (Dr st g) H H' → DrawSt H' st g sm → Q v H'

section
variable {P : Program} {w : World} {K : PySem.W.Frag} {mg : Str → Option Value} {base : Heap}
abbrev nStart : List Str := ["_law_script", "_law_cells", "_law_great", "_law_small", "_law_cell"]
theorem scStart : FnScope nStart ["_law_script"] (defScope sStart) := ⟨rfl, rfl, rfl, by decide +kernel, rfl, by decide +kernel, by decide +kernel⟩
theorem scDraw : FnScope ["_law_state", "_law_many", "_law_great", "_law_small", "_law_taken", "_law_own", "_law_mixed"] ["_law_state", "_law_many"] (defScope sDraw) := ⟨rfl, rfl, rfl, by decide +kernel, rfl, by decide +kernel, by decide +kernel⟩
theorem scOf : FnScope ["_law_state", "_law_some"] ["_law_state", "_law_some"] (defScope sOf) := ⟨rfl, rfl, rfl, by decide +kernel, rfl, by decide +kernel, by decide +kernel⟩

theorem boot_int : bootBuiltins "int" = some (.type "int") := by decide +kernel
theorem boot_abs : bootBuiltins "abs" = some (.builtin "abs") := by decide +kernel

theorem ok_draw {f : Addr} {fd : FuncData} {k : Nat} (F : Fun K "_law_draw" "_law_draw" sDraw f fd) (T : TxtD mg) : FnOk P w K mg base CX0 (k + 1) f fd ["_law_state", "_law_many"] spDraw := by
  refine F.ok scDraw (fun vs H Q E h => ?_) (fun cdv A outer s H vs Q E hr h => ?_)
  · obtain ⟨st, g, sm, m, rfl, _⟩ := h
    rfl
  · obtain ⟨st, g, sm, m, rfl, ⟨gs, ss, n, z, hst, hg, hsm, gpos, spos, slen, glen, n0, z0, z1, gsm⟩, m0, m1, q⟩ := h
    refine ⟨_, pss_cons (ps_par (i := 2) (j := 3) (by rfl) scDraw.nd rfl rfl (by decide) rfl rfl (pa_cons (pe_ix ix_list (pv 0) pe_int (fun _ _ => rfl)) (pa_cons (pe_ix ix_list (pv 0) pe_int (fun _ _ => rfl)) pa_nil)) (by rfl))
      (pss_cons (ps_augS (pv 0) pe_int pg_list pe_int ip_add set_list)
      (Evl.pss_cut (ps_if (PW.pt (pw_and (pt_truth (pv 2) (by intro _; rfl)) (pw_and1 (pt_cmpR op_eq (pe_ix ix_list (pv 2) pe_int (fun _ _ => rfl)) pe_int (nomark _)))))
          (pss_one (ps_expr (pe_bm PySem.F.plainAttrs_list PySem.F.slot_list_pop PySem.F.type_list_pop mt_popAt (pv 2) (pa_cons pe_int pa_nil)))) pss_nil)
      (pss_cons (ps_if (pt_truth (pv 2) (by intro _; rfl))
          (pss_cons (ps_set (i := 4) scDraw.nd rfl (.inl rfl) (pe_op op_mod (pe_callTy call_int1 (by rfl) T.int boot_int (pa_cons (pe_ix ix_list (pv 2) pe_int (fun _ _ => rfl)) pa_nil)) (pv 1)))
            (pss_cons (ps_asg (pe_op op_fdivW (pe_ix ix_list (pv 2) pe_int (fun _ _ => rfl)) (pv 1)) (pg_sub (pv 2) pe_int set_list))
            (pss_one (ps_ret (pv 4))))) pss_nil)
      (Evl.pss_cut (ps_set (i := 5) scDraw.nd rfl (.inl rfl) (pe_ifExp (pt_truth (pv 3) (by intro _; rfl)) (pe_ix ix_list (pv 3) (pe_op op_mod (pe_callTy call_int1 (by rfl) T.int boot_int (pa_cons (pe_ix ix_list (pv 0) pe_int (fun _ _ => rfl)) pa_nil)) (pe_callB call_len_seq (by rfl) T.len PySem.boot_len (pa_cons (pv 3) pa_nil))) (fun _ _ => rfl)) pe_int))
      (pss_cons (ps_asg (pe_op op_mod (pe_callTy call_int1 (by rfl) T.int boot_int (pa_cons
            (pe_op op_add (pe_op op_add (pe_op op_add (pe_op op_mul (pe_ix ix_list (pv 0) pe_int (fun _ _ => rfl)) pe_int) (pe_op op_mul (pv 5) pe_int)) (pe_op op_mul (pe_ix ix_list (pv 0) pe_int (fun _ _ => rfl)) pe_int)) pe_int) pa_nil)) pe_int) (pg_sub (pv 0) pe_int set_list))
      (pss_cons (ps_set (i := 6) scDraw.nd rfl (.inl rfl) (pe_op op_mod (pe_callTy call_int1 (by rfl) T.int boot_int (pa_cons
            (pe_op op_add (pe_op op_mul (pe_ix ix_list (pv 0) pe_int (fun _ _ => rfl)) (pe_ix ix_list (pv 0) pe_int (fun _ _ => rfl))) (pe_op op_mul pe_int (pe_ix ix_list (pv 0) pe_int (fun _ _ => rfl)))) pa_nil)) pe_int))
      (pss_one (ps_ret (pe_op op_mod (pe_callTy call_int1 (by rfl) T.int boot_int (pa_cons (pe_op op_fdiv (pv 6) pe_int) pa_nil)) (pv 1)))))))))), ?_⟩
    have nsg : st ≠ g := ne_of hst hg (by intro z; cases gs <;> cases z)
    have nss : st ≠ sm := ne_of hst hsm (by intro z; cases ss <;> cases z)
    -- great, small = (state[0], state[1])
    refine ⟨_, rfl, st, _, 0, _, rfl, rfl, SqL.of hst, atI_nat (j := 0) rfl, _, rfl, st, _, 1, _, rfl, rfl, SqL.of hst, atI_nat (j := 1) rfl, _, _, rfl, ?_⟩
    -- state[2] += 1
    refine ⟨_, rfl, st, _, 2, _, rfl, rfl, SqL.of hst, atI_nat (j := 2) rfl, n, 1, rfl, rfl, st, _, 2, 2, rfl, rfl, hst, rfl, ?_⟩
    -- if great and great[0] == 0: great.pop(0)
    refine ⟨fun σ' H' => σ' = [some (.ref st), some (.int m), some (.ref g), some (.ref sm), none, none, none] ∧ ∃ gs' : List Int, H' st = some (.lst [.ref g, .ref sm, .int (n + 1), .int z]) ∧ H' g = some (.lst (gs'.map V.int)) ∧
      Ext (Dr st g) H H' ∧ (∀ x ∈ gs', 0 ≤ x) ∧ gs'.length ≤ 63, ?_, ?_⟩
    · have e1 : (upd H st (.lst ([V.ref g, V.ref sm, V.int n, V.int z].set 2 (V.int (n + 1))))) g = some (.lst (gs.map V.int)) := by
        rw [upd_ne nsg.symm]
        exact hg
      refine ⟨_, rfl, !(gs.map V.int).isEmpty, .inl ⟨_, SqL.of e1, rfl⟩, ?_⟩
      cases gs with
      | nil => exact iteF (iteF ⟨rfl, [], upd_same, e1, Ext.put (.inl rfl), gpos, glen⟩)
      | cons x r =>
        refine iteT ⟨_, rfl, g, _, 0, _, rfl, rfl, SqL.of e1, atI_nat (j := 0) rfl, rfl, _, rfl, ?_⟩
        refine ite2 (fun _ => ?_) (fun _ => ?_)
        · refine ⟨_, rfl, .inl ⟨rfl, _, SqL.of e1⟩, g, _, 0, 0, _, rfl, rfl, e1, by decide, by decide, seqIndex_of (by decide) (by rw [List.length_map, List.length_cons]; omega), rfl, ?_⟩
          refine ⟨rfl, r, ?_, ?_, (Ext.put (.inl rfl)).trans (Ext.put (.inr rfl)), fun y hy => gpos y (List.mem_cons_of_mem _ hy), by rw [List.length_cons] at glen; omega⟩
          · rw [upd_ne nsg, upd_same]
            rfl
          · rw [upd_same]
            rfl
        · exact ⟨rfl, x :: r, upd_same, e1, Ext.put (.inl rfl), gpos, glen⟩
    · rintro σ' H1 ⟨rfl, gs', f1, f2, ex, gpos', glen'⟩
      -- if great: ..
      have f3 : H1 sm = some (.lst (ss.map V.int)) := ex _ _ hsm (by rintro (e | e); exact nss e.symm; exact gsm e.symm)
      refine ⟨_, rfl, !(gs'.map V.int).isEmpty, .inl ⟨_, SqL.of f2, rfl⟩, ?_⟩
      cases gs' with
      | cons x r =>
        have x0 : 0 ≤ x := gpos' x List.mem_cons_self
        refine iteT ⟨_, rfl, g, _, 0, _, rfl, rfl, SqL.of f2, atI_nat (j := 0) rfl, .inl ⟨x, rfl, ?_⟩⟩
        refine ⟨_, rfl, x, m, rfl, rfl, m0, ?_⟩
        refine ⟨_, rfl, g, _, 0, _, rfl, rfl, SqL.of f2, atI_nat (j := 0) rfl, _, rfl, x, m, rfl, rfl, wide_div (b := 60) m0 (by omega) (by decide) (by decide), ?_⟩
        refine ⟨_, rfl, g, _, 0, 0, rfl, rfl, f2, Evl.ixN_nat (j := 0) (by rw [List.length_map, List.length_cons]; omega), ?_⟩
        refine ⟨_, rfl, q _ _ (Int.emod_nonneg _ (by omega)) (Int.emod_lt_of_pos _ m0) (ex.trans (Ext.put (.inr rfl))) ⟨(x / m) :: r, ss, n + 1, z, ?_, ?_, ?_, ?_, spos, slen, glen', by omega, z0, z1, gsm⟩⟩
        · rw [upd_ne nsg]
          exact f1
        · rw [upd_same]
          rfl
        · rw [upd_ne (Ne.symm gsm)]
          exact f3
        · intro y hy
          rcases List.mem_cons.mp hy with e | hy
          · rw [e]
            exact Int.ediv_nonneg x0 (by omega)
          · exact gpos' y (List.mem_cons_of_mem _ hy)
      | nil =>
        refine iteF ?_
        -- own = small[..] if small else 3
        refine ⟨fun σ' H' => H' = H1 ∧ ∃ o : Int, 0 ≤ o ∧ o < 2 ^ 40 ∧ σ' = [some (.ref st), some (.int m), some (.ref g), some (.ref sm), none, some (.int o), none], ?_, ?_⟩
        · refine ⟨_, rfl, !(ss.map V.int).isEmpty, .inl ⟨_, SqL.of f3, rfl⟩, ?_⟩
          cases ss with
          | nil => exact iteF ⟨rfl, 3, by decide, by decide, rfl⟩
          | cons y r =>
            have hl : (0 : Int) < (((y :: r).map V.int).length : Nat) := by simp
            have h1 := Int.emod_nonneg (n + 1) (show ((((y :: r).map V.int).length : Nat) : Int) ≠ 0 by omega)
            have h2 := Int.emod_lt_of_pos (n + 1) hl
            obtain ⟨j, hj⟩ := Int.eq_ofNat_of_zero_le h1
            have hj2 : j < (y :: r).length := by
              rw [hj] at h2
              rw [List.length_map] at h2
              omega
            have hv : ((y :: r).map V.int)[j]? = some (.int (y :: r)[j]) := by
              rw [List.getElem?_map, List.getElem?_eq_getElem hj2]
              rfl
            have hm := spos _ (List.getElem_mem hj2)
            refine iteT ⟨_, rfl, _, rfl, st, _, 2, _, rfl, rfl, SqL.of f1, atI_nat (j := 2) rfl, .inl ⟨_, rfl, ?_⟩⟩
            refine ⟨_, rfl, sm, _, rfl, .inl (SqL.of f3), n + 1, _, rfl, rfl, hl, sm, _, _, _, rfl, rfl, SqL.of f3, at_of hj hv, rfl, _, hm.1, hm.2, rfl⟩
        · rintro σ' H' ⟨rfl, o, o0, o1, rfl⟩
          -- state[3] = ..
          refine ⟨_, rfl, st, _, 3, _, rfl, rfl, SqL.of f1, atI_nat (j := 3) rfl, z, 48271, rfl, rfl, .inr (by decide), ?_⟩
          refine ⟨_, rfl, o, 40692, rfl, rfl, .inr (by decide), _, _, rfl, rfl, ?_⟩
          refine ⟨_, rfl, st, _, 2, _, rfl, rfl, SqL.of f1, atI_nat (j := 2) rfl, n + 1, 69621, rfl, rfl, .inr (by decide), _, _, rfl, rfl, _, _, rfl, rfl, .inl ⟨_, rfl, ?_⟩⟩
          refine ⟨_, _, rfl, rfl, by show (0 : Int) < 2305843009213693951; decide, ?_⟩
          refine ⟨_, rfl, st, _, 3, 3, rfl, rfl, f1, rfl, ?_⟩
          dsimp only
          generalize hz' : (z * 48271 + o * 40692 + (n + 1) * 69621 + 11) % 2305843009213693951 = z'
          have z0' : 0 ≤ z' := by
            rw [← hz']
            exact Int.emod_nonneg _ (by decide)
          have z1' : z' < 2305843009213693951 := by
            rw [← hz']
            exact Int.emod_lt_of_pos _ (by decide)
          have e1 : (upd H' st (.lst ([V.ref g, V.ref sm, V.int (n + 1), V.int z].set 3 (V.int z')))) st = some (.lst [V.ref g, V.ref sm, V.int (n + 1), V.int z']) := upd_same
          -- mixed = ..
          refine ⟨_, rfl, st, _, 3, _, rfl, rfl, SqL.of e1, atI_nat (j := 3) rfl, _, rfl, st, _, 3, _, rfl, rfl, SqL.of e1, atI_nat (j := 3) rfl, z', z', rfl, rfl, .inl ⟨by omega, by omega⟩, ?_⟩
          refine ⟨_, rfl, st, _, 2, _, rfl, rfl, SqL.of e1, atI_nat (j := 2) rfl, 1000003, n + 1, rfl, rfl, .inl (by decide), _, _, rfl, rfl, .inl ⟨_, rfl, ?_⟩⟩
          refine ⟨_, _, rfl, rfl, by show (0 : Int) < 2305843009213693921; decide, ?_⟩
          refine ⟨_, rfl, _, _, rfl, rfl, ⟨by decide, by decide⟩, .inl ⟨_, rfl, ?_⟩⟩
          refine ⟨_, rfl, _, m, rfl, rfl, m0, ?_⟩
          refine q _ _ (Int.emod_nonneg _ (by omega)) (Int.emod_lt_of_pos _ m0) (ex.trans (Ext.put (.inl rfl))) ⟨[], ss, n + 1, z', e1, ?_, ?_, fun y hy => (nomatch hy), spos, slen, by decide, by omega, z0', by omega, gsm⟩
          · rw [upd_ne nsg.symm]
            exact f2
          · rw [upd_ne nss.symm]
            exact f3

theorem cut63 (xs : List V) (h : xs.length ≤ 63) : cutV xs none (some 63) = xs := by
  unfold cutV
  rw [HT.sIx_none, show ((63 : Int)) = ((63 : Nat) : Int) from rfl, HT.sIx_nat, List.drop_zero, Nat.sub_zero, Nat.min_eq_right h, List.take_length]
theorem wipe1 {σ : L2.St} {j : Nat} (x : V) : wipe ((wipe σ [j]).set j (some x)) [j] = wipe σ [j] := by
  show ((σ.set j none).set j (some x)).set j none = σ.set j none
  rw [List.set_set, List.set_set]
theorem absI (n : Int) : (if n < 0 then -n else n) = (n.natAbs : Int) := by
  by_cases h : n < 0
  · rw [if_pos h]
    omega
  · rw [if_neg h]
    omega
open Evl in
theorem ev_int {σ : L2.St} {H : Hp} {te : TE} {n : Int} (h : Ev te σ H (.int n)) : Ev (tCB (fun (xs : List V) (H : Hp) (Q : VK) => (∃ i, xs = [.int i] ∧ Q (.int i) H) ∨ ∃ k, xs = [.bl k] ∧ Q (.int (if k then 1 else 0)) H) (tCons te tNil)) σ H (.int n) :=
  ev_cb (ea_cons h ea_nil) fun H1 _ Q q => .inl ⟨n, rfl, q H1 (Ex.refl H1)⟩
open Evl in
theorem ev_abs {σ : L2.St} {H : Hp} {te : TE} {n : Int} (h : Ev te σ H (.int n)) : Ev (tCB (fun (xs : List V) (H : Hp) (Q : VK) => ∃ i, xs = [.int i] ∧ Q (.int (if i < 0 then -i else i)) H) (tCons te tNil)) σ H (.int (n.natAbs : Int)) :=
  ev_cb (ea_cons h ea_nil) fun H1 _ Q q => ⟨n, rfl, by rw [absI]; exact q H1 (Ex.refl H1)⟩
open Evl in
theorem ok_start {f : Addr} {fd : FuncData} {k : Nat} (F : Fun K "_law_start" "_law_start" sStart f fd) (T : TxtD mg) : FnOk P w K mg base CX0 (k + 1) f fd ["_law_script"] (spStart K) := by
  refine F.ok scStart (fun vs H Q E h => ?_) (fun cdv A outer s H vs Q E hr h => ?_)
  · obtain ⟨a, ns, rfl, _⟩ := h
    rfl
  · obtain ⟨a, ns, rfl, hS, hlen, q⟩ := h
    refine ⟨_, pss_cons (ps_setLc (i := 1) (own := [("_law_cell", 4)]) (g := gName 4) (tt := tYes) rfl scStart.nd rfl rfl (sw_true rfl rfl rfl (by decide +kernel)) (pi_list (pe_slice sl_list (pv 0) po_none (po_some pe_int)))
          (blkOk_by (N := nStart) (sc := defScope sStart) (by decide +kernel)) (fun _ _ _ _ _ => pg_name (i := 4) scStart.nd rfl (.inl rfl)) (fun _ _ _ _ _ => pts_nil) (fun _ _ _ _ _ => pe_callTy call_int1 (by rfl) T.int boot_int (pa_cons (pv 4) pa_nil)))
      (pss_cons (ps_setLc (i := 2) (own := [("_law_cell", 4)]) (g := gName 4) rfl scStart.nd rfl rfl (sw_true rfl rfl rfl (by decide +kernel)) (pi_list (pv 1))
          (blkOk_by (N := nStart) (sc := defScope sStart) (by decide +kernel)) (fun _ _ _ _ _ => pg_name (i := 4) scStart.nd rfl (.inl rfl)) (fun _ _ _ _ _ => pts_one (pt_cmpR op_ge (pe_callB call_abs (by rfl) T.abs boot_abs (pa_cons (pv 4) pa_nil)) (pe_op op_pow pe_int pe_int) (nomark _)))
          (fun _ _ _ _ _ => pe_callB call_abs (by rfl) T.abs boot_abs (pa_cons (pv 4) pa_nil)))
      (pss_cons (ps_setLc (i := 3) (own := [("_law_cell", 4)]) (g := gName 4) rfl scStart.nd rfl rfl (sw_true rfl rfl rfl (by decide +kernel)) (pi_list (pv 1))
          (blkOk_by (N := nStart) (sc := defScope sStart) (by decide +kernel)) (fun _ _ _ _ _ => pg_name (i := 4) scStart.nd rfl (.inl rfl)) (fun _ _ _ _ _ => pts_one (pt_cmpR op_lt (pe_callB call_abs (by rfl) T.abs boot_abs (pa_cons (pv 4) pa_nil)) (pe_op op_pow pe_int pe_int) (nomark _)))
          (fun _ _ _ _ _ => pe_op op_add (pe_op op_mod (pe_callTy call_int1 (by rfl) T.int boot_int (pa_cons (pv 4) pa_nil)) pe_int) pe_int))
      (pss_one (ps_ret (pe_lst (pa_cons (pv 2) (pa_cons (pv 3) (pa_cons pe_int (pa_cons (pe_op op_add pe_int (pe_callB call_len_seq (by rfl) T.len PySem.boot_len (pa_cons (pv 1) pa_nil))) pa_nil))))))))), ?_⟩
    have hpow : ∀ (H1 : Hp) (σ : L2.St), Ev (tOp (rI CPow fun i j => V.int (i ^ j.toNat)) (tC (.int 10)) (tC (.int 18))) σ H1 (.int (10 ^ 18)) := fun H1 σ => ev_op ev_c ev_c (rv_I ⟨by decide, by decide, by decide⟩)
    -- cells
    refine q_asgL (el_mapN ns V.int (fun _ => true) V.int (by
      have z := el_sl (K := K) (te := tVar 0) (tl := tNoPart) (th := tPart (tC (.int 63))) (σ := start ["_law_script", "_law_cells", "_law_great", "_law_small", "_law_cell"] [V.ref a]) (H := H) (ev_var rfl) eo_none (eo_some ev_c) hS
      rw [cut63 _ (by rw [List.length_map]; exact hlen)] at z
      exact z) (by omega) wipe1 (fun x H1 _ _ => et_yes) (fun x H1 _ _ _ => ev_int (ev_var rfl))) fun c H1 nc e1 hc => ?_
    rw [List.filter_eq_self.mpr (fun _ _ => rfl)] at hc
    -- great
    refine q_asgL (el_map ns V.int (fun x => decide (10 ^ 18 ≤ (x.natAbs : Int))) (fun x => V.int (x.natAbs : Int)) (ev_var rfl) (SqL.of hc) (by omega) wipe1 (fun x H1 _ _ => et_test (ev_op (ev_abs (ev_var rfl)) (hpow _ _) rv_I0)) (fun x H1 _ _ _ => ev_abs (ev_var rfl))) fun g H2 ng e2 hg => ?_
    -- small
    refine q_asgL (el_map ns V.int (fun x => decide ((x.natAbs : Int) < 10 ^ 18)) (fun x => V.int (x % 2147483629 + 1)) (ev_var rfl) (SqL.of (e2 _ _ hc)) (by omega) wipe1 (fun x H1 _ _ => et_test (ev_op (ev_abs (ev_var rfl)) (hpow _ _) rv_I0)) (fun x H1 _ _ _ => ev_op (ev_op (ev_int (ev_var rfl)) ev_c (rv_I (by decide))) ev_c rv_I0)) fun sm H3 nsm e3 hsm => ?_
    -- return
    refine s_retL (el_lst (ea_cons (ev_var rfl) (ea_cons (ev_var rfl) (ea_cons ev_c (ea_cons (ev_op ev_c (ev_len (ev_var rfl) (SqL.of (e3 _ _ (e2 _ _ hc)))) rv_I0) ea_nil)))) (by show 4 ≤ 100000; decide)) fun st H4 nst e4 hst => ?_
    have f1 : H g = none := fresh_back e1 ng
    have f2 : H sm = none := fresh_back (e1.trans e2) nsm
    have f3 : H st = none := fresh_back ((e1.trans e2).trans e3) nst
    refine q H4 st g sm (((e1.trans e2).trans e3).trans e4) f3 f1 f2 ⟨(ns.filter fun x => decide (10 ^ 18 ≤ (x.natAbs : Int))).map fun x => (x.natAbs : Int), (ns.filter fun x => decide ((x.natAbs : Int) < 10 ^ 18)).map fun x => x % 2147483629 + 1, 0, 7 + (ns.length : Int), ?_, ?_, ?_, ?_, ?_, ?_, ?_, by decide, by omega, by omega, ?_⟩
    · rw [List.length_map] at hst
      exact hst
    · rw [List.map_map]
      exact e4 _ _ (e3 _ _ hg)
    · rw [List.map_map]
      exact e4 _ _ hsm
    · intro x hx
      obtain ⟨y, _, rfl⟩ := List.mem_map.mp hx
      omega
    · intro x hx
      obtain ⟨y, _, rfl⟩ := List.mem_map.mp hx
      have h1 := Int.emod_nonneg y (show (2147483629 : Int) ≠ 0 by decide)
      have h2 := Int.emod_lt_of_pos y (show (0 : Int) < 2147483629 by decide)
      omega
    · rw [List.length_map]
      exact Nat.le_trans (List.length_filter_le _ _) hlen
    · rw [List.length_map]
      exact Nat.le_trans (List.length_filter_le _ _) hlen
    · exact ne_of_none hg nsm

theorem ok_of {f fD : Addr} {fd fdD : FuncData} {k : Nat} (F : Fun K "_law_of" "_law_of" sOf f fd) (T : TxtD mg) (FD : Fun K "_law_draw" "_law_draw" sDraw fD fdD) (bD : Binds K fdD ["_law_state", "_law_many"] []) (gD : mg "_law_draw" = some (.ref fD)) :
    FnOk P w K mg base CX0 (k + 2) f fd ["_law_state", "_law_some"] (spOf K) := by
  have GD : FnOk P w K mg base CX0 (k + 1) fD fdD ["_law_state", "_law_many"] spDraw := ok_draw FD T
  refine F.ok scOf (fun vs H Q E h => ?_) (fun cdv A outer s H vs Q E hr h => ?_)
  · obtain ⟨st, g, sm, l, xs, rfl, _⟩ := h
    rfl
  · obtain ⟨st, g, sm, l, xs, rfl, hd, hl, nl, l0, l1, q⟩ := h
    refine ⟨_, pss_one (ps_ret (pe_ix ix_seq (pv 1) (pe_call GD hr rfl gD FD.kp bD .nil pass0 (pa_cons (pv 0) (pa_cons (pe_callB call_len_seq (by rfl) T.len PySem.boot_len (pa_cons (pv 1) pa_nil)) pa_nil))) (fun _ _ => rfl))), ?_⟩
    refine ⟨_, rfl, _, rfl, _, rfl, l, xs, rfl, hl, st, g, sm, _, rfl, hd, by omega, by omega, fun r H1 r0 r1 e1 d1 => ?_⟩
    obtain ⟨j, hj⟩ := Int.eq_ofNat_of_zero_le r0
    have hj2 : j < xs.length := by omega
    rcases hl with hl | hl
    · exact .inl ⟨l, xs, r, xs[j], rfl, rfl, e1.seq nl hl, at_of hj (List.getElem?_eq_getElem hj2), q j _ H1 (List.getElem?_eq_getElem hj2) e1 d1⟩
    · exact .inr (.inl ⟨l, xs, r, xs[j], rfl, rfl, e1.seqT nl hl, at_of hj (List.getElem?_eq_getElem hj2), q j _ H1 (List.getElem?_eq_getElem hj2) e1 d1⟩)
end
end Hc

set_option maxHeartbeats 4000000
/-! The law's trees: nested tuples; their lists, depth and text. -/
namespace Hs
open PySem PySem.Spec PyProof.Rows L2 Evl
def TrV (K : PySem.W.Frag) : (n : Nat) → Tre n → V → Hp → Prop
  | 0, _, v, H => ∃ a, v = .ref a ∧ SqT K H a []
  | n + 1, (l : List (Tre n)), v, H => ∃ a xs, v = .ref a ∧ SqT K H a xs ∧ All2 (fun t v H => TrV K n t v H) l xs H
theorem trV_mon {K : PySem.W.Frag} : ∀ (n : Nat) (t : Tre n), ExMon (TrV K n t)
  | 0, t => fun v H H' e h => by
    obtain ⟨a, h1, h2⟩ := h
    exact ⟨a, h1, e.seqT h2⟩
  | n + 1, l => fun v H H' e h => by
    obtain ⟨a, xs, h1, h2, h3⟩ := h
    exact ⟨a, xs, h1, e.seqT h2, h3.ex (fun t => trV_mon n t) e⟩
def kids : (n : Nat) → Tre n → List (Tre (n - 1))
  | 0, _ => []
  | n + 1, (l : List (Tre n)) => l
theorem trV_iff {K : PySem.W.Frag} : ∀ (n : Nat) (t : Tre n) (v : V) (H : Hp), TrV K n t v H ↔ ∃ a xs, v = .ref a ∧ SqT K H a xs ∧ All2 (fun t v H => TrV K (n - 1) t v H) (kids n t) xs H
  | 0, _, v, H => ⟨fun ⟨a, h1, h2⟩ => ⟨a, [], h1, h2, All2.nil⟩, fun ⟨a, xs, h1, h2, h3⟩ => by
    have e : xs = [] := List.length_eq_zero_iff.mp h3.1
    subst e
    exact ⟨a, h1, h2⟩⟩
  | n + 1, l, v, H => Iff.rfl
def dat : (n : Nat) → Tre n → PyData
  | 0, _ => .tuple []
  | n + 1, (l : List (Tre n)) => .tuple (l.map (dat n))
theorem dat_dp {K : PySem.W.Frag} {H : Hp} : ∀ (n : Nat) (t : Tre n) (v : V), TrV K n t v H → Dp K H v (dat n t)
  | 0, _, v, h => by
    obtain ⟨a, rfl, h2⟩ := h
    exact .tup h2 .nil
  | n + 1, l, v, h => by
    obtain ⟨a, xs, rfl, h2, h3⟩ := h
    refine .tup h2 ?_
    have key : ∀ (l : List (Tre n)) (xs : List V), All2 (fun t v H => TrV K n t v H) l xs H → DpAll K H xs (l.map (dat n)) := by
      intro l
      induction l with
      | nil =>
        intro xs h
        have e : xs = [] := List.length_eq_zero_iff.mp h.1
        subst e
        exact .nil
      | cons t l ih =>
        intro xs h
        cases xs with
        | nil => exact absurd h.1 (by simp)
        | cons x xs =>
          refine .cons (dat_dp n t x (h.2 0 t x rfl rfl)) (ih xs ⟨by have := h.1; simpa using this, fun i m y a b => h.2 (i + 1) m y (by simpa using a) (by simpa using b)⟩)
    exact key l xs h3
theorem dat_lay : ∀ (n : Nat) (t : Tre n), (dat n t).canLay0 = true
  | 0, _ => by
    show PyData.canLay0 (.tuple []) = true
    unfold PyData.canLay0
    rfl
  | n + 1, l => by
    show PyData.canLay0 (.tuple (List.map (dat n) l)) = true
    unfold PyData.canLay0
    have key : ∀ (l : List (Tre n)), PyData.canLayAll0 (l.map (dat n)) = true := by
      intro l
      induction l with
      | nil => rfl
      | cons t l ih =>
        rw [List.map_cons]
        unfold PyData.canLayAll0
        rw [dat_lay n t, ih]
        rfl
    exact key l
theorem dat_depth : ∀ (n : Nat) (t : Tre n), (dat n t).depth ≤ n + 1
  | 0, _ => by
    show PyData.depth (.tuple []) ≤ 1
    unfold PyData.depth PyData.depthAll
    omega
  | n + 1, l => by
    show PyData.depth (.tuple (List.map (dat n) l)) ≤ n + 2
    unfold PyData.depth
    have key : ∀ (l : List (Tre n)), PyData.depthAll (l.map (dat n)) ≤ n + 1 := by
      intro l
      induction l with
      | nil =>
        rw [List.map_nil]
        unfold PyData.depthAll
        omega
      | cons t l ih =>
        rw [List.map_cons]
        unfold PyData.depthAll
        have := dat_depth n t
        omega
    have := key l
    omega
theorem dat_shaped {n : Nat} (hn : n ≤ 3) (t : Tre n) : SeqAt.shaped (dat n t) = true := by
  unfold SeqAt.shaped
  rw [dat_lay, Bool.true_and]
  have := dat_depth n t
  exact decide_eq_true (by omega)
theorem dat_eqv : ∀ (n : Nat) (a b : Tre n), PyData.eqv (dat n a) (dat n b) = decide (txt n a = txt n b)
  | 0, _, _ => by
    show PyData.eqv (.tuple []) (.tuple []) = decide ([46] = [46])
    unfold PyData.eqv PyData.eqvAll
    rfl
  | n + 1, a, b => by
    have key : ∀ (a b : List (Tre n)), PyData.eqvAll (a.map (dat n)) (b.map (dat n)) = decide (a.map (txt n) = b.map (txt n)) := by
      intro a
      induction a with
      | nil =>
        intro b
        cases b with
        | nil =>
          show PyData.eqvAll [] [] = _
          unfold PyData.eqvAll
          rfl
        | cons y b =>
          show PyData.eqvAll [] (dat n y :: b.map (dat n)) = _
          unfold PyData.eqvAll
          rfl
      | cons x a ih =>
        intro b
        cases b with
        | nil =>
          show PyData.eqvAll (dat n x :: a.map (dat n)) [] = _
          unfold PyData.eqvAll
          rfl
        | cons y b =>
          show PyData.eqvAll (dat n x :: a.map (dat n)) (dat n y :: b.map (dat n)) = _
          unfold PyData.eqvAll
          rw [dat_eqv n x y, ih b, List.map_cons, List.map_cons]
          by_cases h1 : txt n x = txt n y <;> by_cases h2 : a.map (txt n) = b.map (txt n) <;> simp [h1, h2]
    have e1 : PyData.eqv (dat (n + 1) a) (dat (n + 1) b) = PyData.eqvAll (List.map (dat n) a) (List.map (dat n) b) := by
      show PyData.eqv (.tuple (List.map (dat n) a)) (.tuple (List.map (dat n) b)) = _
      rw [PyData.eqv]
    rw [e1, key a b]
    refine decide_eq_decide.mpr ⟨fun h => ?_, fun h => ?_⟩
    · match a, b, h with
      | [], [], _ => rfl
      | x :: a, y :: b, h =>
        rw [txt_cons, txt_cons, show (x :: a).map (txt n) = (y :: b).map (txt n) from h]
      | [], y :: b, h => simp at h
      | x :: a, [], h => simp at h
    · rw [txt_inj (n + 1) a b h]
/-- a tree that is () -/
def leaf : (n : Nat) → Tre n
  | 0 => ()
  | n + 1 => ([] : List (Tre n))
theorem txt_leaf : ∀ n, txt n (leaf n) = [46]
  | 0 => rfl
  | n + 1 => rfl
theorem dat_leaf : ∀ n, dat n (leaf n) = .tuple []
  | 0 => rfl
  | n + 1 => rfl
theorem leaf_V {K : PySem.W.Frag} {H : Hp} {a : Addr} (h : SqT K H a []) : ∀ n, TrV K n (leaf n) (.ref a) H
  | 0 => ⟨a, rfl, h⟩
  | n + 1 => ⟨a, [], rfl, h, All2.nil⟩
theorem lsts_leaf : ∀ n, lsts n (leaf n) = 0
  | 0 => rfl
  | n + 1 => rfl
theorem slim_leaf : ∀ n, slim n (leaf n) = true
  | 0 => rfl
  | n + 1 => rfl
theorem txt_len : ∀ (n : Nat) (t : Tre n), slim n t = true → (txt n t).length + 3 ≤ 4 * 3 ^ n
  | 0, _, _ => by show 1 + 3 ≤ 4; decide
  | n + 1, [], _ => by
    rw [txt_nil]
    have : 0 < 3 ^ (n + 1) := Nat.pow_pos (by decide)
    show 1 + 3 ≤ _
    omega
  | n + 1, x :: l, h => by
    have h' : (decide ((x :: l).length ≤ 3) && (x :: l).all (slim n)) = true := h
    rw [Bool.and_eq_true, List.all_eq_true, decide_eq_true_eq] at h'
    obtain ⟨h1, h2⟩ := h'
    have key : ∀ (l : List (Tre n)), (∀ t ∈ l, slim n t = true) → (TL.joinL [44, 32] (l.map (txt n))).length ≤ l.length * (4 * 3 ^ n - 3) + (l.length - 1) * 2 := by
      intro l
      induction l with
      | nil => exact fun _ => Nat.zero_le _
      | cons y l ih =>
        intro hl
        have hy := txt_len n y (hl y List.mem_cons_self)
        cases l with
        | nil =>
          show (txt n y).length ≤ _
          rw [List.length_singleton]
          omega
        | cons z l =>
          have := ih fun t ht => hl t (List.mem_cons_of_mem _ ht)
          rw [List.map_cons, List.map_cons, joinL_cons, List.length_append, List.length_append]
          have hk : 1 ≤ (z :: l).length := by simp
          rw [List.map_cons] at this
          rw [show (y :: z :: l).length = (z :: l).length + 1 from rfl, Nat.succ_mul]
          show _ + (2 + _) ≤ _
          generalize (z :: l).length * (4 * 3 ^ n - 3) = M at this ⊢
          omega
    have hk := key (x :: l) h2
    rw [txt_cons, List.length_cons, List.length_append, List.length_singleton]
    have hp : 1 ≤ 3 ^ n := Nat.pow_pos (by decide)
    rw [Nat.pow_succ]
    have h3 : (x :: l).length * (4 * 3 ^ n - 3) ≤ 3 * (4 * 3 ^ n - 3) := Nat.mul_le_mul_right _ h1
    omega
theorem txt_cap {n : Nat} (hn : n ≤ 3) {t : Tre n} (h : slim n t = true) : (txt n t).length ≤ 105 := by
  have h1 := txt_len n t h
  have h2 : 3 ^ n ≤ 3 ^ 3 := Nat.pow_le_pow_right (by decide) hn
  omega
theorem cap_of {n : Nat} (hn : n ≤ 3) {t : Tre n} (h : slim n t = true) : (txt n t).length ≤ cap := Nat.le_trans (txt_cap hn h) (by decide)
theorem slim_iff (n : Nat) (l : List (Tre n)) : slim (n + 1) l = true ↔ l.length ≤ 3 ∧ ∀ x ∈ l, slim n x = true := by
  show (decide (l.length ≤ 3) && l.all (slim n)) = true ↔ _
  rw [Bool.and_eq_true, List.all_eq_true, decide_eq_true_eq]
theorem kids_slim : ∀ {n : Nat} {t : Tre n}, slim n t = true → (kids n t).length ≤ 3 ∧ ∀ x ∈ kids n t, slim (n - 1) x = true
  | 0, _, _ => ⟨Nat.zero_le _, fun x h => nomatch h⟩
  | n + 1, l, h => (slim_iff n l).mp h
end Hs

set_option maxHeartbeats 4000000
namespace Hs
open PySem PySem.Spec PyProof.Rows L2 Evl Hc
theorem lsts_kids : ∀ {n : Nat} {t : Tre n}, txt n t ≠ [46] → lsts n t = 1 + ((kids n t).map (lsts (n - 1))).sum
  | 0, _, h => absurd rfl h
  | n + 1, [], h => absurd rfl h
  | n + 1, x :: l, _ => rfl
theorem dep_kids : ∀ {n : Nat} {t : Tre n}, txt n t ≠ [46] → dep n t = 1 + ((kids n t).map (dep (n - 1))).foldl max 0
  | 0, _, h => absurd rfl h
  | n + 1, [], h => absurd rfl h
  | n + 1, x :: l, _ => rfl
theorem txt_kids : ∀ {n : Nat} {t : Tre n}, txt n t ≠ [46] → txt n t = 91 :: (TL.joinL [44, 32] ((kids n t).map (txt (n - 1))) ++ [93])
  | 0, _, h => absurd rfl h
  | n + 1, [], h => absurd rfl h
  | n + 1, x :: l, _ => rfl
theorem kids_ne : ∀ {n : Nat} {t : Tre n}, txt n t ≠ [46] → kids n t ≠ []
  | 0, _, h => absurd rfl h
  | n + 1, [], h => absurd rfl h
  | n + 1, x :: l, _ => by
    intro z
    cases z
theorem leaf_val : ∀ {n : Nat} {t : Tre n}, txt n t = [46] → lsts n t = 0 ∧ dep n t = 0
  | 0, _, _ => ⟨rfl, rfl⟩
  | n + 1, [], _ => ⟨rfl, rfl⟩
  | n + 1, x :: l, h => absurd h txt_dot
section
variable {K : PySem.W.Frag} {σ : L2.St} {H : Hp} {te tl : TE}
theorem range_opt {α : Type} (g : α → V) (l : List α) : (List.range l.length).map (fun i => (l[i]?).elim .non g) = l.map g := by
  apply List.ext_getElem
  · simp
  · intro i h1 h2
    simp at h1
    simp [h1]
theorem el_kids {n : Nat} {t : Tre n} {v : V} {j : Nat} {vs : List Nat} (g : Tre (n - 1) → V) (h : TrV K n t v H) (hs : slim n t = true) (hv : Ev tl σ H v) (hw : ∀ x, wipe ((wipe σ vs).set j (some x)) vs = wipe σ vs)
    (he : ∀ x y H1, Ex H H1 → x ∈ kids n t → TrV K (n - 1) x y H1 → Ev te ((wipe σ vs).set j (some y)) H1 (g x)) : EvL (tLc (iTup K tl) (gName j) tYes te vs) σ H ((kids n t).map g) := by
  obtain ⟨a, xs, rfl, hx, hal⟩ := (trV_iff n t v H).mp h
  have z := el_lcT (K := K) (te := te) (fun i => ((kids n t)[i]?).elim .non g) hv hx (by rw [hal.1]; have := (kids_slim hs).1; omega) hw (fun i y H1 e1 hy => by
    have hi : i < (kids n t).length := by rw [← hal.1]; exact (List.getElem?_eq_some_iff.mp hy).1
    have hk := List.getElem?_eq_getElem hi
    rw [hk]
    exact he _ y H1 e1 (List.getElem_mem hi) (trV_mon (n - 1) _ y H H1 (NL.ex e1) (hal.2 i _ y hk hy)))
  rw [hal.1, range_opt] at z
  exact z
theorem ev_eqD {x y : V} {d e : PyData} {ta tb : TE} (ha : Ev ta σ H x) (hb : Ev tb σ H y) (hx : ∀ H1, Ex H H1 → Dp K H1 x d) (hy : ∀ H1, Ex H H1 → Dp K H1 y e) (sd : SeqAt.shaped d = true) (se : SeqAt.shaped e = true) : Ev (tOp (rEqD K) ta tb) σ H (.bl (PyData.eqv d e)) :=
  ev_op ha hb (fun H1 e1 Q q => ⟨d, e, hx H1 e1, hy H1 e1, sd, se, q H1 (Ex.refl H1)⟩)
theorem trV_ex {n : Nat} {t : Tre n} {v : V} {H' : Hp} (h : TrV K n t v H) (e : Ex H H') : TrV K n t v H' := trV_mon n t v H H' (NL.ex e) h
theorem et_leaf {n : Nat} {t : Tre n} {v : V} (hn : n ≤ 3) (h : TrV K n t v H) (hv : Ev te σ H v) : EvT (tTest (tOp (rEqD K) te (tTup tNil))) σ H (decide (txt n t = [46])) := by
  refine et_is (et_test (ev_opU (z := .bl (PyData.eqv (dat n t) (dat n (leaf n)))) hv (eu_tup ea_nil (Nat.zero_le _)) fun p H1 hp e1 => fun H2 e2 Q q => ?_)) (by rw [dat_eqv, txt_leaf])
  exact ⟨dat n t, dat n (leaf n), dat_dp n t v (trV_ex h (e1.trans e2)), dat_dp n (leaf n) _ (leaf_V (SqT.of (e2 _ _ hp)) n), dat_shaped hn t, dat_shaped hn _, q H2 (Ex.refl H2)⟩
def rJoin (K : PySem.W.Frag) : V → List V → Hp → VK → Prop := fun x xs H Q => ∃ a p, ∃ ys : List Str, x = .str a ∧ xs = [.ref p] ∧ (SqL K H p (ys.map V.str) ∨ SqT K H p (ys.map V.str)) ∧ (ys.map (·.length)).sum + ys.length * a.length ≤ 16777216 ∧ Q (.str (Txt.join a ys)) H
theorem ev_join {a : List Nat} {ys : List (List Nat)} {to : TE} (h1 : Ev to σ H (.str (S a))) (h2 : EvL tl σ H ((ys.map S).map V.str)) (hz : ((ys.map S).map (·.length)).sum + (ys.map S).length * (S a).length ≤ 16777216) : Ev (tM1 (rJoin K) to tl) σ H (.str (S (TL.joinL a ys))) := fun H1 e Q q =>
  h1 H1 e _ fun H2 e2 => ⟨⟨_, rfl⟩, h2 H2 (e.trans e2) _ fun p H3 np e3 hp => ⟨S a, p, ys.map S, rfl, rfl, .inl (SqL.of hp), hz, by rw [join_S]; exact q H3 (e2.trans e3)⟩⟩
theorem ev_addS {x y : Str} {ta tb : TE} (h1 : Ev ta σ H (.str x)) (h2 : Ev tb σ H (.str y)) (hz : x.length + y.length ≤ sizeLine) : Ev (tOp (fun x y H Q => ∃ i j, x = .str i ∧ y = .str j ∧ i.length + j.length ≤ sizeLine ∧ Q (.str (i ++ j)) H) ta tb) σ H (.str (x ++ y)) :=
  ev_op h1 h2 fun H1 e Q q => ⟨x, y, rfl, rfl, hz, q H1 (Ex.refl H1)⟩
theorem sum_le {c : Nat} : ∀ l : List Nat, (∀ x ∈ l, x ≤ c) → l.sum ≤ l.length * c
  | [], _ => Nat.zero_le _
  | x :: l, h => by
    have h1 := h x List.mem_cons_self
    have h2 := sum_le l fun y hy => h y (List.mem_cons_of_mem _ hy)
    rw [List.sum_cons, List.length_cons, Nat.succ_mul]
    omega
theorem evl_is {xs ys : List V} (h : EvL te σ H xs) (e : xs = ys) : EvL te σ H ys := e ▸ h
theorem ev_sum {ns : List Int} (h : EvL tl σ H (ns.map V.int)) : Ev (tCB (rSum K) (tCons tl tNil)) σ H (.int ns.sum) := fun H1 e Q q =>
  h H1 e _ fun p H2 np e2 hp => ⟨p, ns, rfl, SqL.of hp, q H2 e2⟩
end
def spLists (K : PySem.W.Frag) (n : Nat) : Sp := fun vs H Q _ => ∃ v t, vs = [v] ∧ TrV K n t v H ∧ slim n t = true ∧ ∀ H', Ex H H' → Q (.int ((lsts n t : Nat) : Int)) H'
def spDepth (K : PySem.W.Frag) (n : Nat) : Sp := fun vs H Q _ => ∃ v t, vs = [v] ∧ TrV K n t v H ∧ slim n t = true ∧ ∀ H', Ex H H' → Q (.int ((dep n t : Nat) : Int)) H'
def spText (K : PySem.W.Frag) (n : Nat) : Sp := fun vs H Q _ => ∃ v t, vs = [v] ∧ TrV K n t v H ∧ slim n t = true ∧ ∀ H', Ex H H' → Q (.str (S (txt n t))) H'
theorem sp_lists {K : PySem.W.Frag} {n : Nat} {t : Tre n} {v : V} {H : Hp} (h : TrV K n t v H) (hs : slim n t = true) : SpV (spLists K n) ([v] ++ []) H (.int ((lsts n t : Nat) : Int)) := fun H1 e Q q E => ⟨v, t, rfl, trV_ex h e, hs, q⟩
theorem sp_depth {K : PySem.W.Frag} {n : Nat} {t : Tre n} {v : V} {H : Hp} (h : TrV K n t v H) (hs : slim n t = true) : SpV (spDepth K n) ([v] ++ []) H (.int ((dep n t : Nat) : Int)) := fun H1 e Q q E => ⟨v, t, rfl, trV_ex h e, hs, q⟩
theorem sp_text {K : PySem.W.Frag} {n : Nat} {t : Tre n} {v : V} {H : Hp} (h : TrV K n t v H) (hs : slim n t = true) : SpV (spText K n) ([v] ++ []) H (.str (S (txt n t))) := fun H1 e Q q E => ⟨v, t, rfl, trV_ex h e, hs, q⟩
structure TxtF (mg : Str → Option Value) : Prop extends TxtS mg where
  sum : mg "sum" = none
abbrev nF : List Str := ["_law_tree_here", "_law_item"]
theorem scL : FnScope nF ["_law_tree_here"] (defScope sLists) := ⟨rfl, rfl, rfl, by decide +kernel, rfl, by decide +kernel, by decide +kernel⟩
theorem scD : FnScope nF ["_law_tree_here"] (defScope sDepth) := ⟨rfl, rfl, rfl, by decide +kernel, rfl, by decide +kernel, by decide +kernel⟩
theorem scT : FnScope nF ["_law_tree_here"] (defScope sText) := ⟨rfl, rfl, rfl, by decide +kernel, rfl, by decide +kernel, by decide +kernel⟩
section
variable {P : Program} {w : World} {K : PySem.W.Frag} {mg : Str → Option Value} {base : Heap}
theorem ok_lists1 {f : Addr} {fd : FuncData} {k n : Nat} {spP : Sp} (F : Fun K "_law_lists" "_law_lists" sLists f fd) (T : TxtF mg) (rL : Rd P w K mg base "_law_lists" k ["_law_tree_here"] spP) (hn : n ≤ 3) (hc : n = 0 ∨ ∃ m, n = m + 1 ∧ spP = spLists K m) : FnOk P w K mg base CX0 (k + 1) f fd ["_law_tree_here"] (spLists K n) := by
  refine F.ok scL (fun vs H Q E h => ?_) (fun cdv A outer s H vs Q E hr h => ?_)
  · obtain ⟨v, t, rfl, _⟩ := h
    rfl
  · obtain ⟨v, t, rfl, ht, hs, q⟩ := h
    refine ⟨_, pss_one (ps_ret (pe_ifExp (pt_cmpR (op_eqD hr.units) (pv 0) (pe_tup pa_nil) (nomark _)) pe_int (pe_op op_add pe_int (pe_callB (cr_sum rfl) (by rfl) T.sum boot_sum (pa_cons (pe_lc (own := [("_law_item", 1)]) (g := gName 1) (tt := tYes) rfl scL.nd (pi_tup (pv 0)) (blkOk_by (N := nF) (sc := defScope sLists) (by decide +kernel))
      (fun _ _ _ _ _ => pg_name (i := 1) scL.nd rfl (.inl rfl)) (fun _ _ _ _ _ => pts_nil) (fun _ _ _ _ _ => pe_rd rL hr (Nat.le_refl _) (by rfl) (pa_cons (pv 1) pa_nil))) pa_nil))))), ?_⟩
    refine s_ret (ev_if (et_leaf hn ht (ev_var rfl)) (fun hb => ?_) (fun hb => ?_)) q
    · rw [(leaf_val (of_decide_eq_true hb)).1]
      exact ev_c
    · have hb' := of_decide_eq_false hb
      obtain ⟨m, rfl, rfl⟩ : ∃ m, n = m + 1 ∧ spP = spLists K m := by
        rcases hc with rfl | h
        · exact absurd rfl hb'
        · exact h
      have hk := kids_slim hs
      have z := el_kids (K := K) (n := m + 1) (t := t) (σ := [some v, none]) (H := H) (tl := tVar 0) (te := tCall (spLists K m) [] E0 (tCons (tVar 1) tNil)) (j := 1) (vs := [1]) (fun x => V.int ((lsts m x : Nat) : Int)) ht hs (ev_var rfl) wipe1 (fun x y H1 e1 hx hy => ev_call (ea_cons (ev_var rfl) ea_nil) (sp_lists hy (hk.2 x hx)))
      have e0 : (kids (m + 1) t).map (fun x => V.int ((lsts m x : Nat) : Int)) = ((kids (m + 1) t).map (fun x => ((lsts m x : Nat) : Int))).map V.int := by rw [List.map_map]; rfl
      replace z := evl_is z e0
      have e1 : ((lsts (m + 1) t : Nat) : Int) = 1 + ((kids (m + 1) t).map (fun x => ((lsts m x : Nat) : Int))).sum := by
        rw [lsts_kids hb']
        have key : ∀ l : List (Tre m), (((l.map (lsts m)).sum : Nat) : Int) = (l.map (fun x => ((lsts m x : Nat) : Int))).sum := by
          intro l
          induction l with
          | nil => rfl
          | cons x l ih =>
            rw [List.map_cons, List.map_cons, List.sum_cons, List.sum_cons, ← ih]
            omega
        have := key (kids (m + 1) t)
        show ((1 + ((kids (m + 1) t).map (lsts m)).sum : Nat) : Int) = _
        omega
      rw [e1]
      exact ev_op ev_c (ev_sum z) rv_I0
theorem ok_depth1 {f : Addr} {fd : FuncData} {k n : Nat} {spP : Sp} (F : Fun K "_law_depth" "_law_depth" sDepth f fd) (T : TxtF mg) (rL : Rd P w K mg base "_law_depth" k ["_law_tree_here"] spP) (hn : n ≤ 3) (hc : n = 0 ∨ ∃ m, n = m + 1 ∧ spP = spDepth K m) : FnOk P w K mg base CX0 (k + 1) f fd ["_law_tree_here"] (spDepth K n) := by
  refine F.ok scD (fun vs H Q E h => ?_) (fun cdv A outer s H vs Q E hr h => ?_)
  · obtain ⟨v, t, rfl, _⟩ := h
    rfl
  · obtain ⟨v, t, rfl, ht, hs, q⟩ := h
    refine ⟨_, pss_one (ps_ret (pe_ifExp (pt_cmpR (op_eqD hr.units) (pv 0) (pe_tup pa_nil) (nomark _)) pe_int (pe_op op_add pe_int (pe_callB (cr_max rfl) (by rfl) T.max boot_max (pa_cons (pe_lc (own := [("_law_item", 1)]) (g := gName 1) (tt := tYes) rfl scD.nd (pi_tup (pv 0)) (blkOk_by (N := nF) (sc := defScope sDepth) (by decide +kernel))
      (fun _ _ _ _ _ => pg_name (i := 1) scD.nd rfl (.inl rfl)) (fun _ _ _ _ _ => pts_nil) (fun _ _ _ _ _ => pe_rd rL hr (Nat.le_refl _) (by rfl) (pa_cons (pv 1) pa_nil))) pa_nil))))), ?_⟩
    refine s_ret (ev_if (et_leaf hn ht (ev_var rfl)) (fun hb => ?_) (fun hb => ?_)) q
    · rw [(leaf_val (of_decide_eq_true hb)).2]
      exact ev_c
    · have hb' := of_decide_eq_false hb
      obtain ⟨m, rfl, rfl⟩ : ∃ m, n = m + 1 ∧ spP = spDepth K m := by
        rcases hc with rfl | h
        · exact absurd rfl hb'
        · exact h
      have hk := kids_slim hs
      have hne : kids (m + 1) t ≠ [] := kids_ne hb'
      have z := el_kids (K := K) (n := m + 1) (t := t) (σ := [some v, none]) (H := H) (tl := tVar 0) (te := tCall (spDepth K m) [] E0 (tCons (tVar 1) tNil)) (j := 1) (vs := [1]) (fun x => V.int ((dep m x : Nat) : Int)) ht hs (ev_var rfl) wipe1 (fun x y H1 e1 hx hy => ev_call (ea_cons (ev_var rfl) ea_nil) (sp_depth hy (hk.2 x hx)))
      have e0 : (kids (m + 1) t).map (fun x => V.int ((dep m x : Nat) : Int)) = ((kids (m + 1) t).map (fun x => ((dep m x : Nat) : Int))).map V.int := by rw [List.map_map]; rfl
      replace z := evl_is z e0
      have e1 : ((dep (m + 1) t : Nat) : Int) = 1 + ((((kids (m + 1) t).map (dep m)).foldl max 0 : Nat) : Int) := by
        rw [dep_kids hb']
        show ((1 + ((kids (m + 1) t).map (dep m)).foldl max 0 : Nat) : Int) = _
        omega
      rw [e1]
      refine ev_op ev_c (ev_max z ?_ ?_) rv_I0
      · rw [List.length_map]
        exact List.length_pos_iff.mpr hne
      · intro mx h1 h2
        obtain ⟨a1, a2⟩ := fold_max ((kids (m + 1) t).map (dep m)) 0
        generalize ((kids (m + 1) t).map (dep m)).foldl max 0 = M at a1 a2 ⊢
        obtain ⟨x, hx, rfl⟩ := List.mem_map.mp h1
        have b1 := a2 (dep m x) (List.mem_cons_of_mem _ (List.mem_map.mpr ⟨x, hx, rfl⟩))
        rcases List.mem_cons.mp a1 with e | e
        · omega
        · obtain ⟨y, hy, rfl⟩ := List.mem_map.mp e
          have := h2 _ (List.mem_map.mpr ⟨y, hy, rfl⟩)
          omega
theorem ok_text1 {f : Addr} {fd : FuncData} {k n : Nat} {spP : Sp} (F : Fun K "_law_text" "_law_text" sText f fd) (T : TxtF mg) (rL : Rd P w K mg base "_law_text" k ["_law_tree_here"] spP) (hn : n ≤ 3) (hc : n = 0 ∨ ∃ m, n = m + 1 ∧ spP = spText K m) : FnOk P w K mg base CX0 (k + 1) f fd ["_law_tree_here"] (spText K n) := by
  refine F.ok scT (fun vs H Q E h => ?_) (fun cdv A outer s H vs Q E hr h => ?_)
  · obtain ⟨v, t, rfl, _⟩ := h
    rfl
  · obtain ⟨v, t, rfl, ht, hs, q⟩ := h
    refine ⟨_, pss_one (ps_ret (pe_ifExp (pt_cmpR (op_eqD hr.units) (pv 0) (pe_tup pa_nil) (nomark _)) pe_str (pe_op op_add_str (pe_op op_add_str pe_str (pe_join pe_str (pe_lc (own := [("_law_item", 1)]) (g := gName 1) (tt := tYes) rfl scT.nd (pi_tup (pv 0)) (blkOk_by (N := nF) (sc := defScope sText) (by decide +kernel))
      (fun _ _ _ _ _ => pg_name (i := 1) scT.nd rfl (.inl rfl)) (fun _ _ _ _ _ => pts_nil) (fun _ _ _ _ _ => pe_rd rL hr (Nat.le_refl _) (by rfl) (pa_cons (pv 1) pa_nil))))) pe_str))), ?_⟩
    refine s_ret (ev_if (et_leaf hn ht (ev_var rfl)) (fun hb => ?_) (fun hb => ?_)) q
    · rw [show txt n t = [46] from of_decide_eq_true hb]
      exact ev_c
    · have hb' := of_decide_eq_false hb
      obtain ⟨m, rfl, rfl⟩ : ∃ m, n = m + 1 ∧ spP = spText K m := by
        rcases hc with rfl | h
        · exact absurd rfl hb'
        · exact h
      have hk := kids_slim hs
      have z := el_kids (K := K) (n := m + 1) (t := t) (σ := [some v, none]) (H := H) (tl := tVar 0) (te := tCall (spText K m) [] E0 (tCons (tVar 1) tNil)) (j := 1) (vs := [1]) (fun x => V.str (S (txt m x))) ht hs (ev_var rfl) wipe1 (fun x y H1 e1 hx hy => ev_call (ea_cons (ev_var rfl) ea_nil) (sp_text hy (hk.2 x hx)))
      have e0 : (kids (m + 1) t).map (fun x => V.str (S (txt m x))) = (((kids (m + 1) t).map (txt m)).map S).map V.str := by rw [List.map_map, List.map_map]; rfl
      replace z := evl_is z e0
      have hl := txt_cap hn hs
      have et := txt_kids hb'
      have hj : (TL.joinL [44, 32] ((kids (m + 1) t).map (txt m))).length ≤ 105 := by
        rw [et] at hl
        have hl' : (91 :: (TL.joinL [44, 32] ((kids (m + 1) t).map (txt m)) ++ [93])).length ≤ 105 := hl
        rw [List.length_cons, List.length_append] at hl'
        omega
      have hz : ((((kids (m + 1) t).map (txt m)).map S).map (·.length)).sum + (((kids (m + 1) t).map (txt m)).map S).length * (S [44, 32]).length ≤ 16777216 := by
        have h1 := sum_le (c := 105) ((((kids (m + 1) t).map (txt m)).map S).map (·.length)) (fun y hy => by
          obtain ⟨u, hu, rfl⟩ := List.mem_map.mp hy
          obtain ⟨L, hL, rfl⟩ := List.mem_map.mp hu
          obtain ⟨x, hx, rfl⟩ := List.mem_map.mp hL
          show (S (txt m x)).length ≤ 105
          rw [S_len]
          exact txt_cap (by omega) (hk.2 x hx))
        rw [List.length_map, List.length_map, List.length_map] at h1
        rw [List.length_map, List.length_map, S_len]
        have h3 := hk.1
        have h4 : (kids (m + 1) t).length * 105 ≤ 3 * 105 := Nat.mul_le_mul_right _ h3
        have h5 : (kids (m + 1) t).length * 2 ≤ 3 * 2 := Nat.mul_le_mul_right _ h3
        show _ + (kids (m + 1) t).length * 2 ≤ _
        omega
      rw [et]
      have e3 : (91 :: (TL.joinL [44, 32] ((kids (m + 1) t).map (txt (m + 1 - 1))) ++ [93])) = ([91] ++ TL.joinL [44, 32] ((kids (m + 1) t).map (txt m))) ++ [93] := by
        show 91 :: (TL.joinL [44, 32] ((kids (m + 1) t).map (txt m)) ++ [93]) = _
        simp
      rw [e3, ← S_cat, ← S_cat]
      refine ev_addS (ev_addS ev_c (ev_join (a := [44, 32]) ev_c z hz) ?_) ev_c ?_
      · rw [S_len, S_len]
        exact cap_line (Nat.le_trans (Nat.add_le_add (Nat.le_refl 1) hj) (by decide))
      · rw [S_cat, S_len, S_len, List.length_append]
        exact cap_line (Nat.le_trans (Nat.add_le_add (Nat.add_le_add (Nat.le_refl 1) hj) (Nat.le_refl 1)) (by decide))
theorem rd_lists {f : Addr} {fd : FuncData} (F : Fun K "_law_lists" "_law_lists" sLists f fd) (g : mg "_law_lists" = some (.ref f)) (b : Binds K fd ["_law_tree_here"] []) (T : TxtF mg) : ∀ n, n ≤ 3 → Rd P w K mg base "_law_lists" (1 + n) ["_law_tree_here"] (spLists K n)
  | 0, h => ⟨f, fd, g, F.kp, b, ok_lists1 F T (rd_no F g b 0) h (.inl rfl)⟩
  | n + 1, h => ⟨f, fd, g, F.kp, b, ok_lists1 F T (rd_lists F g b T n (by omega)) h (.inr ⟨n, rfl, rfl⟩)⟩
theorem rd_depth {f : Addr} {fd : FuncData} (F : Fun K "_law_depth" "_law_depth" sDepth f fd) (g : mg "_law_depth" = some (.ref f)) (b : Binds K fd ["_law_tree_here"] []) (T : TxtF mg) : ∀ n, n ≤ 3 → Rd P w K mg base "_law_depth" (1 + n) ["_law_tree_here"] (spDepth K n)
  | 0, h => ⟨f, fd, g, F.kp, b, ok_depth1 F T (rd_no F g b 0) h (.inl rfl)⟩
  | n + 1, h => ⟨f, fd, g, F.kp, b, ok_depth1 F T (rd_depth F g b T n (by omega)) h (.inr ⟨n, rfl, rfl⟩)⟩
theorem rd_text {f : Addr} {fd : FuncData} (F : Fun K "_law_text" "_law_text" sText f fd) (g : mg "_law_text" = some (.ref f)) (b : Binds K fd ["_law_tree_here"] []) (T : TxtF mg) : ∀ n, n ≤ 3 → Rd P w K mg base "_law_text" (1 + n) ["_law_tree_here"] (spText K n)
  | 0, h => ⟨f, fd, g, F.kp, b, ok_text1 F T (rd_no F g b 0) h (.inl rfl)⟩
  | n + 1, h => ⟨f, fd, g, F.kp, b, ok_text1 F T (rd_text F g b T n (by omega)) h (.inr ⟨n, rfl, rfl⟩)⟩
end
end Hs

set_option maxHeartbeats 4000000
/-! len(o), o[i], str(o), repr(o), ==, != by a class's own defs. -/
namespace PySem.W
open PySem PySem.Calls PyProof.Rows Builtin
section
variable {prog : Program} {w : World} {M : Model} {A : Around} {E : Value → Shared → Prop} {s : Shared} {K : Frag} {x C L f : Addr} {h₀ : Heap} {m : Str → Option Value} {ox : Obj} {od : Option Obj}
theorem hs_ifBoundB {name : Str} {id : String} {args : List Value} {Q : Option Value → Shared → Prop} (X : K.In s.heap) (I : InstAt s.heap x ox C od) (hs : findIn K (.ref C) name = some (some (.builtin id)))
    (hb : ∀ self, bindSpecial (.builtin id) self = pure (.builtin id, [self])) (h : wpAny M A (call (.builtin id) (.ref x :: args)) (fun v => Q (some v)) E s) : wpAny M A (callSpecialIfBound? (.ref x) name args) Q E s := by
  simp only [callSpecialIfBound?, bindSpecialIfBound?]
  refine wpAny_holding (wpAny_bind (wpAny_bind (wpAny_bind (I.type.here ((looks_findIn X hs).here ?_)))))
  refine wpAny_bind (wpAny_askSetting (wpAny_ite ?_))
  have fin : wpAny M A (call (.builtin id) ([.ref x] ++ args) >>= fun v => pure (some v)) Q E s := wpAny_bind (wpAny_mono h (fun v s' h' => wpAny_pure h') fun _ _ h' => h')
  split
  · exact wpAny_bind ((Looks.of_pure (hb _)).here (wpAny_pure (by exact fin)))
  · exact wpAny_tryCatch (wpAny_bind ((Looks.of_pure (hb _)).here (wpAny_pure (by exact fin))))
theorem hs_one {b : Value} {Q : Value → Shared → Prop} (hu : A.in1.units < cLine) (X : K.In s.heap) (I : InstAt s.heap x ox C od) (hm : mroIn K C (.type "object") = some true) (hs : findIn K (.ref C) "__eq__" = some (some (.ref f))) (hf : isFn K (.ref f) = true)
    (h : wpAny (model prog w) A.in1 (call (.ref f) [.ref x, b]) (fun v s' => ∃ k, v = .bool k ∧ Q (.bool (!k)) s') E s) : wpAny (model prog w) A (call (.builtin "object.__ne__") [.ref x, b]) Q E s := by
  refine wpAny_call (codeAny_call_builtin PySem.F.cmp_object.ne.plain PySem.F.cmpEntry_ne (check_slot (i := "object.__ne__") (owner := "object") (n := "__ne__") (by decide +kernel) (by decide +kernel) (I.type.andThen (looks_mroIn X hm)) (PySem.F.cmpArgs_ne _ _) ?_))
  unfold Builtin.«object.__ne__»
  refine wpAny_bind (m := slotArgs "__ne__" 1 _) (wpAny_pure ?_)
  refine wpAny_bind (m := cRoomFor _ _) (wpAny_cRoomFor hu ?_)
  refine wpAny_bind (m := callSpecialIfBound? (.ref x) (Str.ofString "__eq__") _) (ifBound_K X I hs hf (wpAny_mono h (fun r s' hq => ?_) fun _ _ y => y))
  obtain ⟨k, rfl, q⟩ := hq
  exact wpAny_bind (wpAny_truthy_bool (wpAny_pure q))
theorem hs_ne {b tb : Value} {Q : Value → Shared → Prop} (hu : A.units < cLine) (hu1 : A.in1.units < cLine) (X : K.In s.heap) (I : InstAt s.heap x ox C od) (hb : Looks (model prog w) s.heap (typeOf b) tb) (hn : notFirst K C tb = true) (hm : mroIn K C (.type "object") = some true)
    (hn2 : findIn K (.ref C) "__ne__" = some (some (.builtin "object.__ne__"))) (hs : findIn K (.ref C) "__eq__" = some (some (.ref f))) (hf : isFn K (.ref f) = true)
    (h : wpAny (model prog w) A.in1 (call (.ref f) [.ref x, b]) (fun v s' => ∃ k, v = .bool k ∧ Q (.bool (!k)) s') E s) : wpAny (model prog w) A (richCompare .NotEq (.ref x) b) Q E s := by
  have one : wpAny (model prog w) A (tryCompare (.ref x) (cmpInfo .NotEq).2.1 b) (fun r s' => ∃ v, r = some v ∧ Q v s') E s := by
    unfold tryCompare
    refine wpAny_bind (hs_ifBoundB X I hn2 PySem.F.cmp_object.ne.bind (hs_one hu1 X I hm hs hf (wpAny_mono h (fun v s' hv => ?_) fun _ _ e => e)))
    obtain ⟨k, rfl, q⟩ := hv
    exact ⟨k, rfl, wpAny_pure ⟨_, rfl, q⟩⟩
  unfold richCompare
  simp only [oneThing_ref]
  refine wpAny_holding (wpAny_bind (wpAny_cRoomFor hu ?_))
  refine wpAny_bind (I.type.here (wpAny_bind (hb.here ?_)))
  split
  · rename_i q
    have e : subIn K tb (.ref C) = some false := by
      rcases Bool.or_eq_true_iff.mp hn with e | e
      · rw [beq_iff_eq.mp e] at q; simp at q
      · exact beq_iff_eq.mp e
    refine wpAny_bind ((looks_subIn X e).here ?_)
    simp only [Bool.false_eq_true, if_false]
    refine wpAny_bind (wpAny_mono one (fun r s' z => ?_) fun _ _ e => e)
    obtain ⟨v, rfl, hq⟩ := z
    exact wpAny_pure hq
  · refine wpAny_bind (wpAny_pure ?_)
    simp only [Bool.false_eq_true, if_false]
    refine wpAny_bind (wpAny_mono one (fun r s' z => ?_) fun _ _ e => e)
    obtain ⟨v, rfl, hq⟩ := z
    exact wpAny_pure hq
end
end PySem.W

namespace Hs
open PySem PySem.Spec PyProof.Rows L2 Evl
/-- a value whose class is told -/
inductive Kn (K : PySem.W.Frag) (H : Hp) : V → Value → Prop where
  | non : Kn K H .non (.type "NoneType")
  | int (i : Int) : Kn K H (.int i) (.type "int")
  | str (x : Str) : Kn K H (.str x) (.type "str")
  | tup {a : Addr} {xs : List V} (h : SqT K H a xs) : Kn K H (.ref a) (.type "tuple")
  | ins {a C dx : Addr} {fs : List (Str × V)} (h : H a = some (.ins C dx fs)) : Kn K H (.ref a) (.ref C)
section
variable {X : Cx} {pins : List (Addr × Obj)} {σ : L2.St} {H : Hp} {s : Shared}
theorem kn_looks {x : V} {u t : Value} (I : Inv X pins σ H s) (rx : RelV x u) (k : Kn X.K H x t) : PySem.W.Looks (model X.prog X.w) s.heap (typeOf u) t := by
  cases k with
  | non =>
    cases rx
    exact PySem.W.Looks.of_pure rfl
  | int i =>
    obtain ⟨t, rfl⟩ := rx
    exact PySem.W.Looks.of_pure rfl
  | str x =>
    obtain ⟨t, rfl⟩ := rx
    exact PySem.W.Looks.of_pure rfl
  | tup h =>
    cases rx
    obtain ⟨its, r, ⟨o, ho, hc, n, hd⟩, _⟩ := I.tuple h
    exact fun A Q E s k q => wpAny_typeOf_ref (k _ _ ho) (by rw [hc]; exact q)
  | ins h =>
    cases rx
    obtain ⟨mA, J, _⟩ := ins_get I.hok h
    obtain ⟨od, J, _⟩ := J.look
    exact J.type
/-- a def of a class, called with values -/
theorem own_call {n : Nat} {f : Addr} {fd : FuncData} {ps : List Str} {sp : Sp} {A : Around} {us : List Value} {vs : List V} {Q : VK} {E : Value → Shared → Prop} (F : FnOk X.prog X.w X.K X.mg X.base CX0 n f fd ps sp) (hb : Binds X.K fd ps []) (hr : Room n A) (hf : A.frames = X.A.frames)
    (I : Inv X pins σ H s) (r : Vals vs us) (h : sp vs H Q E0) : wpAny (model X.prog X.w) A (call (.ref f) us) (fun v s' => ∃ z H', Inv X pins σ H' s' ∧ RelV z v ∧ Q z H') E s := by
  have e0 : Env0 X.prog X.w X.K X.mg X.base A X.stack s H := by
    have e := I.env0
    exact ⟨by rw [hf]; exact e.frames, e.mod, e.bs, e.bsz, e.funs, e.frf, e.hok, e.bare⟩
  have hl := F.len _ _ _ _ h
  refine wpAny_call (codeAny_mono (F.run A X.stack s H ⟨us, []⟩ us vs Q E0 hr e0 (by
    have := hb s us I.kIn (by rw [List.append_nil, ← r.length]; exact hl)
    simpa using this) r h) fun r s' hq => ?_)
  cases r with
  | error e => exact False.elim hq
  | ok fl =>
    cases fl with
    | ret w =>
      obtain ⟨z, H', I', rz, q⟩ := I.after hq
      exact ⟨z, H', I', rz, q⟩
    | next => exact False.elim hq
    | brk => exact False.elim hq
    | cont => exact False.elim hq
end
/-- one of a class's own defs, by a special name -/
structure Du (P : Program) (w : World) (K : PySem.W.Frag) (mg : Str → Option Value) (base : Heap) (C : Addr) (m : Str) (k : Nat) (ps : List Str) (sp : Sp) : Prop where
  ex : ∃ (f : Addr) (fd : FuncData), PySem.W.findIn K (.ref C) m = some (some (.ref f)) ∧ PySem.W.isFn K (.ref f) = true ∧ PySem.W.fnIn K f = true ∧ Binds K fd ps [] ∧ FnOk P w K mg base CX0 k f fd ps sp
def rLenO (C : Addr) (sp : Sp) : List V → Hp → VK → Prop := fun xs H Q => ∃ a dx fs, xs = [.ref a] ∧ H a = some (.ins C dx fs) ∧ sp [.ref a] H (fun v H' => ∃ i : Int, v = .int i ∧ 0 ≤ i ∧ i < 2 ^ 62 ∧ Q (.int i) H') E0
def rStrO (C : Addr) (sp : Sp) : List V → Hp → VK → Prop := fun xs H Q => ∃ a dx fs, xs = [.ref a] ∧ H a = some (.ins C dx fs) ∧ sp [.ref a] H (fun v H' => ∃ y, v = .str y ∧ Q (.str y) H') E0
def rIxO (C : Addr) (sp : Sp) : R2 := fun x y H Q => ∃ a dx fs, x = .ref a ∧ H a = some (.ins C dx fs) ∧ sp [.ref a, y] H Q E0
def rEqO (K : PySem.W.Frag) (C : Addr) (sp : Sp) : R2 := fun x y H Q => ∃ a dx fs tb, x = .ref a ∧ H a = some (.ins C dx fs) ∧ Kn K H y tb ∧ PySem.W.notFirst K C tb = true ∧ sp [.ref a, y] H (fun v H' => ∃ k, v = .bl k ∧ Q (.bl k) H') E0
def rNeO (K : PySem.W.Frag) (C : Addr) (sp : Sp) : R2 := fun x y H Q => ∃ a dx fs tb, x = .ref a ∧ H a = some (.ins C dx fs) ∧ Kn K H y tb ∧ PySem.W.notFirst K C tb = true ∧ sp [.ref a, y] H (fun v H' => ∃ k, v = .bl k ∧ Q (.bl (!k)) H') E0
section
variable {X : Cx} {C : Addr} {k j : Nat} {ps : List Str} {sp : Sp}
theorem units_of {A : Around} {n : Nat} (hr : Room n A) : A.units < cLine := by have := hr.un; omega
theorem call_lenO (d : Du X.prog X.w X.K X.mg X.base C "__len__" k ps sp) (hr : Room (k + 1) X.A) : CallR X (.builtin "len") (rLenO C sp) := by
  intro pins s σ H xs us Q I r h
  obtain ⟨a, dx, fs, rfl, ha, q⟩ := h
  obtain ⟨u, rfl, rx⟩ := vals1 r
  cases rx
  obtain ⟨f, fd, hs, hf, hf2, hb, F⟩ := d.ex
  obtain ⟨mA, J, _⟩ := ins_get I.hok ha
  obtain ⟨od, J, _⟩ := J.look
  obtain ⟨m, hF⟩ := I.fr
  refine PySem.W.len_K hF I.ok.mod.kin J hs hf (wpAny_mono (own_call (vs := [.ref a]) F hb hr.in1 rfl I (.cons rfl .nil) q) (fun v s' hq => ?_) fun _ _ z => z)
  obtain ⟨z, H', I', rz, i, rfl, i0, i1, q⟩ := hq
  obtain ⟨t, rfl⟩ := rz
  refine ⟨⟨i0, by omega⟩, .int i, H', I'.tok _, ⟨_, rfl⟩, q⟩
theorem call_reprO (d : Du X.prog X.w X.K X.mg X.base C "__repr__" k ps sp) (hr : Room (k + 1) X.A) : CallR X (.builtin "repr") (rStrO C sp) := by
  intro pins s σ H xs us Q I r h
  obtain ⟨a, dx, fs, rfl, ha, q⟩ := h
  obtain ⟨u, rfl, rx⟩ := vals1 r
  cases rx
  obtain ⟨f, fd, hs, hf, hf2, hb, F⟩ := d.ex
  obtain ⟨mA, J, _⟩ := ins_get I.hok ha
  obtain ⟨od, J, _⟩ := J.look
  obtain ⟨m, hF⟩ := I.fr
  refine PySem.W.repr_K (units_of hr.in1) hF I.ok.mod.kin J hs hf (wpAny_mono (own_call (vs := [.ref a]) F hb hr.in1 rfl I (.cons rfl .nil) q) (fun v s' hq => ?_) fun _ _ z => z)
  obtain ⟨z, H', I', rz, y, rfl, q⟩ := hq
  obtain ⟨t, rfl⟩ := rz
  exact ⟨.str y, H', I', ⟨_, rfl⟩, q⟩
theorem call_strO (d : Du X.prog X.w X.K X.mg X.base C "__str__" k ps sp) (hr : Room (k + 2) X.A) : CallR X (.type "str") (rStrO C sp) := by
  intro pins s σ H xs us Q I r h
  obtain ⟨a, dx, fs, rfl, ha, q⟩ := h
  obtain ⟨u, rfl, rx⟩ := vals1 r
  cases rx
  obtain ⟨f, fd, hs, hf, hf2, hb, F⟩ := d.ex
  obtain ⟨mA, J, _⟩ := ins_get I.hok ha
  obtain ⟨od, J, _⟩ := J.look
  refine PySem.W.kso_call (units_of hr.in1.in1) I.kIn J hs hf (wpAny_mono (own_call (vs := [.ref a]) F hb hr.in1.in1 rfl I (.cons rfl .nil) q) (fun v s' hq => ?_) fun _ _ z => z)
  obtain ⟨z, H', I', rz, y, rfl, q⟩ := hq
  obtain ⟨t, rfl⟩ := rz
  exact ⟨.str y, H', I', ⟨_, rfl⟩, q⟩
theorem op_eqO (d : Du X.prog X.w X.K X.mg X.base C "__eq__" k ps sp) (hr : Room k X.A) : OpR X (compareOp .Eq) (rEqO X.K C sp) := by
  intro pins s σ H x y v u Q I rx ry h
  obtain ⟨a, dx, fs, tb, rfl, ha, kn, nf, q⟩ := h
  cases rx
  obtain ⟨f, fd, hs, hf, hf2, hb, F⟩ := d.ex
  obtain ⟨mA, J, _⟩ := ins_get I.hok ha
  obtain ⟨od, J, _⟩ := J.look
  obtain ⟨m, hF⟩ := I.fr
  show wpAny (model X.prog X.w) X.A (richCompare .Eq (.ref a) u) _ _ _
  refine PySem.W.cmp_K (op := .Eq) (units_of hr) hF I.ok.mod.kin J (kn_looks I ry kn) nf hs hf (wpAny_mono (own_call (vs := [.ref a, y]) F hb hr rfl I (.cons rfl (.cons ry .nil)) q) (fun v s' hq => ?_) fun _ _ z => z)
  obtain ⟨z, H', I', rz, k, rfl, q⟩ := hq
  cases rz
  exact ⟨.bl k, H', I', rfl, q⟩
theorem op_neO (d : Du X.prog X.w X.K X.mg X.base C "__eq__" k ps sp) (hr : Room (k + 1) X.A) (hm : PySem.W.mroIn X.K C (.type "object") = some true) (hn : PySem.W.findIn X.K (.ref C) "__ne__" = some (some (.builtin "object.__ne__"))) : OpR X (compareOp .NotEq) (rNeO X.K C sp) := by
  intro pins s σ H x y v u Q I rx ry h
  obtain ⟨a, dx, fs, tb, rfl, ha, kn, nf, q⟩ := h
  cases rx
  obtain ⟨f, fd, hs, hf, hf2, hb, F⟩ := d.ex
  obtain ⟨mA, J, _⟩ := ins_get I.hok ha
  obtain ⟨od, J, _⟩ := J.look
  show wpAny (model X.prog X.w) X.A (richCompare .NotEq (.ref a) u) _ _ _
  refine PySem.W.hs_ne (units_of hr) (units_of hr.in1) I.kIn J (kn_looks I ry kn) nf hm hn hs hf (wpAny_mono (own_call (vs := [.ref a, y]) F hb hr.in1 rfl I (.cons rfl (.cons ry .nil)) q) (fun v s' hq => ?_) fun _ _ z => z)
  obtain ⟨z, H', I', rz, k, rfl, q⟩ := hq
  cases rz
  exact ⟨k, rfl, .bl (!k), H', I', rfl, q⟩
theorem pe_ixO {e i : Expr} {te ti : TE} {pos : Pos} (d : Du X.prog X.w X.K X.mg X.base C "__getitem__" k ps sp) (hr : Room (k + 1) X.A) (he : PE X e te) (hi : PE X i ti)
    (hsl : ∀ (x : Addr) (u : Value), subscripted i true (.ref x) u = runValue (.builtin "lifetime.subscript" ⟨[.ref x, u], []⟩)) : PE X (.Subscript e i pos) (tOp (rIxO C sp) te ti) := by
  refine ⟨fun pins s σ H Q I h => ?_⟩
  refine Subscript_ (binT he hi I h fun v u s2 x y H2 I2 rx ry q => ?_)
  obtain ⟨a, dx, fs, rfl, ha, q⟩ := q
  cases rx
  obtain ⟨f, fd, hs, hf, hf2, hb, F⟩ := d.ex
  obtain ⟨mA, J, _⟩ := ins_get I2.hok ha
  obtain ⟨od, J, _⟩ := J.look
  obtain ⟨m, hF⟩ := I2.fr
  exact PySem.W.sub_K hF I2.ok.mod.kin J hs hf2 hf (wpAny_mono (own_call (vs := [.ref a, y]) F hb hr.in1 rfl I2 (.cons rfl (.cons ry .nil)) q) (fun v s' hq => hq) fun _ _ z => z) (hsl _ _)
end
end Hs

set_option maxHeartbeats 4000000
/-! Shape's own len, [], str, repr, ==. -/
namespace Hs
open PySem PySem.Spec PyProof.Rows L2 Evl Hc
def spLen (K : PySem.W.Frag) (C : Addr) : Sp := fun vs H Q _ => ∃ a dx fs p xs, vs = [.ref a] ∧ H a = some (.ins C dx fs) ∧ fs.lookup ("_parts" : Str) = some (.ref p) ∧ SqT K H p xs ∧ ∀ H', Ex H H' → Q (.int (xs.length : Int)) H'
def spGet (K : PySem.W.Frag) (C : Addr) : Sp := fun vs H Q _ => ∃ a dx fs p xs i v, vs = [.ref a, .int i] ∧ H a = some (.ins C dx fs) ∧ fs.lookup ("_parts" : Str) = some (.ref p) ∧ SqT K H p xs ∧ atI xs i = some v ∧ ∀ H', Ex H H' → Q v H'
def spStr (C : Addr) : Sp := fun vs H Q _ => ∃ a dx fs L, vs = [.ref a] ∧ H a = some (.ins C dx fs) ∧ fs.lookup ("text" : Str) = some (.str (S L)) ∧ L.length ≤ cap ∧ ∀ H', Ex H H' → Q (.str (S L)) H'
def wrapR (L : List Nat) : List Nat := ([83, 104, 97, 112, 101, 40] ++ L) ++ [41]
def spRepr (C : Addr) : Sp := fun vs H Q _ => ∃ a dx fs L, vs = [.ref a] ∧ H a = some (.ins C dx fs) ∧ fs.lookup ("text" : Str) = some (.str (S L)) ∧ L.length ≤ cap ∧ ∀ H', Ex H H' → Q (.str (S (wrapR L))) H'
def spEq1 (K : PySem.W.Frag) (C : Addr) : Sp := fun vs H Q _ => ∃ a dx fs L y, vs = [.ref a, y] ∧ H a = some (.ins C dx fs) ∧ fs.lookup ("text" : Str) = some (.str (S L)) ∧
  ((∃ b dy gs M, y = .ref b ∧ H b = some (.ins C dy gs) ∧ gs.lookup ("text" : Str) = some (.str (S M)) ∧ ∀ H', Ex H H' → Q (.bl (decide (L = M))) H') ∨
   (∃ t, (∀ H1, Ex H H1 → TyX K H1 y t) ∧ PySem.W.kitOne K t (.ref C) = some false ∧ ∀ H', Ex H H' → Q (.bl false) H'))
theorem ev_lenT {K : PySem.W.Frag} {σ : L2.St} {H : Hp} {te : TE} {p : Addr} {xs : List V} (h : Ev te σ H (.ref p)) (hx : SqT K H p xs) : Ev (tCB (rLenS K) (tCons te tNil)) σ H (.int (xs.length : Int)) := fun H1 e Q q => h H1 e _ fun H2 e2 => ⟨p, xs, rfl, .inr (ex_t (e.trans e2) hx), q H2 e2⟩
theorem ev_fmt {σ : L2.St} {H : Hp} {te : TE} {y : Str} (h : Ev te σ H (.str y)) (hz : y.length ≤ sizeLine) : Ev (tFmt te) σ H (.str y) := fun H1 e Q q => h H1 e _ fun H2 e2 => .inl ⟨y, rfl, hz, q H2 e2⟩
abbrev mLen : Stmt := inClass cShape 3
abbrev mGet : Stmt := inClass cShape 4
abbrev mEq : Stmt := inClass cShape 6
abbrev mStr : Stmt := inClass cShape 7
abbrev mRepr : Stmt := inClass cShape 8
theorem scLen : FnScope ["self"] ["self"] (defScope mLen) := ⟨rfl, rfl, rfl, by decide +kernel, rfl, by decide +kernel, by decide +kernel⟩
theorem scGet : FnScope ["self", "at"] ["self", "at"] (defScope mGet) := ⟨rfl, rfl, rfl, by decide +kernel, rfl, by decide +kernel, by decide +kernel⟩
theorem scEq : FnScope ["self", "other"] ["self", "other"] (defScope mEq) := ⟨rfl, rfl, rfl, by decide +kernel, rfl, by decide +kernel, by decide +kernel⟩
theorem scStr : FnScope ["self"] ["self"] (defScope mStr) := ⟨rfl, rfl, rfl, by decide +kernel, rfl, by decide +kernel, by decide +kernel⟩
theorem scRepr : FnScope ["self"] ["self"] (defScope mRepr) := ⟨rfl, rfl, rfl, by decide +kernel, rfl, by decide +kernel, by decide +kernel⟩
section
variable {P : Program} {w : World} {K : PySem.W.Frag} {mg : Str → Option Value} {base : Heap} {f C : Addr} {fd : FuncData} {k : Nat}
theorem ok_len (F : Fun K "__len__" "Shape.__len__" mLen f fd) (T : TxtS mg) (c : ShC K C) : FnOk P w K mg base CX0 (k + 1) f fd ["self"] (spLen K C) := by
  refine F.ok scLen (fun vs H Q E h => ?_) (fun cdv A outer s H vs Q E hr h => ?_)
  · obtain ⟨a, dx, fs, p, xs, rfl, _⟩ := h
    rfl
  · obtain ⟨a, dx, fs, p, xs, rfl, ha, hl, hp, q⟩ := h
    refine ⟨_, pss_one (ps_ret (pe_callB call_len_seq (by rfl) T.len PySem.boot_len (pa_cons (pe_fld (pv 0) (by rfl)) pa_nil))), ?_⟩
    exact s_ret (ev_lenT (ev_fld (ev_var rfl) ha c.cl c.nP hl) hp) q
theorem ok_get (F : Fun K "__getitem__" "Shape.__getitem__" mGet f fd) (T : TxtS mg) (c : ShC K C) : FnOk P w K mg base CX0 (k + 1) f fd ["self", "at"] (spGet K C) := by
  refine F.ok scGet (fun vs H Q E h => ?_) (fun cdv A outer s H vs Q E hr h => ?_)
  · obtain ⟨a, dx, fs, p, xs, i, v, rfl, _⟩ := h
    rfl
  · obtain ⟨a, dx, fs, p, xs, i, v, rfl, ha, hl, hp, hv, q⟩ := h
    refine ⟨_, pss_one (ps_ret (pe_ix ix_tup (pe_fld (pv 0) (by rfl)) (pv 1) (fun _ _ => rfl))), ?_⟩
    exact s_ret (ev_op (ev_fld (ev_var rfl) ha c.cl c.nP hl) (ev_var rfl) (rv_ixT hp hv)) q
theorem ok_str (F : Fun K "__str__" "Shape.__str__" mStr f fd) (T : TxtS mg) (c : ShC K C) : FnOk P w K mg base CX0 (k + 1) f fd ["self"] (spStr C) := by
  refine F.ok scStr (fun vs H Q E h => ?_) (fun cdv A outer s H vs Q E hr h => ?_)
  · obtain ⟨a, dx, fs, L, rfl, _⟩ := h
    rfl
  · obtain ⟨a, dx, fs, L, rfl, ha, hl, hc, q⟩ := h
    refine ⟨_, pss_one (ps_ret (pe_joined1 (pe_fmt (pe_fld (pv 0) (by rfl))))), ?_⟩
    exact s_ret (ev_fmt (ev_fld (ev_var rfl) ha c.cl c.nT hl) (by rw [S_len]; exact cap_line hc)) q
theorem ok_repr (F : Fun K "__repr__" "Shape.__repr__" mRepr f fd) (T : TxtS mg) (c : ShC K C) : FnOk P w K mg base CX0 (k + 1) f fd ["self"] (spRepr C) := by
  refine F.ok scRepr (fun vs H Q E h => ?_) (fun cdv A outer s H vs Q E hr h => ?_)
  · obtain ⟨a, dx, fs, L, rfl, _⟩ := h
    rfl
  · obtain ⟨a, dx, fs, L, rfl, ha, hl, hc, q⟩ := h
    refine ⟨_, pss_one (ps_ret (pe_joined (.cons pe_str (.cons (pe_fmt (pe_fld (pv 0) (by rfl))) (.cons pe_str .nil))))), ?_⟩
    have e0 : (Str.empty ++ S [83, 104, 97, 112, 101, 40]) = S [83, 104, 97, 112, 101, 40] := TL.ext_tl (by rw [TL.tl_append]; rfl)
    have hL : L.length ≤ 30000 := hc
    refine ⟨S [83, 104, 97, 112, 101, 40], rfl, by rw [e0]; decide, ?_⟩
    refine ev_fmt (ev_fld (ev_var rfl) ha c.cl c.nT hl) (by rw [S_len]; exact cap_line hc) H (Ex.refl H) _ fun H1 e1 => ?_
    refine ⟨S L, rfl, ?_, S [41], rfl, ?_, ?_⟩
    · rw [e0, S_cat, S_len]
      exact sz_of (by simp; omega)
    · rw [e0, S_cat, S_cat, S_len]
      exact sz_of (by simp; omega)
    · have z := q H1 e1
      unfold wrapR at z
      show Q (.str (((Str.empty ++ S [83, 104, 97, 112, 101, 40]) ++ S L) ++ S [41])) H1
      rw [e0, S_cat, S_cat]
      exact z
theorem ok_eq (F : Fun K "__eq__" "Shape.__eq__" mEq f fd) (T : TxtS mg) (c : ShC K C) (g : mg "Shape" = some (.ref C)) (hk : PySem.W.kitOne K (.ref C) (.ref C) = some true) : FnOk P w K mg base CX0 (k + 1) f fd ["self", "other"] (spEq1 K C) := by
  refine F.ok scEq (fun vs H Q E h => ?_) (fun cdv A outer s H vs Q E hr h => ?_)
  · obtain ⟨a, dx, fs, L, y, rfl, _⟩ := h
    rfl
  · obtain ⟨a, dx, fs, L, y, rfl, ha, hl, h⟩ := h
    refine ⟨_, pss_one (ps_ret (pe_and (pe_callB call_isi (by rfl) T.isi boot_isinstance (pa_cons (pv 1) (pa_cons (pe_glob (v := .ref C) (by rfl) g rfl) pa_nil))) (pe_one (pe_cmpR op_eq (pe_fld (pv 0) (by rfl)) (pe_fld (pv 1) (by rfl)) (nomark _))))), ?_⟩
    rcases h with ⟨b, dy, gs, M, rfl, hb, hm, q⟩ | ⟨t, ht, hn, q⟩
    · refine s_ret (Evl.ev_is (ev_andV (a := true) (ev_isi (ev_var rfl) ev_c (.own C) (fun H1 e => .base (.ins (e _ _ hb) c.cl c.ha c.hn c.htk c.hm)) hk) fun _ => ev_eqS (ev_fld (ev_var rfl) ha c.cl c.nT hl) (ev_fld (ev_var rfl) hb c.cl c.nT hm)) (by rw [Bool.true_and])) q
    · refine s_ret (Evl.ev_is (ev_andV (a := false) (b := false) (ev_isi (ev_var rfl) ev_c (.own C) ht hn) fun z => nomatch z) rfl) q
end
end Hs

set_option maxHeartbeats 4000000
/-! The law's drawn trees. -/
namespace Hs
open PySem PySem.Spec PyProof.Rows L2 Evl Hc
def spTree (K : PySem.W.Frag) (m : Nat) : Sp := fun vs H Q _ => ∃ (st g sm : Addr) (room : Int), vs = [.ref st, .int ((m + 1 : Nat) : Int), .int room] ∧ DrawSt H st g sm ∧ 1 ≤ room ∧ room ≤ 5 ∧
  ∀ (t : Tre (m + 1)) (v : V) (H' : Hp), TrV K (m + 1) t v H' → slim (m + 1) t = true → ((lsts (m + 1) t : Nat) : Int) ≤ room → Hc.Ext (Dr st g) H H' → DrawSt H' st g sm → Q v H'
theorem nl_draw {H H' : Hp} {st g sm : Addr} (d : DrawSt H st g sm) (e : Hc.Ext (Dr st g) H H') : NL H H' := fun b o h n => by
  obtain ⟨gs, ss, a, z, a1, a2, a3, r⟩ := d
  refine e b o h ?_
  rintro (e | e)
  · rw [e, a1] at h
    exact n.1 _ (Option.some.inj h).symm
  · rw [e, a2] at h
    exact n.1 _ (Option.some.inj h).symm
structure TxtT (mg : Str → Option Value) : Prop extends TxtF mg where
  rng : mg "range" = none
abbrev nTree : List Str := ["_law_state", "_law_floors", "_law_room", "_law_items", "_law_left", "_law_turn"]
theorem scTree : FnScope nTree ["_law_state", "_law_floors", "_law_room"] (defScope sTree) := ⟨rfl, rfl, rfl, by decide +kernel, rfl, by decide +kernel, by decide +kernel⟩
section
variable {P : Program} {w : World} {K : PySem.W.Frag} {mg : Str → Option Value} {base : Heap}
/-- what the loop of _law_tree keeps -/
def IvT (K : PySem.W.Frag) (m : Nat) (H : Hp) (st g sm p : Addr) (room : Int) (i : Nat) (σ : L2.St) (H' : Hp) : Prop := ∃ (ts : List (Tre m)) (xs : List V) (lf : Int) (v5 : Option V), σ = [some (.ref st), some (.int ((m + 1 : Nat) : Int)), some (.int room), some (.ref p), some (.int lf), v5] ∧
  H' p = some (.lst xs) ∧ All2 (fun t v H => TrV K m t v H) ts xs H' ∧ ts.length = i ∧ (∀ t ∈ ts, slim m t = true) ∧ 0 ≤ lf ∧ lf + (((ts.map (lsts m)).sum : Nat) : Int) = room - 1 ∧ Hc.Ext (Dr st g) H H' ∧ DrawSt H' st g sm
def D0 : Ends := ⟨fun _ _ => False, fun _ _ => False, fun _ _ => False, fun _ _ => False⟩
theorem sum_snoc (l : List Nat) (x : Nat) : (l ++ [x]).sum = l.sum + x := by simp
theorem ok_tree1 {f : Addr} {fd : FuncData} {k m : Nat} {spP : Sp} (F : Fun K "_law_tree" "_law_tree" sTree f fd) (T : TxtT mg) (rD : Rd P w K mg base "_law_draw" k ["_law_state", "_law_many"] spDraw) (rL : Rd P w K mg base "_law_lists" k ["_law_tree_here"] (spLists K m))
    (rT : Rd P w K mg base "_law_tree" k ["_law_state", "_law_floors", "_law_room"] spP) (hm : m ≤ 2) (hc : m = 0 ∨ ∃ j, m = j + 1 ∧ spP = spTree K j) : FnOk P w K mg base CX0 (k + 1) f fd ["_law_state", "_law_floors", "_law_room"] (spTree K m) := by
  refine F.ok scTree (fun vs H Q E h => ?_) (fun cdv A outer s H vs Q E hr h => ?_)
  · obtain ⟨st, g, sm, room, rfl, _⟩ := h
    rfl
  · obtain ⟨st, g, sm, room, rfl, hd, room1, room5, q⟩ := h
    refine ⟨_, pss_cons (ps_set (i := 3) scTree.nd rfl (.inl rfl) (pe_lst pa_nil)) (pss_cons (ps_set (i := 4) scTree.nd rfl (.inl rfl) (pe_op op_sub (pv 2) pe_int))
      (pss_cons (ps_for PassesOwn.never rfl (pi_range1 (by rfl) T.rng (pa_cons (pe_op op_add pe_int (pe_rd rD hr (Nat.le_refl _) (by rfl) (pa_cons (pv 0) (pa_cons pe_int pa_nil)))) pa_nil)) (pg_name (i := 5) scTree.nd rfl (.inl rfl))
        (pss_one (ps_if (PW.pt (pw_and (pt_cmpR op_gt (pv 1) pe_int (nomark _)) (pw_and (pt_cmpR op_gt (pv 4) pe_int (nomark _)) (pw_and1 (pt_truth (pe_rd rD hr (Nat.le_refl _) (by rfl) (pa_cons (pv 0) (pa_cons pe_int pa_nil))) (by intro _; rfl))))))
          (pss_cons (ps_expr (pe_bm PySem.F.plainAttrs_list PySem.F.slot_list_append PySem.F.type_list_append mt_append (pv 3) (pa_cons (pe_rd rT hr (Nat.le_refl _) (by rfl) (pa_cons (pv 0) (pa_cons (pe_op op_sub (pv 1) pe_int) (pa_cons (pv 4) pa_nil)))) pa_nil)))
            (pss_one (ps_aug (i := 4) scTree.nd rfl (.inl rfl) (pe_rd rL hr (Nat.le_refl _) (by rfl) (pa_cons (pe_ix ix_list (pv 3) (pe_un un_neg pe_int) (fun _ _ => rfl)) pa_nil)) ip_sub)))
          (pss_one (ps_expr (pe_bm PySem.F.plainAttrs_list PySem.F.slot_list_append PySem.F.type_list_append mt_append (pv 3) (pa_cons (pe_tup pa_nil) pa_nil)))))))
      (pss_one (ps_ret (pe_callTy call_tuple_of (by rfl) T.tup boot_tuple (pa_cons (pv 3) pa_nil)))))), ?_⟩
    refine ⟨Nat.zero_le _, fun p np => ?_⟩
    have off := hd.off np
    refine q_asg (ev_op (ev_var rfl) ev_c rv_I0) fun H1 f1 => ?_
    have d1 : DrawSt H1 st g sm := (hd.put off).same f1
    have e1 : Hc.Ext (Dr st g) H H1 := (Hc.Ext.new np).trans (Hc.Ext.same f1)
    have p1 := f1 _ _ upd_same
    refine ⟨_, rfl, st, g, sm, 3, rfl, d1, by decide, by decide, fun r H2 r0 r3 e2 d2 => ?_⟩
    have p2 := e2 _ _ p1 (dr_off off)
    refine ⟨1, r, rfl, rfl, ?_⟩
    refine ⟨1 + r, rfl, by omega, by omega, for_range (lo := 0) (n := (1 + r).toNat) (IvT K m H st g sm p room) ?_ ?_ ?_⟩
    · exact ⟨[], [], room - 1, none, rfl, p2, All2.nil, rfl, (fun t h => by cases h), by omega, by simp, e1.trans e2, d2⟩
    · rintro i σ H3 hi ⟨ts, xs, lf, v5, rfl, p3, al, hlen, hsl, lf0, hsum, e3, d3⟩
      have hi3 : i < 3 := by omega
      have hxl : xs.length < 100000 := by rw [al.1]; omega
      -- a value that is appended, told by its tree
      have nxt : ∀ (t : Tre m) (v : V) (H5 : Hp) (lf' : Int), TrV K m t v H5 → slim m t = true → 0 ≤ lf' → lf' + ((lsts m t : Nat) : Int) = lf → NL H3 H5 → H5 p = some (.lst (xs ++ [v])) → Hc.Ext (Dr st g) H H5 → DrawSt H5 st g sm →
          IvT K m H st g sm p room (i + 1) [some (.ref st), some (.int ((m + 1 : Nat) : Int)), some (.int room), some (.ref p), some (.int lf'), some (.int (0 + (i : Int)))] H5 := by
        intro t v H5 lf' hv hs l0 l1 n5 p5 e5 d5
        refine ⟨ts ++ [t], xs ++ [v], lf', _, rfl, p5, (al.ex (fun t => trV_mon m t) n5).snoc hv, by rw [List.length_append, hlen]; rfl, fun u hu => ?_, l0, ?_, e5, d5⟩
        · rcases List.mem_append.mp hu with hu | hu
          · exact hsl u hu
          · rw [List.mem_singleton.mp hu]
            exact hs
        · rw [List.map_append, List.map_singleton, sum_snoc]
          omega
      -- items.append(())
      have els : ∀ (D : Ends) H4, Hc.Ext (Dr st g) H3 H4 → DrawSt H4 st g sm → tDrop (tBM K "list" rAppend (tVar 3) (tCons (tTup tNil) tNil)) { D with nx := IvT K m H st g sm p room (i + 1) }
          [some (.ref st), some (.int ((m + 1 : Nat) : Int)), some (.int room), some (.ref p), some (.int lf), some (.int (0 + (i : Int)))] H4 := by
        intro D H4 e4 d4
        have p4 := e4 _ _ p3 (dr_off off)
        refine s_appU p4 (ev_var rfl) (eu_tup ea_nil (Nat.zero_le _)) hxl fun u H5 nu e5 hu => ?_
        have p5 := e5 _ _ p4
        have d5 := d4.same e5
        have o5 : p ≠ st ∧ p ≠ g ∧ p ≠ sm := off
        have nt : ¬ u = p := fun z => by rw [z, p4] at nu; cases nu
        have np5 : NL H5 (upd H5 p (.lst (xs ++ [.ref u]))) := NL.put p5
        have e6 : Hc.Ext (Dr st g) H (upd H5 p (.lst (xs ++ [.ref u]))) := ((e3.trans e4).trans (Hc.Ext.same e5)).puts np
        exact nxt (leaf m) (.ref u) _ lf (leaf_V (SqT.of ((upd_ne nt).trans hu)) m) (slim_leaf m) lf0 (by rw [lsts_leaf]; omega) (((nl_draw d3 e4).trans (NL.ex e5)).trans np5) upd_same e6 (d5.put o5)
      refine et_test (ev_op (ev_var rfl) ev_c rv_I0) H3 (Ex.refl H3) _ fun H4 f4 => ?_
      have e4 : Hc.Ext (Dr st g) H3 H4 := Hc.Ext.same f4
      have d4 := d3.same f4
      rcases hc with rfl | ⟨j, rfl, rfl⟩
      · exact iteF (iteF (els D0 H4 e4 d4))
      · rw [show decide ((1 : Int) < ((j + 1 + 1 : Nat) : Int)) = true from decide_eq_true (by omega)]
        refine iteT ?_
        refine et_test (ev_op (ev_var rfl) ev_c rv_I0) H4 (Ex.refl H4) _ fun H5 f5 => ?_
        have e5 := e4.trans (Hc.Ext.same (S := Dr st g) f5)
        have d5 := d4.same f5
        by_cases hlf : (0 : Int) < lf
        · rw [decide_eq_true hlf]
          refine iteT ⟨_, rfl, st, g, sm, 2, rfl, d5, by decide, by decide, fun r2 H6 r20 r22 e6 d6 => ?_⟩
          have e6' := e5.trans e6
          refine ⟨(r2 != 0), rfl, ?_⟩
          refine ite2 (fun _ => ?_) (fun _ => els D0 H6 e6' d6)
          have p6 := e6' _ _ p3 (dr_off off)
          refine ⟨_, rfl, .inl ⟨rfl, _, SqL.of p6⟩, ?_⟩
          refine ⟨_, rfl, _, rfl, ((j + 1 + 1 : Nat) : Int), 1, rfl, rfl, _, rfl, st, g, sm, lf, by
            show [V.ref st, V.int (((j + 1 + 1 : Nat) : Int) - 1), V.int lf] = _
            rw [show (((j + 1 + 1 : Nat) : Int) - 1) = ((j + 1 : Nat) : Int) by omega], d6, by omega, by omega, fun t v H7 hv hs hl e7 d7 => ?_⟩
          have p7 := e7 _ _ p6 (dr_off off)
          refine ⟨p, xs, v, rfl, rfl, p7, sz_lt hxl, ?_⟩
          have p8 : (upd H7 p (.lst (xs ++ [v]))) p = some (.lst (xs ++ [v])) := upd_same
          have d8 : DrawSt (upd H7 p (.lst (xs ++ [v]))) st g sm := d7.put off
          have n7 : NL H7 (upd H7 p (.lst (xs ++ [v]))) := NL.put p7
          have n8 := ((nl_draw d3 e6').trans (nl_draw d6 e7)).trans n7
          have e8 : Hc.Ext (Dr st g) H (upd H7 p (.lst (xs ++ [v]))) := ((e3.trans e6').trans e7).puts np
          have v8 := trV_mon (j + 1) t v _ _ n7 hv
          generalize upd H7 p (.lst (xs ++ [v])) = K8 at p8 d8 n8 e8 v8 ⊢
          refine s_aug (f := fun i j => i - j) (a := lf) (b := ((lsts (j + 1) t : Nat) : Int)) rfl (ev_call (ea_cons (ev_op (ev_var rfl) (ev_un ev_c ru_neg) (rv_ixL (SqL.of p8) (atI_last xs v))) ea_nil) (sp_lists v8 hs)) fun H9 f9 => ?_
          exact nxt t v H9 _ (trV_ex v8 f9) hs (by omega) (by omega) (n8.trans (NL.ex f9)) (f9 _ _ p8) (e8.trans (Hc.Ext.same f9)) (d8.same f9)
        · rw [decide_eq_false hlf]
          exact iteF (iteF (els D0 H5 e5 d5))
    · rintro σ H3 ⟨ts, xs, lf, v5, rfl, p3, al, hlen, hsl, lf0, hsum, e3, d3⟩
      refine ⟨_, rfl, p, xs, rfl, .inl ⟨SqL.of p3, fun u nu => ?_⟩⟩
      have hts : ts.length ≤ 3 := by omega
      refine q ts (.ref u) _ ⟨u, xs, rfl, SqT.of upd_same, al.ex (fun t => trV_mon m t) (NL.ex (Ex.new nu))⟩ ((slim_iff m ts).mpr ⟨hts, hsl⟩) ?_ (e3.trans (Hc.Ext.new nu)) (d3.put (d3.off nu))
      have hl : lsts (m + 1) ts ≤ 1 + (ts.map (lsts m)).sum := by
        match ts with
        | [] => exact Nat.zero_le _
        | x :: l => exact Nat.le_refl _
      omega
theorem rd_tree {f : Addr} {fd : FuncData} (F : Fun K "_law_tree" "_law_tree" sTree f fd) (g : mg "_law_tree" = some (.ref f)) (b : Binds K fd ["_law_state", "_law_floors", "_law_room"] []) (T : TxtT mg) (rD : Rd P w K mg base "_law_draw" 1 ["_law_state", "_law_many"] spDraw)
    (rL : ∀ n, n ≤ 3 → Rd P w K mg base "_law_lists" (1 + n) ["_law_tree_here"] (spLists K n)) : ∀ m, m ≤ 2 → Rd P w K mg base "_law_tree" (5 + m) ["_law_state", "_law_floors", "_law_room"] (spTree K m)
  | 0, h => ⟨f, fd, g, F.kp, b, (ok_tree1 F T (rD.mono (by decide)) (rL 0 (by omega)) (rd_no F g b 1) h (.inl rfl)).mono (by decide)⟩
  | m + 1, h => ⟨f, fd, g, F.kp, b, ok_tree1 F T (rD.mono (show 1 ≤ 5 + m by omega)) ((rL (m + 1) (by omega)).mono (show 1 + (m + 1) ≤ 5 + m by omega)) (rd_tree F g b T rD rL m (by omega)) h (.inr ⟨m, rfl, rfl⟩)⟩
end
end Hs

set_option maxHeartbeats 4000000
/-! for i, x in enumerate(a tuple). -/
namespace Hs
open PySem PySem.Spec PyProof.Rows L2
set_option maxHeartbeats 1000000 in
theorem meets_enum1 {v : Value} {o : Obj} {H : Heap → Prop} (B : Begins v o H) :
    Meets (Builtin.«enumerate.__new__» ⟨[.type "enumerate", v], []⟩) (fun _ R s => H s.heap ∧
      R (.ok (.ret (.ref (s.heap.push o).objs.size))) { s with heap := (s.heap.push o).push { cls := .type "enumerate", data := .fields #[.none, .bool false, .ref s.heap.objs.size, rawInt 0, .none, .none] } }) :=
  .of_wp fun prog w A R s h => by
    obtain ⟨hp, g, d, tk, os⟩ := s; obtain ⟨h1, h⟩ := h
    have hsub := sub_enumerate
    have q1 : ∀ {A' : Around} {E : Value → Shared → Prop} {Q : Value → Shared → Prop}, Q (.ref hp.objs.size) ⟨hp.push o, g, d, tk, os⟩ → wpAny (model prog w) A' (pyIter v) Q E ⟨hp, g, d, tk, os⟩ :=
      fun q => B.iter prog w _ _ ⟨hp, g, d, tk, os⟩ _ h1 q
    wp_walk using q1
    refine wpAny_stack_any fun st => wpAny_pure ?_
    split
    · rename_i c _ _ _ _ _
      cases (c == Value.type "enumerate")
      · wp_walk using q1
        exact ⟨_, rfl, h⟩
      · wp_walk using q1
        exact ⟨_, rfl, h⟩
    · wp_walk using q1
      exact ⟨_, rfl, h⟩
section
variable {prog : Program} {w : World} {A : Around} {E : Value → Shared → Prop} {s : Shared}
theorem call_enum1 {v : Value} {o : Obj} {H : Heap → Prop} {Q : Value → Shared → Prop} (B : Begins v o H) (h1 : H s.heap)
    (h : ∀ h', IsEnum h' (s.heap.objs.size + 1) s.heap.objs.size 0 .none → h'.get? s.heap.objs.size = some o → h'.objs.size = s.heap.objs.size + 2 →
      (∀ b o, s.heap.get? b = some o → h'.get? b = some o) → Q (.ref (s.heap.objs.size + 1)) { s with heap := h' }) :
    wpAny (model prog w) A (call (.type "enumerate") [v]) Q E s := by
  refine callType_new F.called_enumerate (by decide) (F.typeCall_enumerate_1 _) (F.newCall_enumerate_1 _) (fun obj => F.args_object_init_2 obj _) F.entry_enumerate_new
    (meets_enum1 B) ⟨h1, ?_⟩
  have hz : (s.heap.push o).objs.size = s.heap.objs.size + 1 := Heap.size_push ..
  show _ ∧ _
  rw [hz]
  have he : IsEnum ((s.heap.push o).push { cls := .type "enumerate", data := .fields #[.none, .bool false, .ref s.heap.objs.size, rawInt 0, .none, .none] }) (s.heap.objs.size + 1) s.heap.objs.size 0 .none := by
    have := Heap.get?_push_size (s.heap.push o) (o := { cls := .type "enumerate", data := .fields #[.none, .bool false, .ref s.heap.objs.size, rawInt 0, .none, .none] }) rfl
    rw [hz] at this; exact this
  refine ⟨⟨_, he, rfl⟩, h _ he (Heap.get?_push_of_some _ (Heap.get?_push_size _ B.free)) (by rw [Heap.size_push, hz]) fun b o x => Heap.get?_push_of_some _ (Heap.get?_push_of_some _ x)⟩
end
def ItenT (K : PySem.W.Frag) (a : Addr) (xs : List V) : It :=
  ⟨fun i H => i < xs.length ∧ SqT K H a xs, fun i H v H' => ∃ T x, v = .ref T ∧ H T = none ∧ H' = upd H T (.tup [.int (i : Nat), x]) ∧ xs[i]? = some x, fun i H => xs.length ≤ i ∧ SqT K H a xs⟩
theorem turn_enumT {P : Program} {w : World} {K : PySem.W.Frag} {elts : List Expr} {kk : Nat} {tpos : Pos} (a : Addr) (xs : List V) (e it : Addr) :
    Turn P w K (.Tuple elts kk tpos) (ItenT K a xs) [e, it] e (fun i h => (∃ old, IsEnum h e it ((i : Nat) : Int) old) ∧ h.IsTupleIter it a i ∧ e ≠ it ∧ e ≠ a ∧ it ≠ a ∧ i ≤ xs.length) where
  mem := by simp
  obj := fun i h st b hb => by
    obtain ⟨⟨old, he⟩, ⟨o, ho, hc, hd⟩, _⟩ := st
    have e' : b = e ∨ b = it := by simpa using hb
    rcases e' with z | z
    · rw [z]; exact ⟨_, he, fun v q => nomatch q⟩
    · rw [z]; exact ⟨o, ho, fun v q => by rw [hd] at q; cases q⟩
  keep := fun i h h' st k => by
    obtain ⟨⟨old, he⟩, ht, hne⟩ := st
    exact ⟨⟨old, k e (by simp) _ he⟩, ht.at fun o q => k it (by simp) o q, hne⟩
  item := by
    intro X hP hw hK hc i pins s σ H E I hf st hg
    subst hP hw hK
    obtain ⟨⟨old, he⟩, hit, hne, hea, hia, _⟩ := st
    obtain ⟨hlt, hq⟩ := hg
    obtain ⟨its, rv, tp, hz⟩ := I.tuple hq
    have hlen := rv.length
    have hel : e < s.heap.objs.size := Heap.lt_size he
    have hil : it < s.heap.objs.size := by obtain ⟨_, q, _⟩ := hit; exact Heap.lt_size q
    have hd : X.A.in1.handled = none := I.ok.hd hc
    have W := Draws.tuple (prog := X.prog) (w := X.w) hd it a (Ne.symm hia) its.toArray
    refine wpAny_pyNext_enum_itemD W he ⟨hit, tp⟩ (by rw [List.size_toArray]; omega) hne (by simp [hne, hea]) fun u h' tk hu ho hit' hT hsz hk => ?_
    have hu' : its[i]? = some u := by simpa using hu
    obtain ⟨x, hx, ru⟩ : ∃ x, xs[i]? = some x ∧ RelV x u := by
      obtain ⟨u', hu2, ru⟩ := rv.get (List.getElem?_eq_getElem hlt)
      rw [hu'] at hu2
      cases Option.some.inj hu2
      exact ⟨_, List.getElem?_eq_getElem hlt, ru⟩
    refine ⟨_, rfl, wpAny_letOwnedTupleGo_enum (s := { s with heap := h', toks := tk + 1 }) ho fun h'' he' sb => ?_⟩
    have hT2 : h''.get? s.heap.objs.size = some { cls := .type "tuple", data := .seq #[.int i tk, u] } := (sb.2 _ (Nat.ne_of_gt hel)).trans hT
    have new : ObjOk X.prog X.w (upd H s.heap.objs.size (.tup [.int (i : Nat), x])) h'' s.heap.objs.size (.tup [.int (i : Nat), x]) :=
      ⟨by show 2 ≤ sizeLine; decide, [.int i tk, u], .cons ⟨_, rfl⟩ (.cons ru .nil), ⟨_, hT2, rfl, _, rfl⟩⟩
    have I1 : Inv X pins σ (upd H s.heap.objs.size (.tup [.int (i : Nat), x])) { s with heap := h'', toks := tk + 1 } :=
      I.turnedNew (ch := [e, it]) (fun b ob hb q => (sb.2 b (fun z => hb (by simp [z]))).trans (hk b ob (fun z => hb (by simp [z])) (fun z => hb (by simp [z])) q)) hf (Nat.le_refl _) new
    refine ⟨.ref s.heap.objs.size, _, I1, rfl, ⟨_, x, rfl, I.hok.fresh (Nat.le_refl _), rfl, hx⟩, ⟨⟨u, ?_⟩, hit'.1.at fun o q => (sb.2 it (Ne.symm hne)).trans q, hne, hea, hia, hlt⟩, fun b hb => ?_⟩
    · have e1 : ((i + 1 : Nat) : Int) = (i : Int) + 1 := by omega
      rw [e1]; exact he'
    · have hb' : b < s.heap.objs.size := by
        have e' : b = e ∨ b = it := by simpa using hb
        rcases e' with z | z
        · rw [z]; exact hel
        · rw [z]; exact hil
      rw [upd_ne (Nat.ne_of_lt hb')]
      exact (hf b hb).1
  done := by
    intro X hP hw hK hc i pins s σ H E I hf st hg
    subst hP hw hK
    obtain ⟨⟨old, he⟩, hit, hne, hea, hia, hle⟩ := st
    obtain ⟨hge, hq⟩ := hg
    have ei : i = xs.length := Nat.le_antisymm hle hge
    subst ei
    obtain ⟨its, rv, tp, hz⟩ := I.tuple hq
    have hlen := rv.length
    obtain ⟨f0, f1, f2, f3, f4, f5⟩ := hf it (by simp)
    have hd : X.A.in1.handled = none := I.ok.hd hc
    have W := Draws.tuple (prog := X.prog) (w := X.w) hd it a (Ne.symm hia) its.toArray
    have hn : its.toArray.size = xs.length := by rw [List.size_toArray, hlen]
    rw [hn] at W
    exact wpAny_pyNext_enum_endD W he ⟨hit, tp⟩ fun h' eb => ⟨rfl, I.turned (t' := s.toks) (fun b o hb q => eb b o hb q) f0 f1 f3 f4 f5⟩
  self := fun A i s Q E st h => let ⟨⟨_, he⟩, _⟩ := st; wpAny_pyIter_enum he h
def iEnumT (K : PySem.W.Frag) (ta : TA) : TI := fun σ H R => ta σ H fun vs H1 => ∃ a xs, vs = [.ref a] ∧ SqT K H1 a xs ∧ R (ItenT K a xs) H1
theorem pi_enumT {X : Cx} {e : Expr} {ta : TA} {p pos tpos : Pos} {elts : List Expr} {kk : Nat} (hg : Gl X "enumerate") (hm : X.mg "enumerate" = none) (ha : PA X [e] ta) (hs : starEach [e] X.env = [(false, eval e X.env)] := by rfl) :
    PI X (.Tuple elts kk tpos) (.Call (.Name "enumerate" p) [e] [] pos) (iEnumT X.K ta) := by
  refine ⟨fun pins s σ H R I h => ?_⟩
  refine Call_ (ld_blt I hg hm boot_enumerate (PyProof.Rows.callWith_type1 (thn (ha.run pos pins s σ H _ I h) fun us s1 ⟨vs, H1, I1, r1, q1⟩ => ?_) hs rfl))
  obtain ⟨a, xs, ex, hq, q⟩ := q1
  subst ex
  cases r1 with
  | cons r rr =>
    cases rr
    cases r
    obtain ⟨its, rv, tp, hz⟩ := I1.tuple hq
    have hal : a < s1.heap.objs.size := by obtain ⟨_, z, _⟩ := id tp; exact Heap.lt_size z
    refine call_enum1 (begins_tuple a its.toArray) tp fun h' he hit hsz hk => wpAny_pyIter_enum he ?_
    have I2 : Inv X pins σ H1 { s1 with heap := h' } := I1.kept (t' := s1.toks) hk
    refine ⟨s1.heap.objs.size + 1, [s1.heap.objs.size + 1, s1.heap.objs.size], _, _, H1, rfl, I2, turn_enumT a xs (s1.heap.objs.size + 1) s1.heap.objs.size, ⟨⟨.none, he⟩, ⟨_, hit, rfl, rfl⟩, Nat.succ_ne_self _, Nat.ne_of_gt (Nat.lt_succ_of_lt hal), Nat.ne_of_gt hal, Nat.zero_le _⟩, fun b hb => ?_, q⟩
    have e' : b = s1.heap.objs.size + 1 ∨ b = s1.heap.objs.size := by simpa using hb
    have hle : s1.heap.objs.size ≤ b := by
      rcases e' with z | z
      · rw [z]; exact Nat.le_add_right _ _
      · rw [z]; exact Nat.le_refl _
    exact I1.fpOk hle (I1.hok.fresh hle)
/-- a for over enumerate(a tuple) -/
theorem for_enumT {K : PySem.W.Frag} {a : Addr} {xs : List V} {g : TG} {tb : TS} {D : Ends} {σ : L2.St} {H : Hp} (Pv : Nat → L2.St → Hp → Prop) (h0 : Pv 0 σ H) (hl : ∀ i σ H, Pv i σ H → SqT K H a xs)
    (hs : ∀ i x T σ H, xs[i]? = some x → Pv i σ H → H T = none → g (.ref T) σ (upd H T (.tup [.int (i : Nat), x])) fun σ2 H2 => tb { D with nx := Pv (i + 1), ct := Pv (i + 1), bk := D.nx } σ2 H2) (hd : ∀ σ H, Pv xs.length σ H → D.nx σ H) :
    ∃ W : Nat → Nat → L2.St → Hp → Prop, (∃ m, W 0 m σ H) ∧ ∀ i m σ H, W i m σ H →
      ((ItenT K a xs).stop i H ∧ D.nx σ H) ∨ ((ItenT K a xs).go i H ∧ ∃ N : L2.St → Hp → Prop, (∀ σ' H', N σ' H' → ∃ m', m' < m ∧ W (i + 1) m' σ' H') ∧ ∀ v H', (ItenT K a xs).yld i H v H' → g v σ H' fun σ2 H2 => tb { D with nx := N, ct := N, bk := D.nx } σ2 H2) := by
  refine ⟨fun i m σ H => m = xs.length - i ∧ i ≤ xs.length ∧ Pv i σ H, ⟨xs.length, by simp, Nat.zero_le _, h0⟩, ?_⟩
  rintro i m σ H ⟨rfl, hi, p⟩
  by_cases hlt : i < xs.length
  · refine .inr ⟨⟨hlt, hl i σ H p⟩, Pv (i + 1), fun σ' H' p' => ⟨xs.length - (i + 1), by omega, rfl, hlt, p'⟩, fun v H' y => ?_⟩
    obtain ⟨T, x, rfl, nT, rfl, hx⟩ := y
    exact hs i x T σ H hx p nT
  · have e : i = xs.length := by omega
    subst e
    exact .inl ⟨⟨Nat.le_refl _, hl _ σ H p⟩, hd σ H p⟩
end Hs

set_option maxHeartbeats 8000000
/-! One tree's shape is as it should be. -/
namespace Hs
open PySem PySem.Spec PyProof.Rows L2 Evl Hc
abbrev sWhole : Stmt := top 20
abbrev sRight : Stmt := top 21
abbrev sLaw : Stmt := top 22
structure TxtR (mg : Str → Option Value) : Prop extends TxtT mg where
  int : mg "int" = none
  bool : mg "bool" = none
  repr : mg "repr" = none
def spWhole : Sp := fun vs H Q _ => ∃ a b : Int, vs = [.int a, .int b] ∧ ∀ H', Ex H H' → Q (.bl (decide (a = b))) H'
theorem sp_whole {H : Hp} {a b : Int} : SpV spWhole ([.int a, .int b] ++ []) H (.bl (decide (a = b))) := fun H1 e Q q E => ⟨a, b, rfl, q⟩
theorem scWhole : FnScope ["_law_number", "_law_due"] ["_law_number", "_law_due"] (defScope sWhole) := ⟨rfl, rfl, rfl, by decide +kernel, rfl, by decide +kernel, by decide +kernel⟩
theorem boot_boolT : bootBuiltins "bool" = some (.type "bool") := by decide +kernel
theorem boot_intT : bootBuiltins "int" = some (.type "int") := by decide +kernel
theorem boot_repr : bootBuiltins "repr" = some (.builtin "repr") := by decide +kernel
structure EnvR (P : Program) (w : World) (K : PySem.W.Frag) (mg : Str → Option Value) (base : Heap) (C : Addr) : Prop where
  T : TxtR mg
  c : ShC K C
  g : mg "Shape" = some (.ref C)
  hk : PySem.W.kitOne K (.ref C) (.ref C) = some true
  hne : PySem.W.findIn K (.ref C) "__ne__" = some (some (.builtin "object.__ne__"))
  rT : ∀ n, n ≤ 3 → Rd P w K mg base "_law_text" (1 + n) ["_law_tree_here"] (spText K n)
  rD : ∀ n, n ≤ 3 → Rd P w K mg base "_law_depth" (1 + n) ["_law_tree_here"] (spDepth K n)
  rL : ∀ n, n ≤ 3 → Rd P w K mg base "_law_lists" (1 + n) ["_law_tree_here"] (spLists K n)
  rM : ∀ n, n ≤ 3 → Rm P w K mg base "Shape" C (8 + 2 * n) ["self", "text"] (spInit K C n)
  rW : Rd P w K mg base "_law_whole" 1 ["_law_number", "_law_due"] spWhole
  pD : Pr P w K mg base C "depth" "_depth" 1
  pL : Pr P w K mg base C "lists" "_lists" 1
  dLen : Du P w K mg base C "__len__" 1 ["self"] (spLen K C)
  dGet : Du P w K mg base C "__getitem__" 1 ["self", "at"] (spGet K C)
  dStr : Du P w K mg base C "__str__" 1 ["self"] (spStr C)
  dRepr : Du P w K mg base C "__repr__" 1 ["self"] (spRepr C)
  dEq : Du P w K mg base C "__eq__" 1 ["self", "other"] (spEq1 K C)
theorem EnvR.mk' {P : Program} {w : World} {K : PySem.W.Frag} {mg : Str → Option Value} {base : Heap} {C : Addr} (E : EnvR P w K mg base C) (n : Nat) (h : n ≤ 3) : Rm P w K mg base "Shape" C 14 ["self", "text"] (spInit K C n) := (E.rM n h).mono (by omega)
section
variable {P : Program} {w : World} {K : PySem.W.Frag} {mg : Str → Option Value} {base : Heap} {C : Addr} {f : Addr} {fd : FuncData}
theorem ok_whole {k : Nat} (F : Fun K "_law_whole" "_law_whole" sWhole f fd) (T : TxtR mg) : FnOk P w K mg base CX0 (k + 1) f fd ["_law_number", "_law_due"] spWhole := by
  refine F.ok scWhole (fun vs H Q E h => ?_) (fun cdv A outer s H vs Q E hr h => ?_)
  · obtain ⟨a, b, rfl, _⟩ := h
    rfl
  · obtain ⟨a, b, rfl, q⟩ := h
    refine ⟨_, pss_one (ps_ret (pe_and (pe_callB call_isi (by rfl) T.isi boot_isinstance (pa_cons (pv 0) (pa_cons (pe_bltn (v := .ty "int") (by rfl) T.int boot_intT rfl) pa_nil)))
      (pe_and (pe_not (pe_callB call_isi (by rfl) T.isi boot_isinstance (pa_cons (pv 0) (pa_cons (pe_bltn (v := .ty "bool") (by rfl) T.bool boot_boolT rfl) pa_nil)))) (pe_one (pe_cmpR op_eq (pv 0) (pv 1) (nomark _)))))), ?_⟩
    refine s_ret (Evl.ev_is (ev_andV (ev_isi (ev_var rfl) ev_c (.ty "int") (fun _ _ => .base (.int _)) (kit_ty rfl)) fun _ => ev_andV (ev_notV (ev_isi (ev_var rfl) ev_c (.ty "bool") (fun _ _ => .base (.int _)) (kit_ty (r := false) (by decide +kernel)))) fun _ => ev_eqI (ev_var rfl) (ev_var rfl)) (by rfl)) q
end
/-! ### readings of a shape -/
section
variable {K : PySem.W.Frag} {C : Addr} {σ : L2.St} {H : Hp} {te ti ta tb : TE}
/-- an object of the class with that text -/
def Tx (C : Addr) (L : List Nat) (v : V) (H : Hp) : Prop := ∃ a dx fs, v = .ref a ∧ H a = some (.ins C dx fs) ∧ fs.lookup ("text" : Str) = some (.str (S L))
theorem shV_tx {n : Nat} {t : Tre n} {v : V} (h : ShV K C n t v H) : Tx C (txt n t) v H := by
  obtain ⟨xs, ⟨a, dx, p, hv, ha, _⟩, _⟩ := (shV_iff n t v H).mp h
  exact ⟨a, dx, _, hv, ha, rfl⟩
theorem Tx.ex {L : List Nat} {v : V} {H' : Hp} (h : Tx C L v H) (e : Ex H H') : Tx C L v H' := by
  obtain ⟨a, dx, fs, h1, h2, h3⟩ := h
  exact ⟨a, dx, fs, h1, e _ _ h2, h3⟩
theorem ev_text {L : List Nat} {v : V} (c : ShC K C) (h : Tx C L v H) (hv : Ev te σ H v) : Ev (tFld K te "text") σ H (.str (S L)) := by
  obtain ⟨a, dx, fs, rfl, h2, h3⟩ := h
  exact ev_fld hv h2 c.cl c.nT h3
theorem ev_strO {L : List Nat} {v : V} (h : Tx C L v H) (hc : L.length ≤ cap) (hv : Ev te σ H v) : Ev (tCB (rStrO C (spStr C)) (tCons te tNil)) σ H (.str (S L)) := by
  obtain ⟨a, dx, fs, rfl, h2, h3⟩ := h
  exact fun H1 e Q q => hv H1 e _ fun H2 e2 => ⟨a, dx, fs, rfl, e2 _ _ (e _ _ h2), a, dx, fs, L, rfl, e2 _ _ (e _ _ h2), h3, hc, fun H' e3 => ⟨_, rfl, q H' (e2.trans e3)⟩⟩
theorem ev_reprO {L : List Nat} {v : V} (h : Tx C L v H) (hc : L.length ≤ cap) (hv : Ev te σ H v) : Ev (tCB (rStrO C (spRepr C)) (tCons te tNil)) σ H (.str (S (wrapR L))) := by
  obtain ⟨a, dx, fs, rfl, h2, h3⟩ := h
  exact fun H1 e Q q => hv H1 e _ fun H2 e2 => ⟨a, dx, fs, rfl, e2 _ _ (e _ _ h2), a, dx, fs, L, rfl, e2 _ _ (e _ _ h2), h3, hc, fun H' e3 => ⟨_, rfl, q H' (e2.trans e3)⟩⟩
theorem ev_lenO {L : List Nat} {d k : Nat} {xs : List V} {v : V} (h : ShB K C L d k xs v H) (hx : xs.length ≤ 1000) (hv : Ev te σ H v) : Ev (tCB (rLenO C (spLen K C)) (tCons te tNil)) σ H (.int (xs.length : Int)) := by
  obtain ⟨a, dx, p, rfl, h2, h3⟩ := h
  exact fun H1 e Q q => hv H1 e _ fun H2 e2 => ⟨a, dx, _, rfl, e2 _ _ (e _ _ h2), a, dx, _, p, xs, rfl, e2 _ _ (e _ _ h2), rfl, ex_t (e.trans e2) h3, fun H' e3 => ⟨_, rfl, by omega, by omega, q H' (e2.trans e3)⟩⟩
theorem ev_ixO {L : List Nat} {d k : Nat} {xs : List V} {v u : V} {i : Int} (h : ShB K C L d k xs v H) (hi : atI xs i = some u) (hv : Ev te σ H v) (hj : Ev ti σ H (.int i)) : Ev (tOp (rIxO C (spGet K C)) te ti) σ H u := by
  obtain ⟨a, dx, p, rfl, h2, h3⟩ := h
  exact ev_op hv hj fun H1 e Q q => ⟨a, dx, _, rfl, e _ _ h2, a, dx, _, p, xs, i, u, rfl, e _ _ h2, rfl, ex_t e h3, hi, q⟩
theorem ev_depO {L : List Nat} {d k : Nat} {xs : List V} {v : V} (h : ShB K C L d k xs v H) (hv : Ev te σ H v) : Ev (tProp C (getSp C "_depth") [] E0 te) σ H (.int (d : Int)) := by
  obtain ⟨a, dx, p, rfl, h2, h3⟩ := h
  exact ev_prop hv h2 rfl
theorem ev_lstO {L : List Nat} {d k : Nat} {xs : List V} {v : V} (h : ShB K C L d k xs v H) (hv : Ev te σ H v) : Ev (tProp C (getSp C "_lists") [] E0 te) σ H (.int (k : Int)) := by
  obtain ⟨a, dx, p, rfl, h2, h3⟩ := h
  exact ev_prop hv h2 rfl
theorem nf_own : PySem.W.notFirst K C (.ref C) = true := by simp [PySem.W.notFirst]
theorem Tx.kn {L : List Nat} {v : V} (h : Tx C L v H) : Kn K H v (.ref C) := by
  obtain ⟨a, dx, fs, rfl, h2, h3⟩ := h
  exact .ins h2
/-- o != p, both of the class, the second made just then -/
theorem ev_neR {L M : List Nat} {v : V} (h : Tx C L v H) (hv : Ev ta σ H v) (hb : EvR tb σ H (Tx C M)) : Ev (tOp (rNeO K C (spEq1 K C)) ta tb) σ H (.bl (!decide (L = M))) := fun H1 e Q q =>
  hv H1 e _ fun H2 e2 => hb H2 (e.trans e2) _ fun u H3 e3 hu => by
    obtain ⟨a, dx, fs, rfl, h2, h3⟩ := (h.ex (e.trans e2)).ex e3
    obtain ⟨b, dy, gs, rfl, g2, g3⟩ := hu
    exact ⟨a, dx, fs, .ref C, rfl, h2, .ins g2, nf_own, a, dx, fs, L, .ref b, rfl, h2, h3, .inl ⟨b, dy, gs, M, rfl, g2, g3, fun H' e4 => ⟨_, rfl, q H' ((e2.trans e3).trans e4)⟩⟩⟩
theorem EvR.imp {R R' : V → Hp → Prop} (h : EvR te σ H R) (k : ∀ v H, R v H → R' v H) : EvR te σ H R' := fun H1 e Q q => h H1 e Q fun v H2 e2 r => q v H2 e2 (k v H2 r)
theorem ShB.ex {L : List Nat} {d k : Nat} {xs : List V} {v : V} {H' : Hp} (h : ShB K C L d k xs v H) (e : Ex H H') : ShB K C L d k xs v H' := shB_mon v H H' (NL.ex e) h
end
end Hs

set_option maxHeartbeats 8000000
namespace Hs
open PySem PySem.Spec PyProof.Rows L2 Evl Hc
def spRight (K : PySem.W.Frag) : Sp := fun vs H Q _ => ∃ (v : V) (t : Tre 3), vs = [v] ∧ TrV K 3 t v H ∧ slim 3 t = true ∧ lsts 3 t ≤ 5 ∧ ∀ H', Ex H H' → Q (.bl true) H'
abbrev nRight : List Str := ["_law_tree_here", "_law_text_here", "_law_made", "_law_at", "_law_item"]
theorem scRight : FnScope nRight ["_law_tree_here"] (defScope sRight) := ⟨rfl, rfl, rfl, by decide +kernel, rfl, by decide +kernel, by decide +kernel⟩
theorem joinL_mem {s : List Nat} : ∀ (l : List (List Nat)) (c : Nat), c ∈ TL.joinL s l → c ∈ s ∨ ∃ p ∈ l, c ∈ p
  | [], c, h => by cases h
  | [p], c, h => .inr ⟨p, List.mem_cons_self, h⟩
  | p :: q :: r, c, h => by
    rw [joinL_cons] at h
    rcases List.mem_append.mp h with h | h
    · exact .inr ⟨p, List.mem_cons_self, h⟩
    · rcases List.mem_append.mp h with h | h
      · exact .inl h
      · rcases joinL_mem (q :: r) c h with h | ⟨p', hp, hc⟩
        · exact .inl h
        · exact .inr ⟨p', List.mem_cons_of_mem _ hp, hc⟩
theorem txt_small : ∀ (n : Nat) (t : Tre n), ∀ c ∈ txt n t, c < 128
  | 0, _, c, h => by rw [List.mem_singleton.mp h]; decide
  | n + 1, [], c, h => by rw [List.mem_singleton.mp h]; decide
  | n + 1, x :: l, c, h => by
    rw [txt_cons] at h
    rcases List.mem_cons.mp h with h | h
    · rw [h]; decide
    · rcases List.mem_append.mp h with h | h
      · rcases joinL_mem _ c h with h | ⟨p, hp, hc⟩
        · have : c = 44 ∨ c = 32 := by simpa using h
          omega
        · obtain ⟨y, _, rfl⟩ := List.mem_map.mp hp
          exact txt_small n y c hc
      · rw [List.mem_singleton.mp h]; decide
theorem str_ok (n : Nat) (t : Tre n) : PyData.strOk (S (txt n t)) = true := by
  unfold PyData.strOk
  rw [← Array.all_toList]
  exact List.all_eq_true.mpr fun c hc => decide_eq_true (Nat.lt_trans (txt_small n t c hc) (by decide))
theorem at_lt {α : Type} (l : List α) {i : Nat} (h : i < l.length) : ∃ u, l[i]? = some u := ⟨_, List.getElem?_eq_getElem h⟩
theorem txt_ne (n : Nat) : ∀ (l : List (Tre n)) {i : Nat} {u : Tre n}, l[i]? = some u → txt (n + 1) l ≠ [46]
  | [], _, _, h => by simp at h
  | x :: l, _, _, _ => txt_dot
theorem q_asgR {σ : L2.St} {H : Hp} {D : Ends} {te : TE} {tz : TS} {i : Nat} {R : V → Hp → Prop} (h : EvR te σ H R) (k : ∀ v H1, Ex H H1 → R v H1 → tz D (σ.set i (some v)) H1) : tSeq (tAsg te (gName i)) tz D σ H := h H (Ex.refl H) _ fun v H1 e r => k v H1 e r
section
variable {P : Program} {w : World} {K : PySem.W.Frag} {mg : Str → Option Value} {base : Heap} {C : Addr} {f : Addr} {fd : FuncData}
theorem ok_right (F : Fun K "_law_right" "_law_right" sRight f fd) (N : EnvR P w K mg base C) : FnOk P w K mg base CX0 16 f fd ["_law_tree_here"] (spRight K) := by
  refine F.ok scRight (fun vs H Q E h => ?_) (fun cdv A outer s H vs Q E hr h => ?_)
  · obtain ⟨v, t, rfl, _⟩ := h
    rfl
  · obtain ⟨v, t, rfl, ht, hs, hl5, q⟩ := h
    have T := N.T
    have r2 : Room 2 _ := hr.mono (by decide)
    have r3 : Room 3 _ := hr.mono (by decide)
    refine ⟨_, pss_cons (ps_set (i := 1) scRight.nd rfl (.inl rfl) (pe_rd (N.rT 3 (by decide)) hr (by decide) (by rfl) (pa_cons (pv 0) pa_nil)))
      (pss_cons (ps_set (i := 2) scRight.nd rfl (.inr rfl) (pe_rm (N.mk' 3 (by decide)) hr (by decide) (by rfl) (pa_cons (pv 1) pa_nil)))
      (pss_cons (ps_if (PW.pt (pw_or (pt_cmpR op_ne (pe_fld (pv 2) (by rfl)) (pv 1) (nomark _)) (pw_or (pt_cmpR op_ne (pe_callTy (call_strO N.dStr r3) (by rfl) T.str boot_strT (pa_cons (pv 2) pa_nil)) (pv 1) (nomark _))
          (pw_or1 (pt_cmpR op_ne (pe_callB (call_reprO N.dRepr r2) (by rfl) T.repr boot_repr (pa_cons (pv 2) pa_nil)) (pe_op op_add_str (pe_op op_add_str pe_str (pv 1)) pe_str) (nomark _)))))) (pss_one (ps_ret pe_bl)) pss_nil)
      (pss_cons (ps_if (PW.pt (pw_or (pt_not (pt_val (pe_rd N.rW hr (by decide) (by rfl) (pa_cons (pe_pr N.pD N.c.cl hr (by decide) (pv 2)) (pa_cons (pe_rd (N.rD 3 (by decide)) hr (by decide) (by rfl) (pa_cons (pv 0) pa_nil)) pa_nil)))))
          (pw_or1 (pt_not (pt_val (pe_rd N.rW hr (by decide) (by rfl) (pa_cons (pe_pr N.pL N.c.cl hr (by decide) (pv 2)) (pa_cons (pe_rd (N.rL 3 (by decide)) hr (by decide) (by rfl) (pa_cons (pv 0) pa_nil)) pa_nil)))))))) (pss_one (ps_ret pe_bl)) pss_nil)
      (pss_cons (ps_if (pt_not (pt_val (pe_rd N.rW hr (by decide) (by rfl) (pa_cons (pe_callB (call_lenO N.dLen r2) (by rfl) T.len PySem.boot_len (pa_cons (pv 2) pa_nil)) (pa_cons (pe_callB call_len_seq (by rfl) T.len PySem.boot_len (pa_cons (pv 0) pa_nil)) pa_nil))))) (pss_one (ps_ret pe_bl)) pss_nil)
      (pss_cons (ps_for PassesOwn.never rfl (pi_enumT (by rfl) T.enu (pa_cons (pv 0) pa_nil)) (pg_tup (by rfl) (pgs_cons (pg_name (i := 3) scRight.nd rfl (.inl rfl)) (pgs_cons (pg_name (i := 4) scRight.nd rfl (.inl rfl)) pgs_nil)))
        (pss_cons (ps_if (PW.pt (pw_or (pt_not (pt_val (pe_callB call_isi (by rfl) T.isi boot_isinstance (pa_cons (pe_ixO N.dGet r2 (pv 2) (pv 3) (fun _ _ => by with_unfolding_all rfl)) (pa_cons (pe_glob (v := .ref C) (by rfl) N.g rfl) pa_nil)))))
            (pw_or (pt_cmpR op_ne (pe_fld (pe_ixO N.dGet r2 (pv 2) (pv 3) (fun _ _ => by with_unfolding_all rfl)) (by rfl)) (pe_rd (N.rT 2 (by decide)) hr (by decide) (by rfl) (pa_cons (pv 4) pa_nil)) (nomark _))
            (pw_or1 (pt_cmpR (op_neO N.dEq r2 N.c.hm N.hne) (pe_ixO N.dGet r2 (pv 2) (pv 3) (fun _ _ => by with_unfolding_all rfl)) (pe_rm (N.mk' 2 (by decide)) hr (by decide) (by rfl) (pa_cons (pe_rd (N.rT 2 (by decide)) hr (by decide) (by rfl) (pa_cons (pv 4) pa_nil)) pa_nil)) (nomark _)))))) (pss_one (ps_ret pe_bl)) pss_nil)
        (pss_one (ps_if (PW.pt (pw_or (pt_cmpR op_ne (pe_pr N.pD N.c.cl hr (by decide) (pe_ixO N.dGet r2 (pv 2) (pv 3) (fun _ _ => by with_unfolding_all rfl))) (pe_rd (N.rD 2 (by decide)) hr (by decide) (by rfl) (pa_cons (pv 4) pa_nil)) (nomark _))
            (pw_or1 (pt_cmpR op_ne (pe_callB (call_lenO N.dLen r2) (by rfl) T.len PySem.boot_len (pa_cons (pe_ixO N.dGet r2 (pv 2) (pv 3) (fun _ _ => by with_unfolding_all rfl)) pa_nil)) (pe_callB call_len_seq (by rfl) T.len PySem.boot_len (pa_cons (pv 4) pa_nil)) (nomark _))))) (pss_one (ps_ret pe_bl)) pss_nil))))
      (pss_one (ps_ret (pe_cmpR (op_eqD hr.units) (pe_lc (own := [("_law_at", 3)]) (g := gName 3) (tt := tYes) rfl scRight.nd (pi_range1 (by rfl) T.rng (pa_cons (pe_callB (call_lenO N.dLen r2) (by rfl) T.len PySem.boot_len (pa_cons (pv 2) pa_nil)) pa_nil)) (blkOk_by (N := nRight) (sc := defScope sRight) (by decide +kernel))
          (fun _ _ _ _ _ => pg_name (i := 3) scRight.nd rfl (.inl rfl)) (fun _ _ _ _ _ => pts_nil) (fun _ _ _ _ _ => pe_callTy (call_strO N.dStr r3) (by rfl) T.str boot_strT (pa_cons (pe_ixO N.dGet r2 (pv 2) (pv 3) (fun _ _ => by with_unfolding_all rfl)) pa_nil)))
        (pe_lc (own := [("_law_item", 4)]) (g := gName 4) (tt := tYes) rfl scRight.nd (pi_tup (pv 0)) (blkOk_by (N := nRight) (sc := defScope sRight) (by decide +kernel))
          (fun _ _ _ _ _ => pg_name (i := 4) scRight.nd rfl (.inl rfl)) (fun _ _ _ _ _ => pts_nil) (fun _ _ _ _ _ => pe_rd (N.rT 2 (by decide)) hr (by decide) (by rfl) (pa_cons (pv 4) pa_nil))) (nomark _))))))))), ?_⟩
    have hcap := cap_of (n := 3) (by decide) hs
    have hc105 := txt_cap (n := 3) (by decide) hs
    refine q_asg (ev_call (ea_cons (ev_var rfl) ea_nil) (sp_text ht hs)) fun H1 f1 => ?_
    refine q_asgR (er_make t (ea_cons (ev_var rfl) ea_nil) hs hl5 hcap) fun sv H2 f2 hsv => ?_
    obtain ⟨xs, hB, hit⟩ := (shV_iff 3 t sv H2).mp hsv
    have hal : All2 (fun t v H => ShV K C 2 t v H) (t : List (Tre 2)) xs H2 := hit
    have hX := shV_tx hsv
    have ht2 := trV_ex ht (f1.trans f2)
    obtain ⟨a, ys, rfl, hys, hay⟩ := (trV_iff 3 t v H2).mp ht2
    have hyl : All2 (fun t v H => TrV K 2 t v H) (t : List (Tre 2)) ys H2 := hay
    have hsl := (slim_iff 2 t).mp hs
    have hxl : xs.length = ys.length := hal.1.trans hyl.1.symm
    have hx3 : xs.length ≤ 3 := by rw [hal.1]; exact hsl.1
    have hline : (S (txt 3 t)).length ≤ 105 := by rw [S_len]; exact hc105
    -- text, str, repr
    refine q_when (b := false) (et_is (et_or (et_test (ev_neS (ev_text N.c hX (ev_var rfl)) (ev_var rfl))) fun _ => et_or (et_test (ev_neS (ev_strO hX hcap (ev_var rfl)) (ev_var rfl))) fun _ =>
      et_test (ev_neS (b := wrapR (txt 3 t)) (ev_reprO hX hcap (ev_var rfl)) (Evl.ev_is (ev_addS (x := S [83, 104, 97, 112, 101, 40] ++ S (txt 3 t)) (y := S [41]) (ev_addS (x := S [83, 104, 97, 112, 101, 40]) ev_c (ev_var rfl) ?z1) ev_c ?z2) (by rw [S_cat, S_cat]; rfl)))) (by simp)) (fun z => nomatch z) fun _ H3 f3 => ?_
    case z1 => exact sz_of (Nat.le_trans (Nat.add_le_add (Nat.le_refl 6) hline) (by decide))
    case z2 =>
      rw [S_cat, S_len, List.length_append]
      rw [S_len] at hline
      exact sz_of (Nat.le_trans (Nat.add_le_add (Nat.add_le_add (Nat.le_refl 6) hline) (Nat.le_refl 1)) (by decide))
    -- depth, lists
    have hB3 := hB.ex f3
    have ht3 := trV_ex ht2 f3
    refine q_when (b := false) (et_is (et_or (et_not (et_B (ev_call (ea_cons (ev_depO hB3 (ev_var rfl)) (ea_cons (ev_call (ea_cons (ev_var rfl) ea_nil) (sp_depth ht3 hs)) ea_nil)) sp_whole))) fun _ =>
      et_not (et_B (ev_call (ea_cons (ev_lstO hB3 (ev_var rfl)) (ea_cons (ev_call (ea_cons (ev_var rfl) ea_nil) (sp_lists ht3 hs)) ea_nil)) sp_whole))) (by simp)) (fun z => nomatch z) fun _ H4 f4 => ?_
    -- len
    have hB4 := hB3.ex f4
    have hys4 := ex_t (f3.trans f4) hys
    refine q_when (b := false) (et_is (et_not (et_B (ev_call (ea_cons (ev_lenO hB4 (by omega) (ev_var rfl)) (ea_cons (ev_lenT (ev_var rfl) hys4) ea_nil)) sp_whole))) (by rw [hxl]; simp)) (fun z => nomatch z) fun _ H5 f5 => ?_
    have s5 := (f3.trans f4).trans f5
    have hB5 := hB4.ex f5
    have hys5 := ex_t s5 hys
    -- the items
    refine ⟨_, rfl, a, ys, rfl, hys5, ?_⟩
    refine for_enumT (K := K) (a := a) (xs := ys) (fun _ σ H' => ∃ v3 v4, σ = [some (.ref a), some (.str (S (txt 3 t))), some sv, v3, v4] ∧ Ex H5 H') ⟨none, none, rfl, Ex.refl H5⟩ (fun i σ H' p => by
      obtain ⟨_, _, _, e⟩ := p
      exact ex_t e hys5) ?_ ?_
    · rintro i y T0 σ H6 hy ⟨v3, v4, rfl, e6⟩ nT
      refine ⟨T0, _, rfl, SqT.of upd_same, rfl, .int (i : Nat), [y], rfl, y, [], rfl, rfl, ?_⟩
      have e7 : Ex H5 (upd H6 T0 (.tup [.int (i : Nat), y])) := e6.trans (Ex.new nT)
      generalize upd H6 T0 (.tup [.int (i : Nat), y]) = K0 at e7 ⊢
      have hi : i < List.length t := by rw [← hyl.1]; exact (List.getElem?_eq_some_iff.mp hy).1
      obtain ⟨u, hu⟩ := at_lt (α := Tre 2) t hi
      obtain ⟨x, hx⟩ : ∃ x, xs[i]? = some x := ⟨_, List.getElem?_eq_getElem (by rw [hal.1]; exact hi)⟩
      have hsu := hsl.2 u (List.mem_of_getElem? hu)
      have hlu : lsts 2 u ≤ 5 := by
        have e1 : txt 3 t ≠ [46] := txt_ne 2 t hu
        have e2 := lsts_kids e1
        have e3 := sum_mem (List.mem_map.mpr ⟨u, List.mem_of_getElem? hu, rfl⟩ : lsts 2 u ∈ (kids 3 t).map (lsts (3 - 1)))
        omega
      have hBk := hB5.ex e7
      have hxk : ShV K C 2 u x K0 := shV_mon 2 u x _ _ (NL.ex (s5.trans e7)) (hal.2 i u x hu hx)
      have hyk : TrV K 2 u y K0 := trV_ex (hyl.2 i u y hu hy) (s5.trans e7)
      have hXk := shV_tx hxk
      obtain ⟨zs, hBx, hix⟩ := (shV_iff 2 u x K0).mp hxk
      obtain ⟨b, ws, rfl, hws, haw⟩ := (trV_iff 2 u y K0).mp hyk
      have hzl : zs.length = ws.length := (show zs.length = List.length u from hix.1).trans (show ws.length = List.length u from haw.1).symm
      have hz3 : zs.length ≤ 3 := by rw [show zs.length = List.length u from hix.1]; exact ((slim_iff 1 u).mp hsu).1
      have ix : ∀ H' , Ex K0 H' → Ev (tOp (rIxO C (spGet K C)) (tVar 2) (tVar 3)) [some (.ref a), some (.str (S (txt 3 t))), some sv, some (.int (i : Nat)), some (.ref b)] H' x := fun H' e => ev_ixO (hBk.ex e) (atI_nat hx) (ev_var rfl) (ev_var rfl)
      have cap2 := cap_of (n := 2) (by decide) hsu
      obtain ⟨ax, dxx, fsx, rfl, hax, htx⟩ := id hXk
      refine q_when (b := false) (et_is (et_or (et_not (et_B (ev_isi (ix K0 (Ex.refl K0)) ev_c (.own C) (fun H' e => .base (.ins (e _ _ hax) N.c.cl N.c.ha N.c.hn N.c.htk N.c.hm)) N.hk))) fun _ => et_or (et_test (ev_neS (ev_text N.c hXk (ix K0 (Ex.refl K0))) (ev_call (ea_cons (ev_var rfl) ea_nil) (sp_text hyk hsu)))) fun _ =>
        et_test (ev_neR hXk (ix K0 (Ex.refl K0)) (EvR.imp (er_make u (ea_cons (ev_call (ea_cons (ev_var rfl) ea_nil) (sp_text hyk hsu)) ea_nil) hsu hlu cap2) fun v H h => shV_tx h))) (by simp)) (fun z => nomatch z) fun _ K1 g1 => ?_
      refine s_when (b := false) (et_is (et_or (et_test (ev_op (ev_depO (hBx.ex g1) (ix K1 g1)) (ev_call (ea_cons (ev_var rfl) ea_nil) (sp_depth (trV_ex hyk g1) hsu)) (rv_ne rfl))) fun _ =>
        et_test (ev_op (ev_lenO (hBx.ex g1) (by omega) (ix K1 g1)) (ev_lenT (ev_var rfl) (ex_t g1 hws)) (rv_ne rfl))) (by rw [hzl]; simp)) (fun z => nomatch z) fun _ K2 g2 => ?_
      exact ⟨_, _, rfl, (e7.trans g1).trans g2⟩
    · rintro σ H6 ⟨v3, v4, rfl, e6⟩
      have hB6 := hB5.ex e6
      have s6 := s5.trans e6
      have hyt : TrV K 3 t (.ref a) H6 := trV_ex ht2 s6
      have hn : xs.length = (kids 3 t).length := hal.1
      have hA : EvL (tLc (iRng1 (tCons (tCB (rLenO C (spLen K C)) (tCons (tVar 2) tNil)) tNil)) (gName 3) tYes (tCB (rStrO C (spStr C)) (tCons (tOp (rIxO C (spGet K C)) (tVar 2) (tVar 3)) tNil)) [3]) [some (.ref a), some (.str (S (txt 3 t))), some sv, v3, v4] H6 ((kids 3 t).map fun u => V.str (S (txt 2 u))) := by
        have z := el_lcR1 (ta := tCons (tCB (rLenO C (spLen K C)) (tCons (tVar 2) tNil)) tNil) (te := tCB (rStrO C (spStr C)) (tCons (tOp (rIxO C (spGet K C)) (tVar 2) (tVar 3)) tNil)) (t := tYes) (j := 3) (vs := [3]) (σ := [some (.ref a), some (.str (S (txt 3 t))), some sv, v3, v4]) (H := H6) (n := (xs.length : Int)) (fun _ => true) (fun i => ((kids 3 t)[i]?).elim .non fun u => V.str (S (txt 2 u)))
          (ea_cons (ev_lenO hB6 (by omega) (ev_var rfl)) ea_nil) (by omega) wipe1 (fun i H7 _ _ => et_yes) (fun i H7 e7 hi _ => by
            have hi' : i < xs.length := by omega
            obtain ⟨u, hu⟩ := at_lt (kids 3 t) (show i < (kids 3 t).length by omega)
            obtain ⟨x, hx⟩ : ∃ x, xs[i]? = some x := ⟨_, List.getElem?_eq_getElem hi'⟩
            rw [hu]
            have hxk : ShV K C 2 u x H7 := shV_mon 2 u x _ _ (NL.ex (s6.trans e7)) (hal.2 i u x hu hx)
            exact ev_strO (shV_tx hxk) (cap_of (n := 2) (by decide) (hsl.2 u (List.mem_of_getElem? hu))) (ev_ixO (hB6.ex e7) (atI_nat hx) (ev_var rfl) (ev_var rfl)))
        refine evl_is z ?_
        unfold given
        rw [List.filter_eq_self.mpr (fun _ _ => rfl), Int.toNat_natCast, hn, range_opt]
      have hBB : EvL (tLc (iTup K (tVar 0)) (gName 4) tYes (tCall (spText K 2) [] E0 (tCons (tVar 4) tNil)) [4]) [some (.ref a), some (.str (S (txt 3 t))), some sv, v3, v4] H6 ((kids 3 t).map fun u => V.str (S (txt 2 u))) :=
        el_kids (n := 3) (t := t) (fun u => V.str (S (txt 2 u))) hyt hs (ev_var rfl) wipe1 (fun x y H7 e7 hx hy => ev_call (ea_cons (ev_var rfl) ea_nil) (sp_text hy (hsl.2 x hx)))
      refine s_ret (v := .bl true) (ev_opLL hA hBB fun p q H7 h7 h8 e7 => fun H8 e8 Q qq => ?_) fun H7 e7 => q H7 ((((f1.trans f2).trans s6)).trans e7)
      have dp : ∀ l : List (Tre 2), DpAll K H8 (l.map fun u => V.str (S (txt 2 u))) (l.map fun u => PyData.str (S (txt 2 u))) := by
        intro l
        induction l with
        | nil => exact .nil
        | cons u l ih => exact .cons (.str _) ih
      have lay : PyData.canLay0 (.list ((kids 3 t).map fun u => PyData.str (S (txt 2 u)))) = true := by
        unfold PyData.canLay0
        have key : ∀ l : List (Tre 2), PyData.canLayAll0 (l.map fun u => PyData.str (S (txt 2 u))) = true := by
          intro l
          induction l with
          | nil => rfl
          | cons u l ih =>
            rw [List.map_cons]
            unfold PyData.canLayAll0 PyData.canLay0
            rw [ih, Bool.and_true]
            exact str_ok 2 u
        exact key _
      have dpt : SeqAt.shaped (.list ((kids 3 t).map fun u => PyData.str (S (txt 2 u)))) = true := by
        unfold SeqAt.shaped
        rw [lay, Bool.true_and]
        have key : ∀ l : List (Tre 2), PyData.depthAll (l.map fun u => PyData.str (S (txt 2 u))) = 0 := by
          intro l
          induction l with
          | nil => rfl
          | cons u l ih =>
            rw [List.map_cons]
            unfold PyData.depthAll PyData.depth
            rw [ih]
            rfl
        refine decide_eq_true ?_
        unfold PyData.depth
        have hk := key (kids 3 t)
        show PyData.depthAll ((kids 3 t).map fun u => PyData.str (S (txt 2 u))) + 1 ≤ 64
        rw [hk]
        decide
      refine ⟨_, _, .lst (SqL.of (e8 _ _ h7)) (dp _), .lst (SqL.of (e8 _ _ h8)) (dp _), dpt, dpt, ?_⟩
      rw [SeqAt.eqv_refl _ lay]
      exact qq H8 (Ex.refl H8)
end
end Hs

set_option maxHeartbeats 8000000
namespace Hs
open PySem PySem.Spec PyProof.Rows L2 Evl Hc
/-! ### a tree with room for one floor more -/
def lift1 : (n : Nat) → Tre n → Tre (n + 1)
  | 0, _ => ([] : List (Tre 0))
  | n + 1, (l : List (Tre n)) => (l.map (lift1 n) : List (Tre (n + 1)))
theorem trV_lift {K : PySem.W.Frag} {H : Hp} : ∀ (n : Nat) (t : Tre n) (v : V), TrV K n t v H → TrV K (n + 1) (lift1 n t) v H
  | 0, _, v, h => by
    obtain ⟨a, h1, h2⟩ := h
    exact ⟨a, [], h1, h2, All2.nil⟩
  | n + 1, l, v, h => by
    obtain ⟨a, xs, h1, h2, h3⟩ := h
    refine ⟨a, xs, h1, h2, ?_⟩
    have key : ∀ (l : List (Tre n)) (xs : List V), All2 (fun t v H => TrV K n t v H) l xs H → All2 (fun t v H => TrV K (n + 1) t v H) (l.map (lift1 n)) xs H := by
      intro l xs h
      refine ⟨h.1.trans (List.length_map ..).symm, fun i u x hu hx => ?_⟩
      rw [List.getElem?_map] at hu
      cases e : l[i]? with
      | none =>
        rw [e] at hu
        cases hu
      | some y =>
        rw [e] at hu
        rw [← Option.some.inj hu]
        exact trV_lift n y x (h.2 i y x e hx)
    exact key l xs h3
theorem slim_lift : ∀ (n : Nat) (t : Tre n), slim n t = true → slim (n + 1) (lift1 n t) = true
  | 0, _, _ => rfl
  | n + 1, l, h => by
    obtain ⟨h1, h2⟩ := (slim_iff n l).mp h
    refine (slim_iff (n + 1) (List.map (lift1 n) (l : List (Tre n)))).mpr ⟨by rw [List.length_map (as := (l : List (Tre n)))]; exact h1, fun x hx => ?_⟩
    obtain ⟨y, hy, rfl⟩ := List.mem_map.mp hx
    exact slim_lift n y (h2 y hy)
theorem lsts_lift : ∀ (n : Nat) (t : Tre n), lsts (n + 1) (lift1 n t) = lsts n t
  | 0, _ => rfl
  | n + 1, [] => rfl
  | n + 1, x :: l => by
    show 1 + (((x :: l).map (lift1 n)).map (lsts (n + 1))).sum = 1 + ((x :: l).map (lsts n)).sum
    rw [List.map_map]
    congr 2
    exact List.map_congr_left fun y _ => lsts_lift n y
def spTree3 (K : PySem.W.Frag) : Sp := fun vs H Q _ => ∃ (st g sm : Addr) (fl room : Int), vs = [.ref st, .int fl, .int room] ∧ DrawSt H st g sm ∧ 1 ≤ fl ∧ fl ≤ 3 ∧ 1 ≤ room ∧ room ≤ 5 ∧
  ∀ (t : Tre 3) (v : V) (H' : Hp), TrV K 3 t v H' → slim 3 t = true → lsts 3 t ≤ 5 → Hc.Ext (Dr st g) H H' → DrawSt H' st g sm → Q v H'
section
variable {P : Program} {w : World} {K : PySem.W.Frag} {mg : Str → Option Value} {base : Heap} {C : Addr} {f : Addr} {fd : FuncData}
theorem fn_tree (F : Fun K "_law_tree" "_law_tree" sTree f fd) (g : mg "_law_tree" = some (.ref f)) (b : Binds K fd ["_law_state", "_law_floors", "_law_room"] []) (T : TxtT mg) (rD : Rd P w K mg base "_law_draw" 1 ["_law_state", "_law_many"] spDraw)
    (rL : ∀ n, n ≤ 3 → Rd P w K mg base "_law_lists" (1 + n) ["_law_tree_here"] (spLists K n)) : ∀ m, m ≤ 2 → FnOk P w K mg base CX0 (5 + m) f fd ["_law_state", "_law_floors", "_law_room"] (spTree K m)
  | 0, h => (ok_tree1 F T (rD.mono (by decide)) (rL 0 (by omega)) (rd_no F g b 1) h (.inl rfl)).mono (by decide)
  | m + 1, h => ok_tree1 F T (rD.mono (show 1 ≤ 5 + m by omega)) ((rL (m + 1) (by omega)).mono (show 1 + (m + 1) ≤ 5 + m by omega)) ⟨f, fd, g, F.kp, b, fn_tree F g b T rD rL m (by omega)⟩ h (.inr ⟨m, rfl, rfl⟩)
theorem fn_tree3 (h : ∀ m, m ≤ 2 → FnOk P w K mg base CX0 (5 + m) f fd ["_law_state", "_law_floors", "_law_room"] (spTree K m)) : FnOk P w K mg base CX0 7 f fd ["_law_state", "_law_floors", "_law_room"] (spTree3 K) := by
  have key : ∀ vs H Q E, spTree3 K vs H Q E → ∃ m, m ≤ 2 ∧ spTree K m vs H Q E := by
    rintro vs H Q E ⟨st, g, sm, fl, room, rfl, d, f1, f3, r1, r5, q⟩
    have hfl : fl = 1 ∨ fl = 2 ∨ fl = 3 := by omega
    rcases hfl with rfl | rfl | rfl
    · refine ⟨0, by decide, st, g, sm, room, rfl, d, r1, r5, fun t v H' ht hs hl e d' => q (lift1 2 (lift1 1 t)) v H' (trV_lift 2 _ v (trV_lift 1 t v ht)) (slim_lift 2 _ (slim_lift 1 t hs)) ?_ e d'⟩
      rw [lsts_lift, lsts_lift]
      have hl' : ((lsts 1 t : Nat) : Int) ≤ room := hl
      omega
    · refine ⟨1, by decide, st, g, sm, room, rfl, d, r1, r5, fun t v H' ht hs hl e d' => q (lift1 2 t) v H' (trV_lift 2 t v ht) (slim_lift 2 t hs) ?_ e d'⟩
      rw [lsts_lift]
      have hl' : ((lsts 2 t : Nat) : Int) ≤ room := hl
      omega
    · refine ⟨2, by decide, st, g, sm, room, rfl, d, r1, r5, fun t v H' ht hs hl e d' => q t v H' ht hs ?_ e d'⟩
      have hl' : ((lsts 3 t : Nat) : Int) ≤ room := hl
      omega
  refine ⟨fun vs H Q E hq => ?_, fun A outer s H args us vs Q E hr he hb hv hq => ?_⟩
  · obtain ⟨m, hm, hq⟩ := key vs H Q E hq
    exact (h m hm).len vs H Q E hq
  · obtain ⟨m, hm, hq⟩ := key vs H Q E hq
    exact ((h m hm).mono (show 5 + m ≤ 7 by omega)).run A outer s H args us vs Q E hr he hb hv hq
end
structure TxtL (mg : Str → Option Value) : Prop extends TxtR mg where
  zip : mg "zip" = none
/-- what isinstance says of others, and that no other's == comes first -/
structure Oth (K : PySem.W.Frag) (C : Addr) : Prop where
  kS : PySem.W.kitOne K (.type "str") (.ref C) = some false
  kT : PySem.W.kitOne K (.type "tuple") (.ref C) = some false
  kN : PySem.W.kitOne K (.type "NoneType") (.ref C) = some false
  kI : PySem.W.kitOne K (.type "int") (.ref C) = some false
  fS : PySem.W.notFirst K C (.type "str") = true
  fT : PySem.W.notFirst K C (.type "tuple") = true
  fN : PySem.W.notFirst K C (.type "NoneType") = true
  fI : PySem.W.notFirst K C (.type "int") = true
theorem tyx_sqT {K : PySem.W.Frag} {H : Hp} {a : Addr} {xs : List V} (h : SqT K H a xs) : TyX K H (.ref a) (.type "tuple") := by
  rcases h with (h | ⟨o, h⟩) | ⟨o, its, n, h, hc, _⟩
  · exact .base (.tup h)
  · exact .fTuple h
  · exact .kTuple h hc
section
variable {K : PySem.W.Frag} {C : Addr} {σ : L2.St} {H : Hp} {te ti ta tb : TE}
/-- o == y, o != y, y of no class of the text -/
theorem ev_eqX {L : List Nat} {v y : V} {t : Value} (h : Tx C L v H) (hv : Ev ta σ H v) (hy : Ev tb σ H y) (kn : ∀ H1, Ex H H1 → Kn K H1 y t) (ty : ∀ H1, Ex H H1 → TyX K H1 y t) (hk : PySem.W.kitOne K t (.ref C) = some false) (nf : PySem.W.notFirst K C t = true) : Ev (tOp (rEqO K C (spEq1 K C)) ta tb) σ H (.bl false) :=
  ev_op hv hy fun H1 e Q q => by
    obtain ⟨a, dx, fs, rfl, h2, h3⟩ := h.ex e
    exact ⟨a, dx, fs, t, rfl, h2, kn H1 e, nf, a, dx, fs, L, y, rfl, h2, h3, .inr ⟨t, fun H2 e2 => ty H2 (e.trans e2), hk, fun H' e4 => ⟨_, rfl, q H' e4⟩⟩⟩
theorem ev_neX {L : List Nat} {v y : V} {t : Value} (h : Tx C L v H) (hv : Ev ta σ H v) (hy : Ev tb σ H y) (kn : ∀ H1, Ex H H1 → Kn K H1 y t) (ty : ∀ H1, Ex H H1 → TyX K H1 y t) (hk : PySem.W.kitOne K t (.ref C) = some false) (nf : PySem.W.notFirst K C t = true) : Ev (tOp (rNeO K C (spEq1 K C)) ta tb) σ H (.bl true) :=
  ev_op hv hy fun H1 e Q q => by
    obtain ⟨a, dx, fs, rfl, h2, h3⟩ := h.ex e
    exact ⟨a, dx, fs, t, rfl, h2, kn H1 e, nf, a, dx, fs, L, y, rfl, h2, h3, .inr ⟨t, fun H2 e2 => ty H2 (e.trans e2), hk, fun H' e4 => ⟨_, rfl, q H' e4⟩⟩⟩
/-- .. of two of the class -/
theorem ev_eqT {L M : List Nat} {v y : V} (h : Tx C L v H) (h' : Tx C M y H) (hv : Ev ta σ H v) (hy : Ev tb σ H y) : Ev (tOp (rEqO K C (spEq1 K C)) ta tb) σ H (.bl (decide (L = M))) :=
  ev_op hv hy fun H1 e Q q => by
    obtain ⟨a, dx, fs, rfl, h2, h3⟩ := h.ex e
    obtain ⟨b, dy, gs, rfl, g2, g3⟩ := h'.ex e
    exact ⟨a, dx, fs, .ref C, rfl, h2, .ins g2, nf_own, a, dx, fs, L, .ref b, rfl, h2, h3, .inl ⟨b, dy, gs, M, rfl, g2, g3, fun H' e4 => ⟨_, rfl, q H' e4⟩⟩⟩
theorem ev_neT {L M : List Nat} {v y : V} (h : Tx C L v H) (h' : Tx C M y H) (hv : Ev ta σ H v) (hy : Ev tb σ H y) : Ev (tOp (rNeO K C (spEq1 K C)) ta tb) σ H (.bl (!decide (L = M))) :=
  ev_op hv hy fun H1 e Q q => by
    obtain ⟨a, dx, fs, rfl, h2, h3⟩ := h.ex e
    obtain ⟨b, dy, gs, rfl, g2, g3⟩ := h'.ex e
    exact ⟨a, dx, fs, .ref C, rfl, h2, .ins g2, nf_own, a, dx, fs, L, .ref b, rfl, h2, h3, .inl ⟨b, dy, gs, M, rfl, g2, g3, fun H' e4 => ⟨_, rfl, q H' e4⟩⟩⟩
end
theorem yes_go {σ : L2.St} {H : Hp} {A B : Hp → Prop} (h : A H) : tYes σ H fun b H3 => if b = true then A H3 else B H3 := by
  show (if true = true then A H else B H)
  exact iteT h
theorem All2.app {α : Type} {R : α → V → Hp → Prop} {ns ms : List α} {xs ys : List V} {H : Hp} (a : All2 R ns xs H) (b : All2 R ms ys H) : All2 R (ns ++ ms) (xs ++ ys) H := by
  refine ⟨by rw [List.length_append, List.length_append, a.1, b.1], fun i n x h1 h2 => ?_⟩
  by_cases hi : i < ns.length
  · rw [List.getElem?_append_left hi] at h1
    rw [List.getElem?_append_left (by rw [a.1]; exact hi)] at h2
    exact a.2 i n x h1 h2
  · rw [List.getElem?_append_right (by omega)] at h1
    rw [List.getElem?_append_right (by rw [a.1]; omega), a.1] at h2
    exact b.2 _ n x h1 h2
theorem q_asgLs {β : Type} {R : β → V → Hp → Prop} {ns : List β} {te : TE} {tz : TS} {D : Ends} {σ : L2.St} {H : Hp} {i : Nat} (h : ∀ H1, Ex H H1 → ∀ Q : VK, (∀ p xs H2, H1 p = none → Ex H1 H2 → H2 p = some (.lst xs) → All2 R ns xs H2 → Q (.ref p) H2) → te σ H1 Q)
    (k : ∀ p xs H2, H p = none → Ex H H2 → H2 p = some (.lst xs) → All2 R ns xs H2 → tz D (σ.set i (some (.ref p))) H2) : tSeq (tAsg te (gName i)) tz D σ H := h H (Ex.refl H) _ k
abbrev nLaw : List Str := ["_law_script", "_law_state", "_law_trees", "_law_tree_here", "_law_shapes", "_law_one", "_law_other", "_law_beside", "_law_turn"]
theorem scLaw : FnScope nLaw ["_law_script"] (defScope sLaw) := ⟨rfl, rfl, rfl, by decide +kernel, rfl, by decide +kernel, by decide +kernel⟩
def spLaw (K : PySem.W.Frag) : Sp := fun vs H Q _ => ∃ (a : Addr) (ns : List Int), vs = [.ref a] ∧ SqL K H a (ns.map V.int) ∧ ns.length ≤ 63 ∧ ∀ H', Q (.bl true) H'
section
variable {P : Program} {w : World} {K : PySem.W.Frag} {mg : Str → Option Value} {base : Heap} {C : Addr} {f : Addr} {fd : FuncData}
theorem ok_law (F : Fun K "law" "law" sLaw f fd) (N : EnvR P w K mg base C) (T : TxtL mg) (O : Oth K C) (rS : Rd P w K mg base "_law_start" 1 ["_law_script"] (spStart K)) (rD : Rd P w K mg base "_law_draw" 1 ["_law_state", "_law_many"] spDraw)
    (rT : Rd P w K mg base "_law_tree" 7 ["_law_state", "_law_floors", "_law_room"] (spTree3 K)) (rR : Rd P w K mg base "_law_right" 16 ["_law_tree_here"] (spRight K)) : FnOk P w K mg base CX0 18 f fd ["_law_script"] (spLaw K) := by
  refine F.ok scLaw (fun vs H Q E h => ?_) (fun cdv A outer s H vs Q E hr h => ?_)
  · obtain ⟨a, ns, rfl, _⟩ := h
    rfl
  · obtain ⟨sa, ns, rfl, hS, hlen, q⟩ := h
    have r2 : Room 2 _ := hr.mono (by decide)
    have r1 : Room 1 _ := hr.mono (by decide)
    refine ⟨_, pss_cons (ps_set (i := 1) scLaw.nd rfl (.inr rfl) (pe_rd rS hr (by decide) (by rfl) (pa_cons (pv 0) pa_nil)))
      (pss_cons (ps_set (i := 2) scLaw.nd rfl (.inl rfl) (pe_op op_cat (pe_lst (pa_cons (pe_tup pa_nil) (pa_cons (pe_tup (pa_cons (pe_tup pa_nil) pa_nil)) pa_nil)))
        (pe_lc (own := [("_law_turn", 8)]) (g := gName 8) (tt := tYes) rfl scLaw.nd (pi_range1 (by rfl) T.rng (pa_cons pe_int pa_nil)) (blkOk_by (N := nLaw) (sc := defScope sLaw) (by decide +kernel))
          (fun _ _ _ _ _ => pg_name (i := 8) scLaw.nd rfl (.inl rfl)) (fun _ _ _ _ _ => pts_nil) (fun _ _ _ _ _ => pe_rd rT hr (by decide) (by rfl) (pa_cons (pv 1) (pa_cons (pe_op op_add pe_int (pe_rd rD hr (by decide) (by rfl) (pa_cons (pv 1) (pa_cons pe_int pa_nil)))) (pa_cons (pe_op op_add pe_int (pe_rd rD hr (by decide) (by rfl) (pa_cons (pv 1) (pa_cons pe_int pa_nil)))) pa_nil)))))))
      (pss_cons (ps_for PassesOwn.never rfl (pi_list (pv 2)) (pg_name (i := 3) scLaw.nd rfl (.inl rfl)) (pss_one (ps_if (pt_not (pt_val (pe_rd rR hr (by decide) (by rfl) (pa_cons (pv 3) pa_nil)))) (pss_one (ps_ret pe_bl)) pss_nil)))
      (pss_cons (ps_setLc (i := 4) (own := [("_law_tree_here", 3)]) (g := gName 3) (tt := tYes) rfl scLaw.nd rfl rfl (sw_true rfl rfl rfl (by decide +kernel)) (pi_list (pv 2)) (blkOk_by (N := nLaw) (sc := defScope sLaw) (by decide +kernel))
          (fun _ _ _ _ _ => pg_name (i := 3) scLaw.nd rfl (.inl rfl)) (fun _ _ _ _ _ => pts_nil) (fun _ _ _ _ _ => pe_rm (N.mk' 3 (by decide)) hr (by decide) (by rfl) (pa_cons (pe_rd (N.rT 3 (by decide)) hr (by decide) (by rfl) (pa_cons (pv 3) pa_nil)) pa_nil)))
      (pss_cons (ps_for PassesOwn.never rfl (RZ.pi_zipA (by rfl) T.zip (pa_cons (pv 4) (pa_cons (pv 2) pa_nil))) (pg_tup (by rfl) (pgs_cons (pg_name (i := 5) scLaw.nd rfl (.inl rfl)) (pgs_cons (pg_name (i := 3) scLaw.nd rfl (.inl rfl)) pgs_nil)))
        (pss_cons (ps_for PassesOwn.never rfl (RZ.pi_zipA (by rfl) T.zip (pa_cons (pv 4) (pa_cons (pv 2) pa_nil))) (pg_tup (by rfl) (pgs_cons (pg_name (i := 6) scLaw.nd rfl (.inl rfl)) (pgs_cons (pg_name (i := 7) scLaw.nd rfl (.inl rfl)) pgs_nil)))
          (pss_one (ps_if (PW.pt (pw_or (pt_cmpR op_ne (pe_cmpR (op_eqO N.dEq r1) (pv 5) (pv 6) (nomark _)) (pe_cmpR (op_eqD hr.units) (pv 3) (pv 7) (nomark _)) (nomark _)) (pw_or1 (pt_cmpR op_eq (pe_cmpR (op_neO N.dEq r2 N.c.hm N.hne) (pv 5) (pv 6) (nomark _)) (pe_cmpR (op_eqD hr.units) (pv 3) (pv 7) (nomark _)) (nomark _))))) (pss_one (ps_ret pe_bl)) pss_nil)))
        (pss_one (ps_if (PW.pt (pw_or (pt_cmpR (op_eqO N.dEq r1) (pv 5) (pe_rd (N.rT 3 (by decide)) hr (by decide) (by rfl) (pa_cons (pv 3) pa_nil)) (nomark _)) (pw_or (pt_cmpR (op_eqO N.dEq r1) (pv 5) (pv 3) (nomark _)) (pw_or (pt_cmpR (op_eqO N.dEq r1) (pv 5) pe_non (nomark _)) (pw_or1 (pt_not (pt_cmpR (op_neO N.dEq r2 N.c.hm N.hne) (pv 5) pe_int (nomark _)))))))) (pss_one (ps_ret pe_bl)) pss_nil))))
      (pss_one (ps_ret pe_bl)))))), ?_⟩
    -- the state
    refine ⟨_, rfl, sa, ns, rfl, hS, hlen, fun H1 st g sm s1 n1 n2 n3 d1 => ?_⟩
    -- the trees
    refine ⟨Nat.zero_le _, fun p1 np1 => ⟨Nat.zero_le _, fun p2 np2 => ⟨by show 1 ≤ sizeLine; decide, fun p3 np3 => ⟨by show 2 ≤ sizeLine; decide, fun p4 np4 => ?_⟩⟩⟩⟩
    have e1 : Ex H1 (upd H1 p1 (.tup [])) := Ex.new np1
    have h1 : (upd H1 p1 (.tup [])) p1 = some (.tup []) := upd_same
    generalize upd H1 p1 (.tup []) = A1 at e1 h1 np2 np3 np4 ⊢
    have e2 : Ex A1 (upd A1 p2 (.tup [])) := Ex.new np2
    have h2 : (upd A1 p2 (.tup [])) p2 = some (.tup []) := upd_same
    generalize upd A1 p2 (.tup []) = A2 at e2 h2 np3 np4 ⊢
    have e3 : Ex A2 (upd A2 p3 (.tup [.ref p2])) := Ex.new np3
    have h3 : (upd A2 p3 (.tup [.ref p2])) p3 = some (.tup [.ref p2]) := upd_same
    generalize upd A2 p3 (.tup [.ref p2]) = A3 at e3 h3 np4 ⊢
    have e4 : Ex A3 (upd A3 p4 (.lst [.ref p1, .ref p3])) := Ex.new np4
    have h4 : (upd A3 p4 (.lst [.ref p1, .ref p3])) p4 = some (.lst [.ref p1, .ref p3]) := upd_same
    have f4 : H1 p4 = none := fresh_back ((e1.trans e2).trans e3) np4
    have o4 := d1.off f4
    have d2 : DrawSt (upd A3 p4 (.lst [.ref p1, .ref p3])) st g sm := d1.same (((e1.trans e2).trans e3).trans e4)
    have t1 : TrV K 3 ([] : List (Tre 2)) (.ref p1) (upd A3 p4 (.lst [.ref p1, .ref p3])) := ⟨p1, [], rfl, SqT.of (e4 _ _ (e3 _ _ (e2 _ _ h1))), All2.nil⟩
    have t2 : TrV K 3 ([([] : List (Tre 1))] : List (Tre 2)) (.ref p3) (upd A3 p4 (.lst [.ref p1, .ref p3])) := ⟨p3, [.ref p2], rfl, SqT.of (e4 _ _ h3), (All2.nil (R := fun t v H => TrV K 2 t v H)).snoc (n := ([] : List (Tre 1))) ⟨p2, [], rfl, SqT.of (e4 _ _ (e3 _ _ h2)), All2.nil⟩⟩
    have al0 : All2 (fun t v H => TrV K 3 t v H) [([] : List (Tre 2)), ([([] : List (Tre 1))] : List (Tre 2))] [.ref p1, .ref p3] (upd A3 p4 (.lst [.ref p1, .ref p3])) := ((All2.nil (R := fun t v H => TrV K 3 t v H)).snoc t1).snoc t2
    generalize upd A3 p4 (.lst [.ref p1, .ref p3]) = H2 at e4 h4 d2 al0 ⊢
    clear t1 t2
    refine ⟨4, rfl, by decide, by decide, fun Dl nD => lc_range (lo := 0) (n := 4) (fun i H' => ∃ (ts : List (Tre 3)) (xs : List V), H' Dl = some (.lst xs) ∧ All2 (fun t v H => TrV K 3 t v H) ts xs H' ∧ ts.length = i ∧ (∀ t ∈ ts, slim 3 t = true ∧ lsts 3 t ≤ 5) ∧ Hc.Ext (Dr st g) H2 H' ∧ DrawSt H' st g sm) ?_ ?_ ?_⟩
    · exact ⟨[], [], upd_same, All2.nil, rfl, (fun t h => by cases h), Hc.Ext.new nD, d2.put (d2.off nD)⟩
    · rintro i H3 hi ⟨ts, xs, hD, al, hl, hg, e5, d3⟩
      refine ⟨wipe1 _, yes_go ?_⟩
      have oD := d2.off nD
      refine ⟨_, rfl, ?_⟩
      refine ⟨_, rfl, st, g, sm, 3, rfl, d3, by decide, by decide, fun r H4 r0 r3 e6 d4 => ⟨1, r, rfl, rfl, ?_⟩⟩
      refine ⟨_, rfl, st, g, sm, 5, rfl, d4, by decide, by decide, fun r' H5 r0' r5 e7 d5 => ⟨1, r', rfl, rfl, ?_⟩⟩
      refine ⟨st, g, sm, 1 + r, 1 + r', rfl, d5, by omega, by omega, by omega, by omega, fun t v H6 ht hs hl5 e8 d6 => ?_⟩
      have e9 := (e6.trans e7).trans e8
      have hD6 := e9 _ _ hD (dr_off oD)
      refine ⟨xs, hD6, sz_lt (by rw [al.1]; omega), ts ++ [t], xs ++ [v], upd_same, ?_, by rw [List.length_append, hl]; rfl, ?_, (e5.trans e9).puts nD, d6.put oD⟩
      · have n6 : NL H6 (upd H6 Dl (.lst (xs ++ [v]))) := NL.put hD6
        exact (al.ex (fun t => trV_mon 3 t) (((nl_draw d3 e6).trans ((nl_draw d4 e7).trans (nl_draw d5 e8))).trans n6)).snoc (trV_mon 3 t v _ _ n6 ht)
      · intro u hu
        rcases List.mem_append.mp hu with hu | hu
        · exact hg u hu
        · rw [List.mem_singleton.mp hu]
          exact ⟨hs, hl5⟩
    · rintro H3 ⟨ts, xs, hD, al, hl, hg, e5, d3⟩
      have h43 := e5 _ _ h4 (dr_off o4)
      have al3 : All2 (fun t v H => TrV K 3 t v H) [([] : List (Tre 2)), ([([] : List (Tre 1))] : List (Tre 2))] [.ref p1, .ref p3] H3 := al0.ex (fun t => trV_mon 3 t) (nl_draw d2 e5)
      refine ⟨p4, Dl, [.ref p1, .ref p3], xs, rfl, rfl, h43, hD, sz_of (by rw [al.1, hl]; show 2 + 4 ≤ 100000; decide), fun tr ntr => ?_⟩
      obtain ⟨TS, hTS⟩ : ∃ TS : List (Tre 3), TS = (@List.cons (Tre 3) ([] : List (Tre 2)) (@List.cons (Tre 3) ([([] : List (Tre 1))] : List (Tre 2)) ts)) := ⟨_, rfl⟩
      obtain ⟨XS, hXS⟩ : ∃ XS : List V, XS = [.ref p1, .ref p3] ++ xs := ⟨_, rfl⟩
      have alT : All2 (fun t v H => TrV K 3 t v H) TS XS (upd H3 tr (.lst XS)) := by
        rw [hTS, hXS]
        exact (al3.app al).ex (fun t => trV_mon 3 t) (NL.ex (Ex.new ntr))
      have gT : ∀ t ∈ TS, slim 3 t = true ∧ lsts 3 t ≤ 5 := by
        intro t ht
        rw [hTS] at ht
        rcases List.mem_cons.mp ht with ht | ht
        · rw [ht]
          exact ⟨rfl, by decide⟩
        · rcases List.mem_cons.mp ht with ht | ht
          · rw [ht]
            exact ⟨rfl, by decide⟩
          · exact hg t ht
      have lT : TS.length ≤ 1000 := by
        rw [hTS]
        show ts.length + 1 + 1 ≤ 1000
        rw [hl]
        decide
      have hT : (upd H3 tr (.lst XS)) tr = some (.lst XS) := upd_same
      rw [← hXS]
      change tSeq _ _ _ _ (upd H3 tr (.lst XS))
      generalize upd H3 tr (.lst XS) = H4 at alT hT ⊢
      clear al3 al hTS hXS
      have lX : XS.length ≤ 1000 := by rw [alT.1]; exact lT
      -- each tree is right
      refine q_forLn (ev_var rfl) (SqL.of hT) (fun _ σ H' => ∃ v3, σ = [some (.ref sa), some (.ref st), some (.ref tr), v3, none, none, none, none, none] ∧ Ex H4 H') (fun H5 e5 => ⟨none, rfl, e5⟩) (fun i σ' H' _ p => by
        obtain ⟨_, _, e⟩ := p
        exact SqL.of (e _ _ hT)) ?_ ?_
      · rintro i x σ' H5 hx ⟨v3, rfl, e5⟩
        obtain ⟨t, ht⟩ := at_lt TS (show i < TS.length by rw [← alT.1]; exact (List.getElem?_eq_some_iff.mp hx).1)
        have hg' := gT t (List.mem_of_getElem? ht)
        have htv : TrV K 3 t x H5 := trV_ex (alT.2 i t x ht hx) e5
        refine s_when (b := false) (et_is (et_not (et_B (ev_call (z := .bl true) (ea_cons (ev_var rfl) ea_nil) fun H6 e6 Q qq E => ⟨x, t, rfl, trV_ex htv e6, hg'.1, hg'.2, qq⟩))) rfl) (fun z => nomatch z) fun _ H6 e6 => ?_
        exact ⟨_, rfl, e5.trans e6⟩
      · rintro σ' H5 ⟨v3, rfl, e5⟩
        have hT5 := e5 _ _ hT
        have alT5 := alT.ex (fun t => trV_mon 3 t) (NL.ex e5)
        -- the shapes
        refine q_asgLs (er_lcL (K := K) (β := Tre 3) (tl := tVar 2) (te := tMake C (spInit K C 3) [] E0 (tCons (tCall (spText K 3) [] E0 (tCons (tVar 3) tNil)) tNil)) (R := fun t v H => ShV K C 3 t v H) (j := 3) (vs := [3]) (σ := [some (.ref sa), some (.ref st), some (.ref tr), v3, none, none, none, none, none]) (H := H5) (fun t => shV_mon 3 t) TS XS alT.1 (ev_var rfl) (SqL.of hT5) (by omega) wipe1 (fun i t y H6 e6 ht hy => ?_)) fun sh ss H6 nsh e6 hsh als => ?_
        · have hg' := gT t (List.mem_of_getElem? ht)
          have htv : TrV K 3 t y H6 := trV_ex (alT5.2 i t y ht hy) e6
          exact er_make t (ea_cons (ev_call (ea_cons (ev_var rfl) ea_nil) (sp_text htv hg'.1)) ea_nil) hg'.1 hg'.2 (cap_of (n := 3) (by decide) hg'.1)
        · have hT6 := e6 _ _ hT5
          have alT6 := alT5.ex (fun t => trV_mon 3 t) (NL.ex e6)
          have lS : ss.length = XS.length := als.1.trans alT.1.symm
          -- what is known of an index
          have at_i : ∀ {i : Nat} {x y : V}, ss[i]? = some x → XS[i]? = some y → ∃ t : Tre 3, ∀ H', Ex H6 H' → Tx C (txt 3 t) x H' ∧ TrV K 3 t y H' ∧ slim 3 t = true := by
            intro i x y hx hy
            obtain ⟨t, ht⟩ := at_lt TS (show i < TS.length by rw [← alT.1]; exact (List.getElem?_eq_some_iff.mp hy).1)
            exact ⟨t, fun H' e => ⟨(shV_tx (als.2 i t x ht hx)).ex e, trV_ex (alT6.2 i t y ht hy) e, (gT t (List.mem_of_getElem? ht)).1⟩⟩
          -- the pairs
          refine ⟨_, rfl, _, rfl, sh, tr, ss, XS, rfl, .inl ⟨SqL.of hsh, SqL.of hT6, ?_⟩⟩
          refine RZ.for_zipL (K := K) (a := sh) (b := tr) (xs := ss) (ys := XS) lS (fun _ σ H' => ∃ v3 v5 v6 v7, σ = [some (.ref sa), some (.ref st), some (.ref tr), v3, some (.ref sh), v5, v6, v7, none] ∧ Ex H6 H') ⟨v3, none, none, none, rfl, Ex.refl H6⟩ (fun i σ H' p => by
            obtain ⟨_, _, _, _, _, e⟩ := p
            exact ⟨SqL.of (e _ _ hsh), SqL.of (e _ _ hT6)⟩) ?_ ?_
          · rintro i x y T0 σ K0 hx hy ⟨w3, w5, w6, w7, rfl, e7⟩ nT
            refine ⟨T0, _, rfl, SqT.of upd_same, rfl, x, [y], rfl, y, [], rfl, rfl, ?_⟩
            have e8 : Ex H6 (upd K0 T0 (.tup [x, y])) := e7.trans (Ex.new nT)
            change tSeq _ _ _ _ (upd K0 T0 (.tup [x, y]))
            generalize upd K0 T0 (.tup [x, y]) = K1 at e8 ⊢
            obtain ⟨t, kt⟩ := at_i hx hy
            -- each other pair
            refine ⟨_, rfl, _, rfl, sh, tr, ss, XS, rfl, .inl ⟨SqL.of (e8 _ _ hsh), SqL.of (e8 _ _ hT6), ?_⟩⟩
            refine RZ.for_zipL (K := K) (a := sh) (b := tr) (xs := ss) (ys := XS) lS (fun _ σ H' => ∃ v6 v7, σ = [some (.ref sa), some (.ref st), some (.ref tr), some y, some (.ref sh), some x, v6, v7, none] ∧ Ex K1 H') ⟨w6, w7, rfl, Ex.refl K1⟩ (fun i σ H' p => by
              obtain ⟨_, _, _, e⟩ := p
              exact ⟨SqL.of ((e8.trans e) _ _ hsh), SqL.of ((e8.trans e) _ _ hT6)⟩) ?_ ?_
            · rintro i' x' y' T1 σ K2 hx' hy' ⟨u6, u7, rfl, e9⟩ nT1
              refine ⟨T1, _, rfl, SqT.of upd_same, rfl, x', [y'], rfl, y', [], rfl, rfl, ?_⟩
              have e10 : Ex K1 (upd K2 T1 (.tup [x', y'])) := e9.trans (Ex.new nT1)
              generalize upd K2 T1 (.tup [x', y']) = K3 at e10 ⊢
              obtain ⟨t', kt'⟩ := at_i hx' hy'
              obtain ⟨a1, a2, _⟩ := kt K3 (e8.trans e10)
              obtain ⟨b1, b2, _⟩ := kt' K3 (e8.trans e10)
              have eD : Ev (tOp (rEqD K) (tVar 3) (tVar 7)) [some (.ref sa), some (.ref st), some (.ref tr), some y, some (.ref sh), some x, some x', some y', none] K3 (.bl (decide (txt 3 t = txt 3 t'))) := by
                rw [← dat_eqv]
                exact ev_eqD (ev_var rfl) (ev_var rfl) (fun H' e => dat_dp 3 t y (trV_ex a2 e)) (fun H' e => dat_dp 3 t' y' (trV_ex b2 e)) (dat_shaped (by decide) t) (dat_shaped (by decide) t')
              refine s_when (b := false) (et_is (et_or (et_test (ev_op (ev_eqT (K := K) a1 b1 (ev_var rfl) (ev_var rfl)) eD (rv_ne rfl))) fun _ => et_test (ev_op (ev_neT (K := K) a1 b1 (ev_var rfl) (ev_var rfl)) eD (rv_eq rfl))) (by
                cases decide (txt 3 t = txt 3 t') <;> rfl)) (fun z => nomatch z) fun _ K4 g4 => ?_
              exact ⟨_, _, rfl, e10.trans g4⟩
            · rintro σ K2 ⟨u6, u7, rfl, e9⟩
              obtain ⟨a1, a2, a3⟩ := kt K2 (e8.trans e9)
              obtain ⟨ya, ys, hya, hys, _⟩ := (trV_iff 3 t y K2).mp a2
              refine s_when (b := false) (et_is (et_or (et_test (ev_eqX (t := .type "str") a1 (ev_var rfl) (ev_call (ea_cons (ev_var rfl) ea_nil) (sp_text a2 a3)) (fun _ _ => .str _) (fun _ _ => .base (.str _)) O.kS O.fS)) fun _ =>
                et_or (et_test (ev_eqX (t := .type "tuple") a1 (ev_var rfl) (ev_var rfl) (fun H' e => by rw [hya]; exact .tup (ex_t e hys)) (fun H' e => by rw [hya]; exact tyx_sqT (ex_t e hys)) O.kT O.fT)) fun _ =>
                et_or (et_test (ev_eqX (t := .type "NoneType") a1 (ev_var rfl) ev_c (fun _ _ => .non) (fun _ _ => .base .non) O.kN O.fN)) fun _ =>
                et_not (et_test (ev_neX (t := .type "int") a1 (ev_var rfl) ev_c (fun _ _ => .int _) (fun _ _ => .base (.int _)) O.kI O.fI))) rfl) (fun z => nomatch z) fun _ K4 g4 => ?_
              exact ⟨_, _, _, _, rfl, (e8.trans e9).trans g4⟩
          · rintro σ K0 ⟨w3, w5, w6, w7, rfl, e7⟩
            exact q K0
end
end Hs

set_option maxHeartbeats 4000000
/-! A head with facts by names and a test of one's own. -/
namespace Hc
open PySem PySem.Spec PyProof.Rows L2
def seenK (n : Nat) (g : Addr → Option Obj) : PySem.W.Frag := He.frG g (He.asD g n)
def obsC (n : Nat) (fa : List He.Fa) (fn : List He.DefD) (ex : PySem.W.Frag → Bool) (g : Addr → Option Obj) : Bool × He.AlD := (ex (seenK n g), He.obsD fa fn (seenK n g))
def hookC (n : Nat) (fa : List He.Fa) (fn : List He.DefD) (ex : PySem.W.Frag → Bool) : PySem.W.Hook where
  α := Bool × He.AlD
  obs := fun s => obsC n fa fn ex s.heap.get?
  val := fun _ => (true, He.valD fn)
  says := fun _ h => ∃ K : PySem.W.Frag, K.In h ∧ ex K = true ∧ He.SaysD fa fn K
  of := fun _ _ e => ⟨_, He.frG_in, congrArg Prod.fst e, congrArg Prod.snd e⟩
  keeps := fun _ _ _ ⟨K, hK, c⟩ k => ⟨K, PySem.W.Frag.In.keeps hK k, c⟩
def obC (n : Nat) (fa : List He.Fa) (fn : List He.DefD) (ex : PySem.W.Frag → Bool) (s : PySem.W.SharedT) : Bool × He.AlD := obsC n fa fn ex (HandSHeadRun.getT s)
theorem obC_eq (n : Nat) (fa : List He.Fa) (fn : List He.DefD) (ex : PySem.W.Frag → Bool) (s : PySem.W.SharedT) : obC n fa fn ex s = (hookC n fa fn ex).obs s.abs := by
  have e : HandSHeadRun.getT s = s.abs.heap.get? := funext (HandSHeadRun.getT_eq s)
  show obsC n fa fn ex (HandSHeadRun.getT s) = obsC n fa fn ex s.abs.heap.get?
  rw [e]
/-- a def of the text without defaults -/
theorem fun_of {K : PySem.W.Frag} {x q : Str} {st : Stmt} {f : Addr} {fd : FuncData} (F : FunD K x q (defArgs st) (defBody st) (defScope st) [] [] f fd) : Fun K x q st f fd := by
  obtain ⟨oc, od, dV, kV, doc, pm, an, cdv, ct, osl, e, lk, hcd, hd, _⟩ := F.ex
  rcases hd with ⟨_, rfl⟩ | ⟨h, _⟩
  · exact ⟨⟨oc, od, kV, doc, pm, an, cdv, ct, osl, e, lk, hcd⟩, F.kp⟩
  · exact absurd rfl h
/-- a global def as data; a class's maker -/
def dk (x : Str) (st : Stmt) : He.DefD := ⟨(x, none), x, x, defArgs st, defBody st, defScope st, [], []⟩
def dmk (C m q : Str) (st : Stmt) : He.DefD := ⟨(C, some m), m, q, defArgs st, defBody st, defScope st, [], []⟩
theorem def_of {fa : List He.Fa} {fn : List He.DefD} {K : PySem.W.Frag} (c : He.SaysD fa fn K) (i : Nat) {x : Str} {st : Stmt} (h : fn[i]? = some (dk x st) := by rfl) : ∃ fd, Fun K x x st (He.ga K x) fd := by
  obtain ⟨fd, F⟩ := c.def_ i h
  exact ⟨fd, fun_of F⟩
theorem mth_of {fa : List He.Fa} {fn : List He.DefD} {K : PySem.W.Frag} (c : He.SaysD fa fn K) (i : Nat) {C m q : Str} {st : Stmt} (h : fn[i]? = some (dmk C m q st) := by rfl) : ∃ fd, Fun K m q st (He.ma K (He.ga K C) m) fd := by
  obtain ⟨fd, F⟩ := c.def_ i h
  exact ⟨fd, fun_of F⟩
end Hc

set_option maxHeartbeats 4000000
/-! A head that sees the getters of properties, too. -/
namespace Hc
open PySem PySem.Spec PyProof.Rows L2
def pAd (K : PySem.W.Frag) (C : Addr) (f : Str) : Addr := match PySem.W.findIn K (.ref C) f with
  | some (some (.ref p)) => p
  | _ => 0
def gAd (K : PySem.W.Frag) (C : Addr) (f : Str) : Addr := match PySem.W.recIn K (pAd K C f) "property" with
  | some (.ref g :: _) => g
  | _ => 0
def propB (K : PySem.W.Frag) (C : Addr) (f : Str) : Bool := decide (PySem.W.findIn K (.ref C) f = some (some (.ref (pAd K C f)))) && (decide (PySem.W.specialIn K (.ref (pAd K C f)) "__get__" = some (some (.builtin "property.__get__"))) &&
  (decide (PySem.W.takesIn K (.ref (pAd K C f)) = some true) && (match PySem.W.recIn K (pAd K C f) "property" with
    | some (.ref g :: _) => decide (g = gAd K C f)
    | _ => false)))
theorem propB_ok {K : PySem.W.Frag} {C : Addr} {f : Str} (h : propB K C f = true) : PropOf K C f (pAd K C f) (gAd K C f) := by
  unfold propB at h
  simp only [Bool.and_eq_true, decide_eq_true_eq] at h
  obtain ⟨h1, h2, h3, h4⟩ := h
  refine ⟨h1, h2, h3, ?_⟩
  split at h4
  · rename_i g r e
    rw [of_decide_eq_true h4] at e
    exact ⟨r, e⟩
  · cases h4
def fnA (K : PySem.W.Frag) (a : Addr) : He.FnV := match K.lookup a with
  | some ⟨_, _, .func fd, _⟩ => some (fd.name, fd.qualname, fd.params, fd.body, fd.scope, fd.globals, fd.closure, fd.defaults, fd.builtins)
  | _ => none
def codeA (K : PySem.W.Frag) (a : Addr) (q : Str) : Bool := match K.lookup a with
  | some ⟨_, _, .func fd, _⟩ => PySem.W.codeIn K fd.code q
  | _ => false
def fnVal (x q : Str) (st : Stmt) : He.FnV := some (x, q, defArgs st, .stmts (defBody st), defScope st, mainGlobals, [], .none, builtinsNs)
theorem fnA_ok {K : PySem.W.Frag} {a : Addr} {x q : Str} {st : Stmt} (e : fnA K a = fnVal x q st) (c : codeA K a q = true) :
    ∃ oc od osl kV doc pm an cdv ct, K.lookup a = some ⟨oc, od, .func (PySem.W.fnOf x q (defArgs st) (defBody st) (defScope st) .none kV doc pm an cdv ct), osl⟩ ∧ PySem.W.codeIn K cdv q = true := by
  unfold fnA at e
  unfold codeA at c
  cases z : K.lookup a with
  | none =>
    rw [z] at c
    cases c
  | some o =>
    obtain ⟨oc, od, dt, osl⟩ := o
    rw [z] at c e
    cases dt with
    | func fd =>
      obtain ⟨n1, n2, n3, n4, n5, n6, n7, n8, n9, n10, n11, n12, n13, n14, n15⟩ := fd
      have e2 : (some (n1, n2, n3, n4, n5, n6, n7, n8, n15) : He.FnV) = some (x, q, defArgs st, .stmts (defBody st), defScope st, mainGlobals, [], .none, builtinsNs) := e
      simp only [Option.some.injEq, Prod.mk.injEq] at e2
      obtain ⟨h1, h2, h3, h4, h5, h6, h7, h8, h9⟩ := e2
      subst h1 h2 h3 h4 h5 h6 h7 h8 h9
      exact ⟨oc, od, osl, n9, n10, n11, n12, n13, n14, rfl, c⟩
    | _ => cases c
def obsG3 (n : Nat) (fa : List He.Fa) (fn : List He.DefD) (ex : PySem.W.Frag → Bool) (gt : PySem.W.Frag → List He.FnV) (g : Addr → Option Obj) : Bool × He.AlD × List He.FnV := (ex (seenK n g), He.obsD fa fn (seenK n g), gt (seenK n g))
def hookG (n : Nat) (fa : List He.Fa) (fn : List He.DefD) (ex : PySem.W.Frag → Bool) (gt : PySem.W.Frag → List He.FnV) (gv : List He.FnV) : PySem.W.Hook where
  α := Bool × He.AlD × List He.FnV
  obs := fun s => obsG3 n fa fn ex gt s.heap.get?
  val := fun _ => (true, He.valD fn, gv)
  says := fun _ h => ∃ K : PySem.W.Frag, K.In h ∧ ex K = true ∧ He.SaysD fa fn K ∧ gt K = gv
  of := fun _ _ e => ⟨_, He.frG_in, congrArg Prod.fst e, congrArg (fun z : Bool × He.AlD × List He.FnV => z.2.1) e, congrArg (fun z : Bool × He.AlD × List He.FnV => z.2.2) e⟩
  keeps := fun _ _ _ ⟨K, hK, c⟩ k => ⟨K, PySem.W.Frag.In.keeps hK k, c⟩
def obG (n : Nat) (fa : List He.Fa) (fn : List He.DefD) (ex : PySem.W.Frag → Bool) (gt : PySem.W.Frag → List He.FnV) (s : PySem.W.SharedT) : Bool × He.AlD × List He.FnV := obsG3 n fa fn ex gt (HandSHeadRun.getT s)
theorem obG_eq (n : Nat) (fa : List He.Fa) (fn : List He.DefD) (ex : PySem.W.Frag → Bool) (gt : PySem.W.Frag → List He.FnV) (gv : List He.FnV) (s : PySem.W.SharedT) : obG n fa fn ex gt s = (hookG n fa fn ex gt gv).obs s.abs := by
  have e : HandSHeadRun.getT s = s.abs.heap.get? := funext (HandSHeadRun.getT_eq s)
  show obsG3 n fa fn ex gt (HandSHeadRun.getT s) = obsG3 n fa fn ex gt s.abs.heap.get?
  rw [e]
end Hc

set_option maxHeartbeats 0
namespace Hs
open PySem PySem.Spec PyProof.Rows L2 Hc
def fn01 : List He.DefD := [dk "_law_start" (top 13), dk "_law_draw" (top 14), dk "_law_tree" (top 16), dk "_law_lists" (top 17), dk "_law_depth" (top 18), dk "_law_text" (top 19), dk "_law_whole" (top 20), dk "_law_right" (top 21), dk "law" (top 22), dk "parts_of" (top 4), dk "is_shape" (top 9), dk "has_form" (top 10), dmk "Shape" "__init__" "Shape.__init__" (inClass (top 11) 0), dmk "Shape" "__len__" "Shape.__len__" (inClass (top 11) 3), dmk "Shape" "__getitem__" "Shape.__getitem__" (inClass (top 11) 4), dmk "Shape" "__eq__" "Shape.__eq__" (inClass (top 11) 6), dmk "Shape" "__str__" "Shape.__str__" (inClass (top 11) 7), dmk "Shape" "__repr__" "Shape.__repr__" (inClass (top 11) 8)]
def fa01 : List He.Fa := [.glo "_law_start", .glo "_law_draw", .glo "_law_tree", .glo "_law_lists", .glo "_law_depth", .glo "_law_text", .glo "_law_whole", .glo "_law_right", .glo "law", .glo "parts_of", .glo "is_shape", .glo "has_form", .glo "Shape", .free "int", .free "abs", .free "len", .free "enumerate", .free "all", .free "isinstance", .free "str", .free "tuple", .free "max", .free "sum", .free "range", .free "bool", .free "repr", .free "zip", .int "MOST_ITEMS" 3, .int "MOST_DEPTH" 3, .int "MOST_LISTS" 5, .cls "Shape", .noat "Shape" "text", .noat "Shape" "_parts", .noat "Shape" "_depth", .noat "Shape" "_lists", .mkr "Shape", .meth "Shape" "__len__", .meth "Shape" "__getitem__", .meth "Shape" "__eq__", .meth "Shape" "__str__", .meth "Shape" "__repr__"]
def ex01 (K : PySem.W.Frag) : Bool := decide (PySem.W.findIn K (.ref (He.ga K "Shape")) "__class__" = some (some (.builtin "object.__class__"))) && (decide (PySem.W.specialIn K (.builtin "object.__class__") "__get__" = some (some (.builtin "getset_descriptor.__get__"))) && (decide (PySem.W.takesIn K (.builtin "object.__class__") = some true) &&
  (decide (PySem.W.mroIn K (He.ga K "Shape") (.type "object") = some true) && (decide (PySem.W.kitOne K (.ref (He.ga K "Shape")) (.ref (He.ga K "Shape")) = some true) && (decide (PySem.W.findIn K (.ref (He.ga K "Shape")) "__ne__" = some (some (.builtin "object.__ne__"))) &&
  (decide (PySem.W.kitOne K (.type "str") (.ref (He.ga K "Shape")) = some false) && (decide (PySem.W.kitOne K (.type "tuple") (.ref (He.ga K "Shape")) = some false) && (decide (PySem.W.kitOne K (.type "NoneType") (.ref (He.ga K "Shape")) = some false) && (decide (PySem.W.kitOne K (.type "int") (.ref (He.ga K "Shape")) = some false) &&
  (PySem.W.notFirst K (He.ga K "Shape") (.type "str") && (PySem.W.notFirst K (He.ga K "Shape") (.type "tuple") && (PySem.W.notFirst K (He.ga K "Shape") (.type "NoneType") && (PySem.W.notFirst K (He.ga K "Shape") (.type "int") &&
  (propB K (He.ga K "Shape") "depth" && (propB K (He.ga K "Shape") "lists" && (codeA K (gAd K (He.ga K "Shape") "depth") "Shape.depth" && codeA K (gAd K (He.ga K "Shape") "lists") "Shape.lists"))))))))))))))))
def gt01 (K : PySem.W.Frag) : List He.FnV := [fnA K (gAd K (He.ga K "Shape") "depth"), fnA K (gAd K (He.ga K "Shape") "lists")]
def gv01 : List He.FnV := [fnVal "depth" "Shape.depth" (inClass (top 11) 1), fnVal "lists" "Shape.lists" (inClass (top 11) 2)]
abbrev R01 : PySem.W.OpenRow := PySem.W.OpenLaw.row PySem.Challenge.rw_handedcopies_k01_shapes_made
def lo01 : List Str := ["HandedcopiesError", "BadShape", "parts_of", "MOST_DEPTH", "MOST_ITEMS", "MOST_LISTS", "is_shape", "has_form", "Shape", "_law_start", "_law_draw", "_law_of", "_law_tree", "_law_lists", "_law_depth", "_law_text", "_law_whole", "_law_right"]
theorem run01 (w : World) : HandSHeadRun.RunEq R01 (PySem.W.view R01.prog [22]) (hookG 8 fa01 fn01 ex01 gt01 gv01) (obG 8 fa01 fn01 ex01 gt01) 12000 lo01 w := by
  intro os
  kernel_rfl
end Hs

set_option maxHeartbeats 4000000
namespace Hs
open PySem PySem.Spec PyProof.Rows L2 Hc
theorem fnIn_of {K : PySem.W.Frag} {x q : Str} {st : Stmt} {f : Addr} {fd : FuncData} (F : Fun K x q st f fd) : PySem.W.fnIn K f = true := by
  obtain ⟨oc, od, kV, doc, pm, an, cdv, ct, osl, e, lk, hcd⟩ := F.ex
  unfold PySem.W.fnIn
  rw [lk]
theorem pr_of {P : Program} {w : World} {K : PySem.W.Frag} {mg : Str → Option Value} {base : Heap} {C : Addr} {f q fld : Str} {st : Stmt} {p1 p2 p3 : Pos} (h : propB K C f = true) (e : fnA K (gAd K C f) = fnVal f q st) (cd : codeA K (gAd K C f) q = true) (S : FnScope ["self"] ["self"] (defScope st)) (hb : defBody st = [.Return (some (.Attribute (.Name "self" p1) fld p2)) p3])
    (bd : ∀ (kV doc pm : Value) (an : Option Addr) (cdv ct : Value) (us : List Value), us.length = 1 → bindArgs (PySem.W.fnOf f q (defArgs st) (defBody st) (defScope st) .none kV doc pm an cdv ct) ⟨us, []⟩ = pure ((["self"] : List Str).zip us)) (c : Cls K C) (n : NoAttr K C fld) : Pr P w K mg base C f fld 1 := by
  obtain ⟨oc, od, osl, kV, doc, pm, an, cdv, ct, lk, hcd⟩ := fnA_ok e cd
  exact ⟨_, _, _, propB_ok h, .all fun us hl => bd kV doc pm an cdv ct us hl, fn_getter lk hcd S rfl hb c n⟩
theorem facts01 {P : Program} {w : World} {K : PySem.W.Frag} {h : Heap} {mg : Str → Option Value} {f : Addr} (X : K.In h) (G : h.Ns mainGlobals mg) (hfa : mg ("law" : Str) = some (.ref f)) (x : ex01 K = true) (c : He.SaysD fa01 fn01 K) (gg : gt01 K = gv01) :
    ∃ fd : FuncData, (∀ (s : Shared) (v : Value), BindsTo s fd ⟨[v], []⟩ [("_law_script", v)]) ∧ ∀ base : Heap, K.In base → base.Ns mainGlobals mg → FnOk P w K mg base CX0 18 f fd ["_law_script"] (spLaw K) := by
  unfold ex01 at x
  simp only [Bool.and_eq_true, decide_eq_true_eq] at x
  obtain ⟨y1, y2, y3, y4, y5, y6, y7, y8, y9, y10, y11, y12, y13, y14, y15, y16, y17, y18⟩ := x
  have gg1 : fnA K (gAd K (He.ga K "Shape") "depth") = fnVal "depth" "Shape.depth" (inClass (top 11) 1) := (List.cons.inj gg).1
  have gg2 : fnA K (gAd K (He.ga K "Shape") "lists") = fnVal "lists" "Shape.lists" (inClass (top 11) 2) := (List.cons.inj (List.cons.inj gg).2).1
  obtain ⟨fd_start, F_start⟩ := def_of (x := "_law_start") (st := top 13) c 0
  have g_start := He.glo_ok X G (c.fact 0 (f := .glo "_law_start") rfl)
  have b_start : Binds K fd_start ["_law_script"] [] := F_start.binds fun _ _ _ _ _ _ us hl => match us, hl with | [_], _ => rfl
  obtain ⟨fd_draw, F_draw⟩ := def_of (x := "_law_draw") (st := top 14) c 1
  have g_draw := He.glo_ok X G (c.fact 1 (f := .glo "_law_draw") rfl)
  have b_draw : Binds K fd_draw ["_law_state", "_law_many"] [] := F_draw.binds fun _ _ _ _ _ _ us hl => match us, hl with | [_, _], _ => rfl
  obtain ⟨fd_tree, F_tree⟩ := def_of (x := "_law_tree") (st := top 16) c 2
  have g_tree := He.glo_ok X G (c.fact 2 (f := .glo "_law_tree") rfl)
  have b_tree : Binds K fd_tree ["_law_state", "_law_floors", "_law_room"] [] := F_tree.binds fun _ _ _ _ _ _ us hl => match us, hl with | [_, _, _], _ => rfl
  obtain ⟨fd_lists, F_lists⟩ := def_of (x := "_law_lists") (st := top 17) c 3
  have g_lists := He.glo_ok X G (c.fact 3 (f := .glo "_law_lists") rfl)
  have b_lists : Binds K fd_lists ["_law_tree_here"] [] := F_lists.binds fun _ _ _ _ _ _ us hl => match us, hl with | [_], _ => rfl
  obtain ⟨fd_depth, F_depth⟩ := def_of (x := "_law_depth") (st := top 18) c 4
  have g_depth := He.glo_ok X G (c.fact 4 (f := .glo "_law_depth") rfl)
  have b_depth : Binds K fd_depth ["_law_tree_here"] [] := F_depth.binds fun _ _ _ _ _ _ us hl => match us, hl with | [_], _ => rfl
  obtain ⟨fd_text, F_text⟩ := def_of (x := "_law_text") (st := top 19) c 5
  have g_text := He.glo_ok X G (c.fact 5 (f := .glo "_law_text") rfl)
  have b_text : Binds K fd_text ["_law_tree_here"] [] := F_text.binds fun _ _ _ _ _ _ us hl => match us, hl with | [_], _ => rfl
  obtain ⟨fd_whole, F_whole⟩ := def_of (x := "_law_whole") (st := top 20) c 6
  have g_whole := He.glo_ok X G (c.fact 6 (f := .glo "_law_whole") rfl)
  have b_whole : Binds K fd_whole ["_law_number", "_law_due"] [] := F_whole.binds fun _ _ _ _ _ _ us hl => match us, hl with | [_, _], _ => rfl
  obtain ⟨fd_right, F_right⟩ := def_of (x := "_law_right") (st := top 21) c 7
  have g_right := He.glo_ok X G (c.fact 7 (f := .glo "_law_right") rfl)
  have b_right : Binds K fd_right ["_law_tree_here"] [] := F_right.binds fun _ _ _ _ _ _ us hl => match us, hl with | [_], _ => rfl
  obtain ⟨fd_law, F_law⟩ := def_of (x := "law") (st := top 22) c 8
  have g_law := He.glo_ok X G (c.fact 8 (f := .glo "law") rfl)
  have b_law : Binds K fd_law ["_law_script"] [] := F_law.binds fun _ _ _ _ _ _ us hl => match us, hl with | [_], _ => rfl
  obtain ⟨fd_partsof, F_partsof⟩ := def_of (x := "parts_of") (st := top 4) c 9
  have g_partsof := He.glo_ok X G (c.fact 9 (f := .glo "parts_of") rfl)
  have b_partsof : Binds K fd_partsof ["text"] [] := F_partsof.binds fun _ _ _ _ _ _ us hl => match us, hl with | [_], _ => rfl
  obtain ⟨fd_isshape, F_isshape⟩ := def_of (x := "is_shape") (st := top 9) c 10
  have g_isshape := He.glo_ok X G (c.fact 10 (f := .glo "is_shape") rfl)
  have b_isshape : Binds K fd_isshape ["text"] [] := F_isshape.binds fun _ _ _ _ _ _ us hl => match us, hl with | [_], _ => rfl
  obtain ⟨fd_hasform, F_hasform⟩ := def_of (x := "has_form") (st := top 10) c 11
  have g_hasform := He.glo_ok X G (c.fact 11 (f := .glo "has_form") rfl)
  have b_hasform : Binds K fd_hasform ["text", "floors"] [] := F_hasform.binds fun _ _ _ _ _ _ us hl => match us, hl with | [_, _], _ => rfl
  obtain ⟨fd_init, F_init⟩ := mth_of (C := "Shape") (m := "__init__") (q := "Shape.__init__") (st := inClass (top 11) 0) c 12
  have b_init : Binds K fd_init ["self", "text"] [] := F_init.binds fun _ _ _ _ _ _ us hl => match us, hl with | [_, _], _ => rfl
  obtain ⟨fd_len, F_len⟩ := mth_of (C := "Shape") (m := "__len__") (q := "Shape.__len__") (st := inClass (top 11) 3) c 13
  have b_len : Binds K fd_len ["self"] [] := F_len.binds fun _ _ _ _ _ _ us hl => match us, hl with | [_], _ => rfl
  have m_len := He.meth_ok (c.fact 36 (f := .meth "Shape" "__len__") rfl)
  obtain ⟨fd_getitem, F_getitem⟩ := mth_of (C := "Shape") (m := "__getitem__") (q := "Shape.__getitem__") (st := inClass (top 11) 4) c 14
  have b_getitem : Binds K fd_getitem ["self", "at"] [] := F_getitem.binds fun _ _ _ _ _ _ us hl => match us, hl with | [_, _], _ => rfl
  have m_getitem := He.meth_ok (c.fact 37 (f := .meth "Shape" "__getitem__") rfl)
  obtain ⟨fd_eq, F_eq⟩ := mth_of (C := "Shape") (m := "__eq__") (q := "Shape.__eq__") (st := inClass (top 11) 6) c 15
  have b_eq : Binds K fd_eq ["self", "other"] [] := F_eq.binds fun _ _ _ _ _ _ us hl => match us, hl with | [_, _], _ => rfl
  have m_eq := He.meth_ok (c.fact 38 (f := .meth "Shape" "__eq__") rfl)
  obtain ⟨fd_str, F_str⟩ := mth_of (C := "Shape") (m := "__str__") (q := "Shape.__str__") (st := inClass (top 11) 7) c 16
  have b_str : Binds K fd_str ["self"] [] := F_str.binds fun _ _ _ _ _ _ us hl => match us, hl with | [_], _ => rfl
  have m_str := He.meth_ok (c.fact 39 (f := .meth "Shape" "__str__") rfl)
  obtain ⟨fd_repr, F_repr⟩ := mth_of (C := "Shape") (m := "__repr__") (q := "Shape.__repr__") (st := inClass (top 11) 8) c 17
  have b_repr : Binds K fd_repr ["self"] [] := F_repr.binds fun _ _ _ _ _ _ us hl => match us, hl with | [_], _ => rfl
  have m_repr := He.meth_ok (c.fact 40 (f := .meth "Shape" "__repr__") rfl)
  have gS := He.glo_ok X G (c.fact 12 (f := .glo "Shape") rfl)
  have mkS := He.mkr_ok (c.fact 35 (f := .mkr "Shape") rfl)
  have clS := He.cls_ok (c.fact 30 (f := .cls "Shape") rfl)
  have shc : ShC K (He.ga K "Shape") := ⟨clS, y1, y2, y3, y4, He.noat_ok (c.fact 31 (f := .noat "Shape" "text") rfl), He.noat_ok (c.fact 32 (f := .noat "Shape" "_parts") rfl), He.noat_ok (c.fact 33 (f := .noat "Shape" "_depth") rfl), He.noat_ok (c.fact 34 (f := .noat "Shape" "_lists") rfl)⟩
  have TP : TxtP mg := ⟨He.free_ok X G (c.fact 16 (f := .free "enumerate") rfl), He.free_ok X G (c.fact 17 (f := .free "all") rfl), He.free_ok X G (c.fact 15 (f := .free "len") rfl), He.int_ok X G (c.fact 27 (f := .int "MOST_ITEMS" 3) rfl), He.int_ok X G (c.fact 28 (f := .int "MOST_DEPTH" 3) rfl), He.int_ok X G (c.fact 29 (f := .int "MOST_LISTS" 5) rfl)⟩
  have TS : TxtS mg := ⟨TP, He.free_ok X G (c.fact 18 (f := .free "isinstance") rfl), He.free_ok X G (c.fact 19 (f := .free "str") rfl), He.free_ok X G (c.fact 20 (f := .free "tuple") rfl), He.free_ok X G (c.fact 21 (f := .free "max") rfl)⟩
  have TL : TxtL mg := ⟨⟨⟨⟨TS, He.free_ok X G (c.fact 22 (f := .free "sum") rfl)⟩, He.free_ok X G (c.fact 23 (f := .free "range") rfl)⟩, He.free_ok X G (c.fact 13 (f := .free "int") rfl), He.free_ok X G (c.fact 24 (f := .free "bool") rfl), He.free_ok X G (c.fact 25 (f := .free "repr") rfl)⟩, He.free_ok X G (c.fact 26 (f := .free "zip") rfl)⟩
  have TD : TxtD mg := ⟨He.free_ok X G (c.fact 13 (f := .free "int") rfl), He.free_ok X G (c.fact 14 (f := .free "abs") rfl), He.free_ok X G (c.fact 15 (f := .free "len") rfl)⟩
  have O : Oth K (He.ga K "Shape") := ⟨y7, y8, y9, y10, y11, y12, y13, y14⟩
  have e := hfa.symm.trans g_law
  cases e
  refine ⟨fd_law, fun s v => ?_, fun base _ _ => ?_⟩
  · obtain ⟨oc, od, kV, doc, pm, an, cdv, ct, osl, e7, _, _⟩ := F_law.ex
    subst e7
    exact .of_eq rfl
  · have rP : Rd P w K mg base "parts_of" 1 ["text"] spParts := ⟨_, fd_partsof, g_partsof, F_partsof.kp, b_partsof, ok_parts F_partsof TP⟩
    have rF : Rd P w K mg base "has_form" 5 ["text", "floors"] (spForm 3) := rd_form F_hasform g_hasform b_hasform TP rP 3
    have rI : Rd P w K mg base "is_shape" 6 ["text"] spShape := ⟨_, fd_isshape, g_isshape, F_isshape.kp, b_isshape, ok_is F_isshape TP rF⟩
    have pD : Pr P w K mg base (He.ga K "Shape") "depth" "_depth" 1 := pr_of y15 gg1 y17 ⟨rfl, rfl, rfl, by decide +kernel, rfl, by decide +kernel, by decide +kernel⟩ rfl (fun _ _ _ _ _ _ us hl => match us, hl with | [_], _ => rfl) clS shc.nD
    have pL : Pr P w K mg base (He.ga K "Shape") "lists" "_lists" 1 := pr_of y16 gg2 y18 ⟨rfl, rfl, rfl, by decide +kernel, rfl, by decide +kernel, by decide +kernel⟩ rfl (fun _ _ _ _ _ _ us hl => match us, hl with | [_], _ => rfl) clS shc.nL
    have rDr : Rd P w K mg base "_law_draw" 1 ["_law_state", "_law_many"] spDraw := ⟨_, fd_draw, g_draw, F_draw.kp, b_draw, ok_draw F_draw TD⟩
    have rSt : Rd P w K mg base "_law_start" 1 ["_law_script"] (spStart K) := ⟨_, fd_start, g_start, F_start.kp, b_start, ok_start F_start TD⟩
    have rW : Rd P w K mg base "_law_whole" 1 ["_law_number", "_law_due"] spWhole := ⟨_, fd_whole, g_whole, F_whole.kp, b_whole, ok_whole F_whole TL.toTxtR⟩
    have TF : TxtF mg := TL.toTxtR.toTxtT.toTxtF
    have rL : ∀ n, n ≤ 3 → Rd P w K mg base "_law_lists" (1 + n) ["_law_tree_here"] (spLists K n) := rd_lists F_lists g_lists b_lists TF
    have N : EnvR P w K mg base (He.ga K "Shape") := {
      T := TL.toTxtR
      c := shc
      g := gS
      hk := y5
      hne := y6
      rT := rd_text F_text g_text b_text TF
      rD := rd_depth F_depth g_depth b_depth TF
      rL := rL
      rM := fun n hn => (rm_init F_init TS shc gS mkS b_init rI (rP.mono (by decide)) pD (by decide) n hn).mono (by omega)
      rW := rW
      pD := pD
      pL := pL
      dLen := ⟨_, fd_len, m_len.at_, m_len.fn, fnIn_of F_len, b_len, ok_len F_len TS shc⟩
      dGet := ⟨_, fd_getitem, m_getitem.at_, m_getitem.fn, fnIn_of F_getitem, b_getitem, ok_get F_getitem TS shc⟩
      dStr := ⟨_, fd_str, m_str.at_, m_str.fn, fnIn_of F_str, b_str, ok_str F_str TS shc⟩
      dRepr := ⟨_, fd_repr, m_repr.at_, m_repr.fn, fnIn_of F_repr, b_repr, ok_repr F_repr TS shc⟩
      dEq := ⟨_, fd_eq, m_eq.at_, m_eq.fn, fnIn_of F_eq, b_eq, ok_eq F_eq TS shc gS y5⟩ }
    have rT : Rd P w K mg base "_law_tree" 7 ["_law_state", "_law_floors", "_law_room"] (spTree3 K) := ⟨_, fd_tree, g_tree, F_tree.kp, b_tree, fn_tree3 (fn_tree F_tree g_tree b_tree TL.toTxtR.toTxtT rDr rL)⟩
    have rR : Rd P w K mg base "_law_right" 16 ["_law_tree_here"] (spRight K) := ⟨_, fd_right, g_right, F_right.kp, b_right, ok_right F_right N⟩
    exact ok_law F_law N TL O rSt rDr rT rR
end Hs
open PySem PySem.W PySem.Calls PyProof.Rows
set_option maxHeartbeats 0 in
theorem PySem.Challenge.cw_handedcopies_k01_shapes_made_holds : PySem.Challenge.rw_handedcopies_k01_shapes_made.Holds := by
  w_on; o_law
  refine HandSHeadRun.head_any (r := OpenLaw.row PySem.Challenge.rw_handedcopies_k01_shapes_made) (q := view (OpenLaw.row PySem.Challenge.rw_handedcopies_k01_shapes_made).prog [22]) (H := Hc.hookG 8 Hs.fa01 Hs.fn01 Hs.ex01 Hs.gt01 Hs.gv01) (ob := Hc.obG 8 Hs.fa01 Hs.fn01 Hs.ex01 Hs.gt01) (M := 12000) (loose := Hs.lo01) (d := HandSHeadRun.topDef (OpenLaw.row PySem.Challenge.rw_handedcopies_k01_shapes_made).prog 22) (kwd := []) (Hc.obG_eq _ _ _ _ _ _)
    (by kernel_rfl) (fun s => by kernel_rfl) Hs.run01 (by kernel_rfl) (by kernel_rfl) (by kernel_rfl) (by rfl) (by first | assumption | decide +kernel) (by decide +kernel) ⟨rfl, rfl, rfl, rfl, rfl, by decide +kernel⟩ ?hw ?hc
  case hw => w_witness2
  case hc =>
    refine L2.walk_ofE (l := PySem.Challenge.rw_handedcopies_k01_shapes_made) (n := 63) (k := 18) (x := "_law_script") (CX := L2.CX0) rfl (by decide) (by kernel_rfl) ⟨rfl, by decide, by decide⟩ ?F (fun _ _ _ _ z => z)
    intro w mg fa h Y G hmg0
    obtain ⟨K, KX, x, c, gg⟩ := Y
    have hmg : mg ("law" : PySem.Str) = some (.ref fa) := by
      have e : (HandSHeadRun.topDef (OpenLaw.row PySem.Challenge.rw_handedcopies_k01_shapes_made).prog 22).name = ("law" : PySem.Str) := by kernel_rfl
      rw [← e]
      exact hmg0
    obtain ⟨fd, hb, hF⟩ := Hs.facts01 (P := (PySem.Challenge.rw_handedcopies_k01_shapes_made).prog) (w := w) KX G hmg x c gg
    exact ⟨K, fd, Hs.spLaw K, KX, hb, fun H a ns hl _ hS => ⟨a, ns, rfl, hS, hl, fun _ => rfl⟩, hF⟩
