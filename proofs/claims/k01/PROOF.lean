import PyProof.Rows.All
import Wide.All
import OpenK.AllK
import Wide.FinOn
import HandS.ForMost
import HandS.More
import HandS.Wide
import HandS.Exc
import HandS.ExcOwn
import HandS.WordsExc
import HandS.Defaults
import HandS.DictComp
import HandS.DictEq
import HandS.OwnEq
import HandS.IsInst
import HandS.ListItems
import HandS.Finally
import HandS.Walk
import HandS.HeadEnd
import HandS.Head0
import HandS.Head1
import HandS.Head2
import HandS.HeadHook1
import HandS.HeadHook2
import KE.KSortAny
import PySem.Challenge.RW_stepposts_k01_trees_told
set_option Elab.async false
set_option linter.all false
set_option maxRecDepth 100000
set_option maxHeartbeats 0
/-! SPBase: what every law of Stepposts leans on: texts in order, sorted of any length, calls by packages, == of dicts and of own classes. -/
namespace SP
open PySem PySem.Spec PyProof.Rows L2

/-! ### texts in order -/
def leS (a b : Str) : Bool := !ltCps b.cps.toList a.cps.toList
theorem ltCps_irrefl : ∀ a : List Nat, ltCps a a = false
  | [] => rfl
  | x :: r => by simp [ltCps, ltCps_irrefl r]
theorem ltCps_trans : ∀ a b c : List Nat, ltCps a b = true → ltCps b c = true → ltCps a c = true
  | [], [], _, h, _ => by simp [ltCps] at h
  | [], _ :: _, [], _, h => by simp [ltCps] at h
  | [], _ :: _, _ :: _, _, _ => rfl
  | _ :: _, [], _, h, _ => by simp [ltCps] at h
  | _ :: _, _ :: _, [], _, h => by simp [ltCps] at h
  | x :: a, y :: b, z :: c, h, h' => by
    have ih := ltCps_trans a b c
    simp only [ltCps, Bool.or_eq_true, decide_eq_true_eq, Bool.and_eq_true, beq_iff_eq] at h h' ⊢
    rcases h with h | ⟨e, h⟩
    · rcases h' with h' | ⟨e', h'⟩
      · exact .inl (Nat.lt_trans h h')
      · exact .inl (e' ▸ h)
    · rcases h' with h' | ⟨e', h'⟩
      · exact .inl (e ▸ h')
      · exact .inr ⟨e.trans e', ih h h'⟩
theorem ltCps_tri : ∀ a b : List Nat, ltCps a b = false → ltCps b a = false → a = b
  | [], [], _, _ => rfl
  | [], _ :: _, h, _ => by simp [ltCps] at h
  | _ :: _, [], _, h => by simp [ltCps] at h
  | x :: a, y :: b, h, h' => by
    have ih := ltCps_tri a b
    simp only [ltCps, Bool.or_eq_false_iff, decide_eq_false_iff_not, Bool.and_eq_false_iff] at h h'
    have e : x = y := by omega
    subst e
    rcases h.2 with q | q
    · simp at q
    · rcases h'.2 with q' | q'
      · simp at q'
      · rw [ih q q']
theorem leS_total (a b : Str) : (leS a b || leS b a) = true := by
  unfold leS
  cases h : ltCps b.cps.toList a.cps.toList with
  | false => rfl
  | true =>
    cases h' : ltCps a.cps.toList b.cps.toList with
    | false => rfl
    | true =>
      have := ltCps_trans _ _ _ h h'
      rw [ltCps_irrefl] at this; cases this
theorem leS_trans (a b c : Str) (h : leS a b = true) (h' : leS b c = true) : leS a c = true := by
  unfold leS at *
  simp only [Bool.not_eq_true'] at *
  cases q : ltCps c.cps.toList a.cps.toList with
  | false => rfl
  | true =>
    exfalso
    by_cases e : ltCps a.cps.toList b.cps.toList = true
    · have := ltCps_trans _ _ _ q e
      rw [h'] at this; cases this
    · have e2 : ltCps a.cps.toList b.cps.toList = false := by simpa using e
      have e3 := ltCps_tri _ _ e2 h
      rw [e3] at q
      rw [q] at h'; cases h'
theorem leS_antisymm (a b : Str) (h : leS a b = true) (h' : leS b a = true) : a = b := by
  unfold leS at *
  simp only [Bool.not_eq_true'] at *
  have e := ltCps_tri _ _ h' h
  cases a; cases b
  have e2 := Array.ext' e
  exact congrArg Str.mk e2
theorem leS_refl (a : Str) : leS a a = true := by unfold leS; rw [ltCps_irrefl]; rfl
/-- the texts in order -/
def srt (xs : List Str) : List Str := xs.mergeSort leS
theorem srt_perm (xs : List Str) : (srt xs).Perm xs := List.mergeSort_perm xs leS
theorem srt_pw (xs : List Str) : (srt xs).Pairwise (fun a b => leS a b = true) := List.pairwise_mergeSort leS_trans leS_total xs
theorem rising_pw : ∀ (l : List Str) (p : Str), risingS p l = true → (p :: l).Pairwise (fun a b => leS a b = true)
  | [], p, _ => List.pairwise_singleton _ _
  | x :: r, p, h => by
    have h2 : (!ltCps x.cps.toList p.cps.toList) = true ∧ risingS x r = true := by
      simpa [risingS, Bool.and_eq_true] using h
    have ih := rising_pw r x h2.2
    refine List.pairwise_cons.mpr ⟨fun y hy => ?_, ih⟩
    rcases List.mem_cons.mp hy with rfl | hy
    · exact h2.1
    · exact leS_trans _ _ _ h2.1 ((List.pairwise_cons.mp ih).1 y hy)
theorem sortedS_pw : ∀ l : List Str, sortedS l = true → l.Pairwise (fun a b => leS a b = true)
  | [], _ => List.Pairwise.nil
  | x :: r, h => rising_pw r x h
theorem pw_unique {l l' : List Str} (h : l.Perm l') (a : l.Pairwise (fun a b => leS a b = true)) (b : l'.Pairwise (fun a b => leS a b = true)) : l = l' :=
  h.eq_of_pairwise (fun x y _ _ h1 h2 => leS_antisymm x y h1 h2) a b
theorem srt_eq {xs ys : List Str} (p : ys.Perm xs) (s : sortedS ys = true) : ys = srt xs :=
  pw_unique (p.trans (srt_perm xs).symm) (sortedS_pw _ s) (srt_pw xs)
theorem srt_congr {xs ys : List Str} (p : ys.Perm xs) : srt ys = srt xs :=
  pw_unique ((srt_perm ys).trans (p.trans (srt_perm xs).symm)) (srt_pw ys) (srt_pw xs)
theorem mem_srt {x : Str} {xs : List Str} : x ∈ srt xs ↔ x ∈ xs := (srt_perm xs).mem_iff
theorem srt_len (xs : List Str) : (srt xs).length = xs.length := (srt_perm xs).length_eq
theorem srt_nodup {xs : List Str} (h : xs.Nodup) : (srt xs).Nodup := (srt_perm xs).nodup_iff.mpr h
theorem srt_nil : srt [] = [] := by rw [← List.length_eq_zero_iff, srt_len]; rfl
theorem srt_srt (xs : List Str) : srt (srt xs) = srt xs := srt_congr (srt_perm xs)

/-! ### sorted, of any length -/
section
variable {X : Cx}
theorem strs_line {ys xs : List Str} {n : Nat} (p : ys.Perm xs) (e : (xs.map V.str).length = n) (h : n ≤ sizeLine) : (ys.map V.str).length ≤ sizeLine := by
  rw [List.length_map, p.length_eq]
  rw [List.length_map] at e
  omega
/-- sorted(xs), xs a list of texts -/
def rSortedSA (K : PySem.W.Frag) : List V → Hp → VK → Prop := fun vs H Q => ∃ (a : Addr) (xs : List Str), vs = [V.ref a] ∧ SqL K H a (xs.map V.str) ∧ ∀ p : Addr, H p = none → Q (.ref p) (upd H p (.lst ((srt xs).map V.str)))
theorem cr_sortedSA : CallR X (.builtin "sorted") (rSortedSA X.K) := by
  intro pins s σ H vs us Q I r h
  obtain ⟨a, xs, rfl, hs, q⟩ := h
  obtain ⟨its, rv, hl, hz⟩ := I.list hs
  have eu := Vals.ref1 r
  subst eu
  have hlen0 : (xs.map V.str).length = its.length := rv.length
  refine PyProof.Rows.sorted_strsAny hl.isList rv.strs (by rw [← hlen0]; exact hz) fun out ys h1 h2 h3 => ?_
  obtain ⟨ep, he⟩ := PyProof.Rows.sortedAll_at s.heap its out
  have hlen : (ys.map V.str).length ≤ sizeLine := strs_line h2 rfl hz
  have es := srt_eq h2 h3
  subst es
  refine ⟨.ref _, upd H (s.heap.objs.size + 1) (.lst ((srt xs).map V.str)), ?_, rfl, q _ (I.hok.fresh (Nat.le_succ _))⟩
  exact I.laid (t' := s.toks) (fun _ _ => PyProof.Rows.sortedAll_old) (Nat.le_succ _) ⟨hlen, out.toList, ep, vals_of_strs h1, he⟩
/-- sorted(d), d's keys texts -/
theorem call_sortedDA (hcalm : X.calm = true) : CallR X (.builtin "sorted") (fun xs H Q => ∃ (a : Addr) (kvs : List (Key × V)) (ks : List Str), xs = [.ref a] ∧ Rd H a (.dK kvs) ∧ kvs.map (·.1) = ks.map Sum.inr ∧ ∀ p, H p = none → Q (.ref p) (upd H p (.lst ((srt ks).map V.str)))) := by
  intro pins s σ H xs us Q I r q
  obtain ⟨a, kvs, ks, rfl, hd, hks, q⟩ := q
  have eu := Vals.ref1 r
  subst eu
  obtain ⟨z, lo, vs, rel, dd⟩ := dk_rd I.hok hd
  obtain ⟨ep, hat⟩ := dd.dictAt
  have hkeys : vs.map (·.1) = ks.map Sum.inr := rel.keys.symm.trans hks
  have hl : vs.length = ks.length := by simpa using congrArg List.length hkeys
  have h16 : vs.length ≤ sizeLine := by rw [← rel.length]; exact z
  have hkl : ks.length ≤ sizeLine := by omega
  refine Calls.call_function_entry PyProof.Rows.kind_sorted PyProof.Rows.plain_sorted PyProof.Rows.entry_sorted (PyProof.Rows.args_sorted1 _) ?_
  unfold Builtin.«sorted»
  refine wpAny_bind (m := checkCount "sorted" 1 1 _) (wpAny_pure ?_)
  refine wpAny_bind (PySem.W.kdu_collect (A := X.A.in1) (PySem.W.kdl_dict (knd := mixKind X.prog X.w) (kvs := vs) (ep := ep) lo) (I.ok.hd hcalm) hat h16 fun h1 tk acc hk hacc => ?_)
  have hal : acc.toList.length = ks.length := by simpa using hacc.1.trans hl
  have hS : StrsAre acc.toList ks := by
    refine strs_at hal fun j v e => ?_
    obtain ⟨k, x, e1, e2⟩ := hacc.2 j v (by simpa using e)
    have e3 : (ks.map Sum.inr)[j]? = some k := by
      have e4 : (vs.map (·.1))[j]? = some k := by simp [e1]
      rw [hkeys] at e4
      exact e4
    cases e5 : ks[j]? with
    | none => simp [e5] at e3
    | some y =>
      have e6 : Sum.inr y = k := by simpa [e5] using e3
      rw [← e6] at e2
      obtain ⟨t, ev⟩ := Value.isStrOf_shape (x := y) (v := v) e2
      exact ⟨y, t, rfl, ev⟩
  have I1 : Inv X pins σ H { s with heap := h1, toks := tk } := I.kept hk
  refine wpAny_bind (wpAny_newList ?_ (by omega))
  have hoL : (h1.push (seqObj "list" acc.toList.toArray 0)).get? h1.objs.size = some (seqObj "list" acc.toList.toArray 0) := Heap.get?_push_size _ rfl
  show wpAny _ _ _ _ _ { s with heap := h1.push (seqObj "list" acc.toList.toArray 0), toks := tk }
  refine wpAny_bind (wpAny_holding (wpAny_call_entry PyProof.Rows.slot_list_sort ⟨_, hoL, rfl⟩ PyProof.Rows.entry_list_sort
    (list_sort_treeKAny strKind_oneLt (s := { s with heap := h1.push (seqObj "list" acc.toList.toArray 0), toks := tk }) hoL hS.keysOf
      (fun v₁ v₂ rest e => keyKind_strs (by rw [← e]; exact hS)) (by omega) fun st' hp hs => ⟨_, rfl, ?_⟩) (PyProof.Rows.args_list_sort _)))
  obtain ⟨ys, g1, g2, g3⟩ := sorted_out_str hS hp hs
  obtain ⟨e', he'⟩ := PyProof.Rows.sortedHeap_at (vs := acc.toList) (out := (arrOf st').map (·.2)) hoL
  have es := srt_eq g2 g3
  subst es
  have hlen : ((srt ks).map V.str).length ≤ sizeLine := by rw [List.length_map, srt_len]; exact hkl
  refine wpAny_pure ⟨_, rfl, .ref h1.objs.size, upd H h1.objs.size (.lst ((srt ks).map V.str)), I1.laid (t' := tk) (fun b u e => ?_) (Nat.le_refl _) ?_, rfl, q _ (I1.hok.fresh (Nat.le_refl _))⟩
  · have hb : b < h1.objs.size := Heap.lt_size e
    rw [PyProof.Rows.sortedHeap_old (Nat.ne_of_lt hb) (by rw [size_push']; exact Nat.lt_succ_of_lt hb)]
    exact Heap.get?_push_of_some _ e
  · show ObjOk X.prog X.w _ _ _ (.lst ((srt ks).map V.str))
    exact ⟨hlen, ((arrOf st').map (·.2)).toList, e', vals_of_strs g1, by rw [Array.toArray_toList]; exact he'⟩

/-! ### xs[::-1] of a list -/
def rSlRev (K : PySem.W.Frag) : V → Hp → VK → Prop := fun x H Q => ∃ a xs, x = .ref a ∧ SqL K H a xs ∧ ∀ p, H p = none → Q (.ref p) (upd H p (.lst xs.reverse))
theorem sl_rev {pins : List (Addr × Obj)} {s : Shared} {σ : L2.St} {H : Hp} {x : V} {v vl : Value} {sl : Addr} {Q : VK} (I : Inv X pins σ H s) (rx : RelV x v) (hs : s.heap.IsSliceOf sl .none .none vl) (pk : PySem.IsPart vl (some (-1))) (h : rSlRev X.K x H Q) :
    ∃ T id, typeLookup (.type T) "__getitem__" = pure (some (.builtin id)) ∧ s.TypeIs v T ∧ wpAny (model X.prog X.w) X.A (getItem v (.ref sl)) (EP X pins σ Q) X.xe s := by
  obtain ⟨a, xs, rfl, hx, q⟩ := h
  cases rx
  obtain ⟨its, r, ht, hz⟩ := I.list hx
  have hlen := r.length
  refine ⟨"list", _, slot_list_getitem.lookup, ht.isList.typeIs, ?_⟩
  refine wpAny_getItem_list_slice ht.isList hs .none .none pk (by simp) ?_ (by rw [List.size_toArray] <;> omega)
  rw [PySem.W.krv_pick]
  refine ⟨.ref s.heap.objs.size, _, I.laid (t' := s.toks) (o := .lst xs.reverse) (fun b ob q => Heap.get?_push_of_some _ q) (Nat.le_refl _) ?_, rfl, q _ (I.hok.fresh (Nat.le_refl _))⟩
  exact ⟨by rw [List.length_reverse]; exact hz, _, 0, r.reverse, Heap.get?_push_size _ rfl⟩
def tSlRev (K : PySem.W.Frag) (te ts : TE) : TE := fun σ H Q => te σ H fun x H1 => ts σ H1 fun y H2 => y = .int (-1) ∧ rSlRev K x H2 Q
theorem pe_slRev {e sp : Expr} {te ts : TE} {pos p2 : Pos} (he : PE X e te) (hsp : PE X sp ts) : PE X (.Subscript e (.Slice none none (some sp) p2) pos) (tSlRev X.K te ts) := by
  refine ⟨fun pins s σ H Q I h => ?_⟩
  refine Subscript_ (thn (he.run pins s σ H _ I h) fun v s1 ⟨x, H1, I1, r1, q1⟩ => ?_)
  refine wpAny_Slice ?_
  rw [evalPart_none]
  refine wpAny_pure ?_
  refine wpAny_pure ?_
  rw [evalPart_some]
  refine thn (hsp.run pins s1 σ H1 _ I1 q1) fun u s2 ⟨y, H2, I2, r2, e2, q2⟩ => ?_
  subst e2
  obtain ⟨t, rfl⟩ := r2
  have I4 : Inv X pins σ H2 { s2 with heap := s2.heap.push { cls := .type "slice", data := .fields #[.none, .none, .int (-1) t] } } := I2.kept (t' := s2.toks) fun b ob q => Heap.get?_push_of_some _ q
  obtain ⟨T, id, hT, ht, hg⟩ := sl_rev (s := { s2 with heap := s2.heap.push { cls := .type "slice", data := .fields #[.none, .none, .int (-1) t] } }) (sl := s2.heap.objs.size) I4 r1 (Heap.IsSliceOf.new ..) (.int _ _) q2
  show wpAny (model X.prog X.w) X.A (subscriptTail e (.Slice none none (some sp) p2) v (.ref s2.heap.objs.size)) (EP X pins σ Q) X.xe { s2 with heap := s2.heap.push { cls := .type "slice", data := .fields #[.none, .none, .int (-1) t] } }
  exact tail_any (ops := [v, .ref s2.heap.objs.size]) ht hT hg (by with_unfolding_all rfl)

/-! ### dicts compared: flat values, either answer -/
theorem valV_mem {κ : Type} [DecidableEq κ] {k : κ} {y : V} : ∀ {l : List (κ × V)}, valV l k = some y → ∃ q ∈ l, q.1 = k ∧ q.2 = y
  | [], h => by cases h
  | p :: r, h => by
    by_cases e : p.1 = k
    · rw [valV_pos e] at h
      exact ⟨p, List.mem_cons_self, e, Option.some.inj h⟩
    · rw [valV_neg e] at h
      obtain ⟨q, hq, e2⟩ := valV_mem h
      exact ⟨q, List.mem_cons_of_mem _ hq, e2⟩
def eqKV (ks ls : List (Key × V)) : Bool := decide (ks.length = ls.length) && ks.all fun p => match valV ls p.1 with
  | some y => eqV p.2 y
  | none => false
theorem hits_any {A : Around} {s : Shared} {ls : List (Key × V)} {vb : List (Key × Value)} (rb : KV ls vb) (fl : ∀ p ∈ ls, flatV p.2 = true) : ∀ {ks : List (Key × V)} {va : List (Key × Value)}, KV ks va → (∀ p ∈ ks, flatV p.2 = true) →
    ∃ r, PySem.W.KeqHits A s vb va r ∧ r = ks.all fun p => match valV ls p.1 with
      | some y => eqV p.2 y
      | none => false := by
  intro ks va ra
  unfold KV at ra
  induction ra with
  | nil => intro _; exact ⟨true, .nil, rfl⟩
  | @cons p q ps qs h t ih =>
    intro hp
    obtain ⟨h1, h2⟩ := h
    obtain ⟨r, hr, er⟩ := ih fun p' hm => hp p' (List.mem_cons_of_mem _ hm)
    obtain ⟨k, v⟩ := q
    have h1' : p.1 = k := h1
    have rr : RelO (valV ls p.1) (valueAt vb p.1) := rb.val p.1
    cases e : valV ls p.1 with
    | none =>
      rw [e] at rr
      have e2 := rr.none_of
      rw [h1'] at e2
      exact ⟨false, .miss e2, by simp [e]⟩
    | some y =>
      rw [e] at rr
      obtain ⟨yv, hy, ry⟩ := rr.some_of
      rw [h1'] at hy
      have fy : flatV y = true := by
        obtain ⟨q, hq, _, e3⟩ := valV_mem e
        rw [← e3]
        exact fl q hq
      exact ⟨eqV p.2 y && r, .hit hy (eqAt_V h2 ry (hp p List.mem_cons_self) fy) hr, by simp [e, er]⟩
def rEqD2 (neg : Bool) : R2 := fun x y H Q => ∃ a b ks ls, x = .ref a ∧ y = .ref b ∧ Rd H a (.dK ks) ∧ Rd H b (.dK ls) ∧ (∀ p ∈ ks, flatV p.2 = true) ∧ (∀ p ∈ ls, flatV p.2 = true) ∧ Q (.bl (if neg then !eqKV ks ls else eqKV ks ls)) H
theorem op_eqD2 (hu : X.A.units < cLine) : OpR X (compareOp .Eq) (rEqD2 false) := by
  intro pins s σ H x y v u Q I rx ry h
  obtain ⟨a, b, ks, ls, rfl, rfl, ea, eb, fk, fl, q⟩ := h
  obtain rfl : v = Value.ref a := rx
  obtain rfl : u = Value.ref b := ry
  obtain ⟨_, ya, va, ra, da⟩ := dk_rd I.hok ea
  obtain ⟨_, yb, vb, rb, db⟩ := dk_rd I.hok eb
  obtain ⟨r, hr, er⟩ := hits_any (A := X.A.in1) (s := s) rb fl ra fk
  refine PySem.W.keq_eq (knd := mixKind X.prog X.w) (r := r) ya yb da db hu (fun _ => hr) (fin_bl I q ?_)
  have e : (va.length == vb.length) = decide (ks.length = ls.length) := by
    rw [← ra.length, ← rb.length, Bool.beq_eq_decide_eq]
  rw [e, er]
  rfl
theorem op_neD2 (hu : X.A.units < cLine) : OpR X (compareOp .NotEq) (rEqD2 true) := by
  intro pins s σ H x y v u Q I rx ry h
  obtain ⟨a, b, ks, ls, rfl, rfl, ea, eb, fk, fl, q⟩ := h
  obtain rfl : v = Value.ref a := rx
  obtain rfl : u = Value.ref b := ry
  obtain ⟨_, ya, va, ra, da⟩ := dk_rd I.hok ea
  obtain ⟨_, yb, vb, rb, db⟩ := dk_rd I.hok eb
  obtain ⟨r, hr, er⟩ := hits_any (A := X.A.in1) (s := s) rb fl ra fk
  refine PySem.W.keq_ne (knd := mixKind X.prog X.w) (r := r) ya yb da db hu (fun _ => hr) (fin_bl I q ?_)
  have e : (va.length == vb.length) = decide (ks.length = ls.length) := by
    rw [← ra.length, ← rb.length, Bool.beq_eq_decide_eq]
  rw [e, er]
  rfl

/-! ### a == b by a's own __eq__ -/
/-- x, an instance of the class at C, y of a type t (by TyX) that is no class below C; the own def's promise is sp -/
def rEqOwn (K : PySem.W.Frag) (C : Addr) (sp : Sp) (E : XK) : R2 := fun x y H Q => ∃ a dx fs t, x = .ref a ∧ H a = some (.ins C dx fs) ∧ TyX K H y t ∧ PySem.W.notFirst K C t = true ∧ sp [x, y] H (fun v H' => ∃ b, v = .bl b ∧ Q v H') E
theorem op_eqOwn {CX : CXT} {n : Nat} {C f : Addr} {fd : FuncData} {ps : List Str} {sp : Sp} {E : XK} (F : FnOk X.prog X.w X.K X.mg X.base CX n f fd ps sp) (hr : Room n X.A)
    (hs : PySem.W.findIn X.K (.ref C) "__eq__" = some (some (.ref f))) (hf : PySem.W.isFn X.K (.ref f) = true) (hb : Binds X.K fd ps []) (hx : Passes CX X E) : OpR X (compareOp .Eq) (rEqOwn X.K C sp E) := by
  intro pins s σ H x y v u Q I rx ry h
  obtain ⟨a, dx, fs, t, rfl, ha, ty, hn, hsp⟩ := h
  obtain ⟨P, Z, p, hne⟩ := kit_of I ry ty
  cases rx
  obtain ⟨mA, J, _⟩ := ins_get I.hok ha
  obtain ⟨od, J, _⟩ := J.look
  obtain ⟨m, hF⟩ := I.fr
  show wpAny (model X.prog X.w) X.A (richCompare .Eq (.ref a) u) (EP X pins σ Q) X.xe s
  refine PySem.W.cmp_K (op := .Eq) (tb := t) hr.units0 hF I.ok.mod.kin J (Z.ty _ _ I.kIn p) hn hs hf ?_
  have r2 : Vals [V.ref a, y] [Value.ref a, u] := .cons rfl (.cons ry .nil)
  have hl := F.len _ _ _ _ hsp
  have go := run_fn (dvs := []) (ds := []) (Q := fun v H' => ∃ b, v = V.bl b ∧ Q v H') F hr hb .nil hx I r2 hsp
  refine thn go fun w s' hq => ?_
  obtain ⟨z, H', I', rz, b, ez, q⟩ := hq
  subst ez
  cases rz
  exact ⟨.bl b, H', I', rfl, q⟩

/-! ### a walk over a dict, locked or not -/
/-- within, the dict is known to the object; a dict that is known already stays so -/
theorem pe_lockR {e : Expr} {t : TE} (h : PE X e t) : PE X e (fun σ H Q => tLockE t σ H Q ∨ t σ H Q) := by
  refine ⟨fun pins s σ H Q I q => ?_⟩
  rcases q with q | q
  · exact (pe_lock h).run pins s σ H Q I q
  · exact h.run pins s σ H Q I q
theorem ps_lockR {st : Stmt} {t : TS} (h : PS X st t) : PS X st (fun D σ H => tLock t D σ H ∨ t D σ H) := by
  refine ⟨fun pins s σ H D I q => ?_⟩
  rcases q with q | q
  · exact (ps_lock h).run pins s σ H D I q
  · exact h.run pins s σ H D I q
end

/-! ### defs, methods, classes as packages -/
section
variable (P : Program) (w : World) (K : PySem.W.Frag) (mg : Str → Option Value) (base : Heap)
/-- a def of the module, by its name -/
structure Def (k : Nat) (x : Str) (ps : List Str) (sp : Sp) : Prop where
  ex : ∃ fd, FnOk P w K mg base (L2.CX P w) k (He.ga K x) fd ps sp ∧ Binds K fd ps []
  at_ : mg x = some (.ref (He.ga K x))
  kp : PySem.W.keepIn K (.ref (He.ga K x)) = true
/-- a method of a class of the module -/
structure MDef (k : Nat) (C m : Str) (ps : List Str) (sp : Sp) : Prop where
  ex : ∃ fd, FnOk P w K mg base (L2.CX P w) k (He.ma K (He.ga K C) m) fd ps sp ∧ Binds K fd ps []
  mt : Meth K (He.ga K C) m (He.ma K (He.ga K C) m)
  cl : Cls K (He.ga K C)
/-- a class that is made by its own __init__ -/
structure CDef (k : Nat) (C : Str) (ps : List Str) (sp : Sp) : Prop where
  ex : ∃ fd, FnOk P w K mg base (L2.CX P w) k (He.ma K (He.ga K C) "__init__") fd ps sp ∧ Binds K fd ps []
  mak : Mk K (He.ga K C) (He.ma K (He.ga K C) "__init__")
  at_ : mg C = some (.ref (He.ga K C))
/-- an error class of the module -/
structure XDef (x : Str) : Prop where
  at_ : mg x = some (.ref (He.ga K x))
  ex : PySem.W.excIn K (He.ga K x) He.veBase "ValueError.__new__" = true
  kp : PySem.W.keepIn K (.ref (He.ga K x)) = true
  sub : PySem.W.subIn K (.ref (He.ga K x)) (.type "BaseException") = some true
  ty : PySem.W.typeIn K (.ref (He.ga K x)) = some (.type "type")
end
section
variable {X : Cx} {k : Nat} {x C m : Str} {ps : List Str} {sp : Sp} {E : XK} {e o : Expr} {es : List Expr} {ta : TE} {t : TA} {p pos apos : Pos}
theorem pe_callO (D : Def X.prog X.w X.K X.mg X.base k x ps sp) (hr : Room k X.A) (hg : Gl X x) (hx : Passes (L2.CX X.prog X.w) X E) (ha : PA X (e :: es) t)
    (hdb : (x == ("__debug__" : Str)) = false := by decide) (he : starEach (e :: es) X.env = (false, eval e X.env) :: starEach es X.env := by rfl) (hpl : (backTo pos (starEach es X.env)).any (·.1) = false := by rfl) :
    PE X (.Call (.Name x p) (e :: es) [] pos) (tCall sp [] E t) := by
  obtain ⟨fd, F, b⟩ := D.ex
  exact pe_call F hr hg D.at_ D.kp b .nil hx ha hdb he hpl
theorem pe_callO0 (D : Def X.prog X.w X.K X.mg X.base k x ps sp) (hr : Room k X.A) (hg : Gl X x) (hx : Passes (L2.CX X.prog X.w) X E)
    (hdb : (x == ("__debug__" : Str)) = false := by decide) : PE X (.Call (.Name x p) [] [] pos) (tCall sp [] E tNil) := by
  obtain ⟨fd, F, b⟩ := D.ex
  exact pe_call0 F hr hg D.at_ D.kp b .nil hx hdb
theorem pe_makeO (D : CDef X.prog X.w X.K X.mg X.base k x ps sp) (hr : Room (k + 1) X.A) (hg : Gl X x) (hx : Passes (L2.CX X.prog X.w) X E) (ha : PA X (e :: es) t)
    (hdb : (x == ("__debug__" : Str)) = false := by decide) (he : starEach (e :: es) X.env = (false, eval e X.env) :: starEach es X.env := by rfl) (hpl : (backTo pos (starEach es X.env)).any (·.1) = false := by rfl) :
    PE X (.Call (.Name x p) (e :: es) [] pos) (tMake (He.ga X.K x) sp [] E t) := by
  obtain ⟨fd, F, b⟩ := D.ex
  exact pe_make D.mak F hr hg D.at_ b .nil hx ha hdb he hpl
theorem pe_methO {pl : Sem Bool} (he : PE X o ta) (D : MDef X.prog X.w X.K X.mg X.base k C m ps sp) (hr : Room k X.A) (hx : Passes (L2.CX X.prog X.w) X E) (ha : PA X (e :: es) t)
    (hst : starEach (e :: es) X.env = (false, eval e X.env) :: starEach es X.env := by rfl) (hpl : (backTo pos (starEach es X.env)).any (·.1) = false := by rfl)
    (ht : eval (.Call (.Attribute o m apos) (e :: es) [] pos) X.env = (do
      let ov ← eval o X.env
      standAt apos.atName
      let (f, first) ← holding [ov] (getMethod ov m pl)
      callWith pos f first (backTo pos (starEach (e :: es) X.env)) (backToKw pos (keywordEach [] X.env))) := by rfl) :
    PE X (.Call (.Attribute o m apos) (e :: es) [] pos) (tMeth (He.ga X.K C) m sp [] E ta t) := by
  obtain ⟨fd, F, b⟩ := D.ex
  exact pe_meth he D.cl D.mt F hr b .nil hx ha hst hpl ht
theorem pe_methO0 {pl : Sem Bool} (he : PE X o ta) (D : MDef X.prog X.w X.K X.mg X.base k C m ps sp) (hr : Room k X.A) (hx : Passes (L2.CX X.prog X.w) X E)
    (ht : eval (.Call (.Attribute o m apos) [] [] pos) X.env = (do
      let ov ← eval o X.env
      standAt apos.atName
      let (f, first) ← holding [ov] (getMethod ov m pl)
      callWith pos f first (backTo pos (starEach [] X.env)) (backToKw pos (keywordEach [] X.env))) := by rfl) :
    PE X (.Call (.Attribute o m apos) [] [] pos) (tMeth (He.ga X.K C) m sp [] E ta tNil) := by
  obtain ⟨fd, F, b⟩ := D.ex
  exact pe_meth0 he D.cl D.mt F hr b .nil hx ht
/-- a == b by the own __eq__ of a's class -/
theorem op_eqO (D : MDef X.prog X.w X.K X.mg X.base k C "__eq__" ps sp) (hr : Room k X.A) (hx : Passes (L2.CX X.prog X.w) X E) : OpR X (compareOp .Eq) (rEqOwn X.K (He.ga X.K C) sp E) := by
  obtain ⟨fd, F, b⟩ := D.ex
  exact op_eqOwn F hr D.mt.at_ D.mt.fn b hx
/-- what a raising def hands on of a callee's errors -/
theorem passE {W : WX} (tk : Takes X W) (h : ∀ c d σ H, E c d H → W c d σ H) : Passes (L2.CX X.prog X.w) X E := passes_call tk h
/-- raise x('..') -/
theorem ps_raiseO {W : WX} {z : Str} {j : Nat} {pz pos2 : Pos} (hc : X.calm = true) (D : XDef X.K X.mg x) (tk : Takes X W) (hg : Gl X x := by rfl) (hdb : (x == ("__debug__" : Str)) = false := by decide) :
    PS X (.Raise (some (.Call (.Name x p) [.Constant (.str z) j pz] [] pos)) none pos2) (fun _ σ H => W (.ref (He.ga X.K x)) none σ H) :=
  ps_raise hc tk (pmk_own PySem.F.excBase_ValueError D.ex D.at_ D.kp (raises_own D.sub D.ty) hg hdb)
end

/-! ### heaps -/
section
variable {H H1 H2 : Hp} {p : Addr} {o : HO}
theorem Same.upd (e : Same H H1) (h : H p = none) : Same H (L2.upd H1 p o) := fun b u q => by
  rw [upd_ne (ne_of_none q h)]
  exact e b u q
theorem Same.upd' (h : H p = none) : Same H (L2.upd H p o) := Same.upd (Same.refl H) h
theorem Same.upd2 (e : Same H H1) (h : H1 p = none) : Same H (L2.upd H1 p o) := Same.upd e (e.free h)
theorem Same.rd (e : Same H H1) {u : HO} (h : Rd H p u) : Rd H1 p u := by
  rcases h with h | ⟨v, h⟩
  · exact .inl (e _ _ h)
  · exact .inr ⟨v, e _ _ h⟩
/-- all but p stands -/
def SameX (p : Addr) (H H1 : Hp) : Prop := ∀ b u, b ≠ p → H b = some u → H1 b = some u
theorem SameX.refl (p : Addr) (H : Hp) : SameX p H H := fun _ _ _ h => h
theorem SameX.of (e : Same H H1) : SameX p H H1 := fun b u _ h => e b u h
theorem SameX.trans (a : SameX p H H1) (b : SameX p H1 H2) : SameX p H H2 := fun c u n h => b c u n (a c u n h)
theorem SameX.upd (e : SameX p H H1) : SameX p H (L2.upd H1 p o) := fun b u n q => by
  rw [upd_ne n]
  exact e b u n q
theorem SameX.same (e : SameX p H H1) (h : H p = none) : Same H H1 := fun b u q => e b u (ne_of_none q h) q
theorem SameX.rd (e : SameX p H H1) {q : Addr} {u : HO} (n : q ≠ p) (h : Rd H q u) : Rd H1 q u := by
  rcases h with h | ⟨v, h⟩
  · exact .inl (e _ _ n h)
  · exact .inr ⟨v, e _ _ n h⟩
end

/-! ### walks: locked dicts, dicts made in a walk -/
section
variable {H : Hp} {σ : L2.St} {d : Addr} {u : HO}
/-- a walk over the dict at d, be it known already or not: what is shown of the walk within (H0), and what then holds behind (H2) -/
theorem rd_lock {t : TE} {Q : VK} (hd : Rd H d u) (mu : Mut (some u))
    (k : ∀ (H0 : Hp) (od : Obj) (Q' : VK), H0 d = some (.frz od u) → (∀ b, b ≠ d → H0 b = H b) → (∀ v H1, H1 d = some (.frz od u) → (∀ H2 : Hp, H2 d = H d → (∀ b, b ≠ d → H2 b = H1 b) → Q v H2) → Q' v H1) → t σ H0 Q') :
    tLockE t σ H Q ∨ t σ H Q := by
  rcases hd with h | ⟨od, h⟩
  · refine .inl ⟨d, u, h, mu, fun od => k _ od _ upd_same (fun b hb => upd_ne hb) fun v H1 h1 q => ⟨h1, q _ ?_ fun b hb => upd_ne hb⟩⟩
    rw [upd_same, h]
  · exact .inr (k H od Q h (fun _ _ => rfl) fun v H1 h1 q => q H1 (by rw [h1, h]) fun _ _ => rfl)
theorem rd_lockS {t : TS} {D : Ends} (hd : Rd H d u) (mu : Mut (some u))
    (k : ∀ (H0 : Hp) (od : Obj) (D' : Ends), H0 d = some (.frz od u) → (∀ b, b ≠ d → H0 b = H b) →
      (∀ σ' H1, H1 d = some (.frz od u) → (∀ H2 : Hp, H2 d = H d → (∀ b, b ≠ d → H2 b = H1 b) → D.nx σ' H2) → D'.nx σ' H1) →
      (∀ v H1, H1 d = some (.frz od u) → (∀ H2 : Hp, H2 d = H d → (∀ b, b ≠ d → H2 b = H1 b) → D.rt v H2) → D'.rt v H1) → t D' σ H0) :
    tLock t D σ H ∨ t D σ H := by
  rcases hd with h | ⟨od, h⟩
  · refine .inl ⟨d, u, h, mu, fun od => k _ od _ upd_same (fun b hb => upd_ne hb) (fun v H1 h1 q => ⟨h1, q _ ?_ fun b hb => upd_ne hb⟩) (fun v H1 h1 q => ⟨h1, q _ ?_ fun b hb => upd_ne hb⟩)⟩
    · rw [upd_same, h]
    · rw [upd_same, h]
  · exact .inr (k H od D h (fun _ _ => rfl) (fun v H1 h1 q => q H1 (by rw [h1, h]) fun _ _ => rfl) fun v H1 h1 q => q H1 (by rw [h1, h]) fun _ _ => rfl)
theorem same_unlock {H0 H1 H2 : Hp} (h0 : ∀ b, b ≠ d → H0 b = H b) (e : Same H0 H1) (h2 : H2 d = H d) (h3 : ∀ b, b ≠ d → H2 b = H1 b) : Same H H2 := fun b o q => by
  by_cases hb : b = d
  · subst hb; rw [h2]; exact q
  · rw [h3 b hb]; exact e b o (by rw [h0 b hb]; exact q)
end
/-- {k: v for x in ..} over a walk -/
theorem dc_it {J : It} {n : Nat} {G : Hp → Prop} {Y : Nat → Hp → V → Hp → Prop} (w : Walk J n G Y) {g : TG} {tt : TT} {tk tv : TE} {vs : List Nat} {σ : L2.St} {H1 : Hp} {D : Addr} {Qd : Hp → Prop} (Pv : Nat → Hp → Prop) (h0 : Pv 0 (upd H1 D (.dK []))) (hG : ∀ i H, i ≤ n → Pv i H → G H)
    (hs : ∀ i x H H', i < n → Pv i H → Y i H x H' → g x (wipe σ vs) H' fun σ2 H2 => wipe σ2 vs = wipe σ vs ∧ tt σ2 H2 fun b H3 =>
      if b = true then tk σ2 H3 fun y H4 => tv σ2 H4 fun z H5 => ∃ kvs k, y = kV k ∧ H5 D = some (.dK kvs) ∧ kvs.length < sizeLine ∧ Pv (i + 1) (upd H5 D (.dK (putK kvs k z))) else Pv (i + 1) H3) (hd : ∀ H, Pv n H → Qd H) :
    ∃ W : Nat → Nat → Hp → Prop, (∃ m, W 0 m (upd H1 D (.dK []))) ∧ ∀ i m H, W i m H →
      (J.stop i H ∧ Qd H) ∨ (J.go i H ∧ ∃ Nx : Hp → Prop, (∀ H', Nx H' → ∃ m', m' < m ∧ W (i + 1) m' H') ∧ ∀ x H', J.yld i H x H' → g x (wipe σ vs) H' fun σ2 H2 => wipe σ2 vs = wipe σ vs ∧ tt σ2 H2 fun b H3 =>
        if b = true then tk σ2 H3 fun y H4 => tv σ2 H4 fun z H5 => ∃ kvs k, y = kV k ∧ H5 D = some (.dK kvs) ∧ kvs.length < sizeLine ∧ Nx (upd H5 D (.dK (putK kvs k z))) else Nx H3) := by
  refine ⟨fun i m H => m = n - i ∧ i ≤ n ∧ Pv i H, ⟨n, by simp, Nat.zero_le _, h0⟩, ?_⟩
  rintro i m H ⟨rfl, hi, p⟩
  have q := hG i H hi p
  rcases Nat.lt_or_ge i n with hlt | hge
  · exact .inr ⟨w.goes i H hlt q, Pv (i + 1), fun H' p' => ⟨n - (i + 1), by omega, rfl, hlt, p'⟩, fun x H' y => hs i x H H' hlt p (w.yields i H x H' hlt q y)⟩
  · have e : i = n := by omega
    subst e
    exact .inl ⟨w.stops H q, hd H p⟩

/-! ### name = {k: v for ..} -/
section
variable {X : Cx} {pos spos py : Pos} {i : Nat} {y : Str} {kx vx tg iter : Expr} {ifs : List Expr} {scope : Scope} {own : List (Str × Nat)} {wi : TI} {g : TG} {tt : TT} {tk tv : TE}
theorem ps_setDc (hc : X.calm = true) (hN : X.N.Nodup) (hy : X.N[i]? = some y) (hyl : X.env.scope.names.lookup y = some .local)
    (hsw : swapsWith (.DictComp kx vx [⟨tg, iter, ifs, 0⟩] scope pos) (some (.Name y py)) spos.line X.env = pure true) (hi : PI X tg iter wi) (ok : BlkOk X.N X.env.scope scope own)
    (hg : ∀ (s : Shared) (H : Hp) (C : Addr) (cl : List (Str × Addr)) (fp : List Addr), PG (X.blk s H scope (compEnvC scope cl C X.env) fp) tg g)
    (ht : ∀ (s : Shared) (H : Hp) (C : Addr) (cl : List (Str × Addr)) (fp : List Addr), PTs (X.blk s H scope (compEnvC scope cl C X.env) fp) ifs tt)
    (hk : ∀ (s : Shared) (H : Hp) (C : Addr) (cl : List (Str × Addr)) (fp : List Addr), PE (X.blk s H scope (compEnvC scope cl C X.env) fp) kx tk)
    (he : ∀ (s : Shared) (H : Hp) (C : Addr) (cl : List (Str × Addr)) (fp : List Addr), PE (X.blk s H scope (compEnvC scope cl C X.env) fp) vx tv) (hs : ∀ x, foldedSetIterable iter X.env x = pure x := by intro _; rfl) :
    PS X (.Assign [.Name y py] (.DictComp kx vx [⟨tg, iter, ifs, 0⟩] scope pos) spos) (tAsg (tDc wi g tt tk tv (own.map (·.2))) (gName i)) := by
  refine ⟨fun pins s σ H D I h => ?_⟩
  rw [exec_Assign_Name_used _ _ _ _ hsw]
  refine wpAny_bind (wpAny_standAt (wpAny_bind ?_))
  show wpAny _ X.A (do let _ ← comprehension (.DictComp kx vx [⟨tg, iter, ifs, 0⟩] scope pos) scope X.env (firstIterPos [⟨tg, iter, ifs, 0⟩] pos) newDict false (eval iter X.env) (some (assign (.Name y py) X.env))) _ _ s
  have h : tDc wi g tt tk tv (own.map (·.2)) σ H (fun x H1 => gName i x σ H1 D.nx) := h
  refine wpAny_bind (thn (dc_core (Qf := fun _ s' => SP X pins D .next s') hc hN I hi ok hg ht hk he hs h fun L C s' m H' I' q hn f => ?_) fun _ s' hq => wpAny_pure (wpAny_pure hq))
  show wpAny _ _ (assign (.Name y py) X.env (.ref L)) _ _ _
  refine wpAny_assign_Name (store_ok2 (v := V.ref L) I' hN hy (.inl hyl) rfl (fun s2 I2 ⟨a, sb, ha⟩ => ?_) (.inr hyl))
  obtain ⟨f0, f1, f2, f3, f4, f5⟩ := f
  have haC : C ≠ a := by
    rcases ha with z | z
    · subst z; exact f1
    · exact fun e => f4 y a z e.symm
  refine ⟨m, hn.sameBut sb haC, fun h3 sb3 => ?_⟩
  exact ⟨_, H', I2.turned (t' := s2.toks) (fun b o hb e => (sb3.2 b hb).trans e) f0 f1 f3 f4 f5, q⟩
theorem sw_trueD {gs : List Comprehension} {l : Nat} {env : Env} (hk : env.scope.kind = .function) (hy : env.scope.names.lookup y = some .local) (hl : (py.line == pos.line) = true)
    (ha : (scope.names.any fun (n, k) => n == y && (k == .local || k == .cell)) = false) : swapsWith (.DictComp kx vx gs scope pos) (some (.Name y py)) l env = pure true := by
  have ky : env.kindOf y = some .local := hy
  have hb : env.blockKind = .function := by unfold Env.blockKind; rw [hk]; rfl
  unfold swapsWith
  simp only [hb, ky, ha, Expr.pos, hl]
  rfl
end

/-! ### from the head's facts to packages -/
section
variable {P : Program} {w : World} {K : PySem.W.Frag} {mg : Str → Option Value} {base : Heap} {x m C qual : Str} {params : Arguments} {body : List Stmt} {scope : Scope} {N ps : List Str} {k : Nat} {sp : Sp}
abbrev BodyOk (P : Program) (w : World) (K : PySem.W.Frag) (mg : Str → Option Value) (base : Heap) (N : List Str) (qual : Str) (body : List Stmt) (scope : Scope) (f : Addr) (k : Nat) (sp : Sp) : Prop :=
  ∀ (cdv : Value) (A : Around) (outer : List Env) (s : Shared) (H : Hp) (vs : List V) (Q : VK) (E : XK), Room k (A.deeper (envOfC qual scope s.heap.objs.size f cdv)) → sp vs H Q E →
      ∃ t, PSs (cxOf (L2.CX P w) P w K mg base N qual scope f cdv A outer s H E) body t ∧ t { nx := fun _ H' => Q .non H', rt := Q } (start N vs) H
abbrev BindsOk (x qual : Str) (params : Arguments) (body : List Stmt) (scope : Scope) (ps : List Str) : Prop :=
  ∀ (kV doc pm : Value) (an : Option Addr) (cdv ct : Value) (us : List Value), us.length = ps.length → bindArgs (PySem.W.fnOf x qual params body scope .none kV doc pm an cdv ct) ⟨us, []⟩ = pure (ps.zip us)
theorem Def.of (F : ∃ fd, FunD K x qual params body scope [] [] (He.ga K x) fd) (g : mg x = some (.ref (He.ga K x))) (S : FnScope N ps scope) (hb : BindsOk x qual params body scope ps)
    (len : ∀ vs H Q E, sp vs H Q E → vs.length = ps.length) (h : BodyOk P w K mg base N qual body scope (He.ga K x) k sp) : Def P w K mg base (k + 1) x ps sp := by
  obtain ⟨fd, F⟩ := F
  exact ⟨⟨fd, F.ok S len h, F.bindsN hb⟩, g, F.kp⟩
theorem MDef.of (F : ∃ fd, FunD K m qual params body scope [] [] (He.ma K (He.ga K C) m) fd) (mt : Meth K (He.ga K C) m (He.ma K (He.ga K C) m)) (cl : Cls K (He.ga K C)) (S : FnScope N ps scope) (hb : BindsOk m qual params body scope ps)
    (len : ∀ vs H Q E, sp vs H Q E → vs.length = ps.length) (h : BodyOk P w K mg base N qual body scope (He.ma K (He.ga K C) m) k sp) : MDef P w K mg base (k + 1) C m ps sp := by
  obtain ⟨fd, F⟩ := F
  exact ⟨⟨fd, F.ok S len h, F.bindsN hb⟩, mt, cl⟩
theorem CDef.of (F : ∃ fd, FunD K "__init__" qual params body scope [] [] (He.ma K (He.ga K C) "__init__") fd) (mak : Mk K (He.ga K C) (He.ma K (He.ga K C) "__init__")) (g : mg C = some (.ref (He.ga K C))) (S : FnScope N ps scope) (hb : BindsOk "__init__" qual params body scope ps)
    (len : ∀ vs H Q E, sp vs H Q E → vs.length = ps.length) (h : BodyOk P w K mg base N qual body scope (He.ma K (He.ga K C) "__init__") k sp) : CDef P w K mg base (k + 1) C ps sp := by
  obtain ⟨fd, F⟩ := F
  exact ⟨⟨fd, F.ok S len h, F.bindsN hb⟩, mak, g⟩
end
section
variable {X : Cx} {x : Str} {pos : Pos}
/-- a module's text, number, as a value -/
theorem pe_globS {z : Str} (hm : ∃ t, X.mg x = some (.str z t)) (hg : Gl X x := by rfl) (hd : (x == ("__debug__" : Str)) = false := by decide) : PE X (.Name x pos) (tC (.str z)) := by
  obtain ⟨t, hm⟩ := hm
  exact pe_glob hg hm ⟨t, rfl⟩ hd
theorem pe_globI {i : Int} (hm : ∃ t, X.mg x = some (.int i t)) (hg : Gl X x := by rfl) (hd : (x == ("__debug__" : Str)) = false := by decide) : PE X (.Name x pos) (tC (.int i)) := by
  obtain ⟨t, hm⟩ := hm
  exact pe_glob hg hm ⟨t, rfl⟩ hd
/-- a class of the module as a value -/
theorem pe_globC {a : Addr} (hm : X.mg x = some (.ref a)) (hg : Gl X x := by rfl) (hd : (x == ("__debug__" : Str)) = false := by decide) : PE X (.Name x pos) (tC (.ref a)) := pe_glob hg hm rfl hd
/-- a built-in class as a value -/
theorem pe_bty {n : String} (hm : X.mg x = none) (hv : bootBuiltins x = some (.type n)) (hg : Gl X x := by rfl) (hn : x ≠ "__name__" := by decide) (hd : (x == ("__debug__" : Str)) = false := by decide) : PE X (.Name x pos) (tC (.ty n)) := pe_bltn hg hm hv rfl hn hd
end
end SP
namespace SP
open PySem PySem.Spec PyProof.Rows L2
/-! ### the head's look: the facts, the defs, and ex: what else is true of the written part -/
abbrev AlE : Type := He.AlD × Bool
def obsE (n : Nat) (fa : List He.Fa) (fn : List He.DefD) (ex : PySem.W.Frag → Bool) (g : Addr → Option Obj) : AlE := (He.obsD fa fn (He.frG g (He.asD g n)), ex (He.frG g (He.asD g n)))
def hookE (n : Nat) (fa : List He.Fa) (fn : List He.DefD) (ex : PySem.W.Frag → Bool) : PySem.W.Hook where
  α := AlE
  obs := fun s => obsE n fa fn ex s.heap.get?
  val := fun _ => (He.valD fn, true)
  says := fun _ h => ∃ K : PySem.W.Frag, K.In h ∧ He.SaysD fa fn K ∧ ex K = true
  of := fun _ _ e => ⟨_, He.frG_in, congrArg (fun z : AlE => z.1) e, congrArg (fun z : AlE => z.2) e⟩
  keeps := fun _ _ _ ⟨K, hK, c, e⟩ k => ⟨K, PySem.W.Frag.In.keeps hK k, c, e⟩
theorem obsE_eq {n : Nat} {fa : List He.Fa} {fn : List He.DefD} {ex : PySem.W.Frag → Bool} {g : Addr → Option Obj} {s : Shared} (h : ∀ a, g a = s.heap.get? a) : obsE n fa fn ex g = (hookE n fa fn ex).obs s := by
  have e : g = s.heap.get? := funext h
  rw [e]
  rfl

/-! ### a class of the module: isinstance, == -/
def builtTys : List String := ["dict", "list", "str", "NoneType", "int", "bool", "tuple"]
def clsXB (K : PySem.W.Frag) (C : Addr) : Bool :=
  He.eqO (PySem.W.findIn K (.ref C) "__class__") (some (some (.builtin "object.__class__"))) && (He.eqO (PySem.W.specialIn K (.builtin "object.__class__") "__get__") (some (some (.builtin "getset_descriptor.__get__"))) &&
  (decide (PySem.W.takesIn K (.builtin "object.__class__") = some true) && (decide (PySem.W.mroIn K C (.type "object") = some true) && (decide (PySem.W.kitOne K (.ref C) (.ref C) = some true) && (PySem.W.notFirst K C (.ref C) &&
  (builtTys.all fun T => PySem.W.notFirst K C (.type T) && decide (PySem.W.kitOne K (.type T) (.ref C) = some false)))))))
structure ClsX (K : PySem.W.Frag) (C : Addr) : Prop where
  ha : PySem.W.findIn K (.ref C) "__class__" = some (some (.builtin "object.__class__"))
  hn : PySem.W.specialIn K (.builtin "object.__class__") "__get__" = some (some (.builtin "getset_descriptor.__get__"))
  htk : PySem.W.takesIn K (.builtin "object.__class__") = some true
  hm : PySem.W.mroIn K C (.type "object") = some true
  self : PySem.W.kitOne K (.ref C) (.ref C) = some true
  first : PySem.W.notFirst K C (.ref C) = true
  tys : ∀ T ∈ builtTys, PySem.W.notFirst K C (.type T) = true ∧ PySem.W.kitOne K (.type T) (.ref C) = some false
theorem clsX_of {K : PySem.W.Frag} {C : Addr} (h : clsXB K C = true) : ClsX K C := by
  unfold clsXB at h
  simp only [Bool.and_eq_true, decide_eq_true_eq, List.all_eq_true] at h
  obtain ⟨h1, h2, h3, h4, h5, h6, h7⟩ := h
  exact ⟨He.eqO_ok h1, He.eqO_ok h2, h3, h4, h5, h6, h7⟩
theorem ClsX.ty {K : PySem.W.Frag} {C : Addr} {H : Hp} {a dx : Addr} {fs : List (Str × V)} (X : ClsX K C) (cl : Cls K C) (e : H a = some (.ins C dx fs)) : TyX K H (.ref a) (.ref C) := .base (.ins e cl X.ha X.hn X.htk X.hm)

/-! ### lists of texts compared -/
def okS (x : Str) : Bool := PySem.PyData.strOk x
theorem okS_of {x : Str} (h : ∀ c ∈ x.cps.toList, c < 0x110000) : okS x = true := by
  unfold okS PySem.PyData.strOk
  rw [Array.all_eq_true]
  intro i hi
  exact decide_eq_true (h _ (by simp))
theorem eqvAll_strs : ∀ xs ys : List Str, PyData.eqvAll (xs.map PyData.str) (ys.map PyData.str) = decide (xs = ys)
  | [], [] => by simp [PyData.eqvAll]
  | [], _ :: _ => by simp [PyData.eqvAll]
  | _ :: _, [] => by simp [PyData.eqvAll]
  | x :: xs, y :: ys => by
    have ih := eqvAll_strs xs ys
    rw [List.map_cons, List.map_cons]
    unfold PyData.eqvAll
    rw [ih]
    show (x == y && decide (xs = ys)) = _
    by_cases h : x = y
    · subst h
      by_cases h2 : xs = ys
      · subst h2; simp
      · simp [h2]
    · have : (x == y) = false := by simpa using h
      rw [this, Bool.false_and]
      exact (decide_eq_false (fun e => h (List.cons.inj e).1)).symm
theorem canLay_strs : ∀ xs : List Str, (∀ x ∈ xs, okS x = true) → PyData.canLayAll0 (xs.map PyData.str) = true
  | [], _ => rfl
  | x :: xs, h => by
    have h1 : PySem.PyData.strOk x = true := h x List.mem_cons_self
    have ih := canLay_strs xs fun y hy => h y (List.mem_cons_of_mem _ hy)
    rw [List.map_cons]
    unfold PyData.canLayAll0
    rw [ih, Bool.and_true]
    unfold PyData.canLay0
    exact h1
theorem depth_strs : ∀ xs : List Str, PyData.depthAll (xs.map PyData.str) = 0
  | [] => rfl
  | x :: xs => by
    have ih := depth_strs xs
    rw [List.map_cons]
    unfold PyData.depthAll
    rw [ih]
    rfl
theorem shaped_strs {xs : List Str} (h : ∀ x ∈ xs, okS x = true) : SeqAt.shaped (.list (xs.map PyData.str)) = true := by
  unfold SeqAt.shaped
  have h1 : PyData.canLay0 (.list (xs.map PyData.str)) = true := by
    unfold PyData.canLay0
    exact canLay_strs xs h
  have h2 : PyData.depth (.list (xs.map PyData.str)) = 1 := by
    unfold PyData.depth
    rw [depth_strs]
  rw [h1, h2]
  rfl
theorem dpAll_strs {K : PySem.W.Frag} {H : Hp} : ∀ xs : List Str, DpAll K H (xs.map V.str) (xs.map PyData.str)
  | [] => .nil
  | x :: xs => .cons (.str x) (dpAll_strs xs)
def rEqLS (K : PySem.W.Frag) (neg : Bool) : R2 := fun x y H Q => ∃ (p q : Addr) (xs ys : List Str), x = .ref p ∧ y = .ref q ∧ SqL K H p (xs.map V.str) ∧ SqL K H q (ys.map V.str) ∧ (∀ z ∈ xs, okS z = true) ∧ (∀ z ∈ ys, okS z = true) ∧ Q (.bl (if neg then !decide (xs = ys) else decide (xs = ys))) H
section
variable {X : Cx}
theorem op_eqLS (hu : X.A.units + 64 < cLine) : OpR X (compareOp .Eq) (rEqLS X.K false) := by
  intro pins s σ H x y v u Q I rx ry h
  obtain ⟨p, q, xs, ys, rfl, rfl, hp, hq, ox, oy, k⟩ := h
  refine op_eqD hu pins s σ H _ _ v u Q I rx ry ⟨_, _, .lst hp (dpAll_strs xs), .lst hq (dpAll_strs ys), shaped_strs ox, shaped_strs oy, ?_⟩
  have e : PyData.eqv (.list (xs.map PyData.str)) (.list (ys.map PyData.str)) = decide (xs = ys) := by
    unfold PyData.eqv
    exact eqvAll_strs xs ys
  rw [e]
  exact k
theorem op_neLS (hu : X.A.units + 64 < cLine) : OpR X (compareOp .NotEq) (rEqLS X.K true) := by
  intro pins s σ H x y v u Q I rx ry h
  obtain ⟨p, q, xs, ys, rfl, rfl, hp, hq, ox, oy, k⟩ := h
  refine op_neD hu pins s σ H _ _ v u Q I rx ry ⟨_, _, .lst hp (dpAll_strs xs), .lst hq (dpAll_strs ys), shaped_strs ox, shaped_strs oy, ?_⟩
  have e : PyData.eqv (.list (xs.map PyData.str)) (.list (ys.map PyData.str)) = decide (xs = ys) := by
    unfold PyData.eqv
    exact eqvAll_strs xs ys
  rw [e]
  exact k
end
end SP
namespace K01
open PySem PySem.Spec PyProof.Rows L2 SP
def top (i : Nat) : Stmt := PySem.Challenge.pw_stepposts_k01_trees_told.main.body.getD i (.Pass ⟨0, 0, 0, 0⟩)
abbrev s_is_name : Stmt := top 7
abbrev s_Tree_init__ : Stmt := inClass (top 9) 0
abbrev s_Tree_eq__ : Stmt := inClass (top 9) 1
abbrev s_Tree_head : Stmt := inClass (top 9) 2
abbrev s_Tree_posts : Stmt := inClass (top 9) 3
abbrev s_Tree_above : Stmt := inClass (top 9) 4
abbrev s_Tree_below : Stmt := inClass (top 9) 5
abbrev s_Tree_branch : Stmt := inClass (top 9) 6
abbrev s_Tree_size : Stmt := inClass (top 9) 7
abbrev s_Tree_checked : Stmt := inClass (top 9) 8
abbrev s_named : Stmt := top 10
abbrev s_one_head : Stmt := top 11
abbrev s_below_by : Stmt := top 12
abbrev s_downward : Stmt := top 13
abbrev s_size_by : Stmt := top 14
abbrev s_law_cell_at : Stmt := top 16
abbrev s_law_mixed : Stmt := top 17
abbrev s_law_source : Stmt := top 18
abbrev s_law_next : Stmt := top 19
abbrev s_law_name : Stmt := top 20
abbrev s_law_names : Stmt := top 21
abbrev s_law_above : Stmt := top 22
abbrev s_law_head : Stmt := top 23
abbrev s_law_line : Stmt := top 24
abbrev s_law_under : Stmt := top 25
abbrev s_law_branches : Stmt := top 26
abbrev s_law_others : Stmt := top 27
abbrev s_law_right : Stmt := top 28
abbrev s_law : Stmt := top 29
/-! the head's facts -/
def d_is_name : He.DefD := ⟨("is_name", none), "is_name", "is_name", defArgs s_is_name, defBody s_is_name, defScope s_is_name, [], []⟩
def d_Tree_init__ : He.DefD := ⟨("Tree", some "__init__"), "__init__", "Tree.__init__", defArgs s_Tree_init__, defBody s_Tree_init__, defScope s_Tree_init__, [], []⟩
def d_Tree_eq__ : He.DefD := ⟨("Tree", some "__eq__"), "__eq__", "Tree.__eq__", defArgs s_Tree_eq__, defBody s_Tree_eq__, defScope s_Tree_eq__, [], []⟩
def d_Tree_head : He.DefD := ⟨("Tree", some "head"), "head", "Tree.head", defArgs s_Tree_head, defBody s_Tree_head, defScope s_Tree_head, [], []⟩
def d_Tree_posts : He.DefD := ⟨("Tree", some "posts"), "posts", "Tree.posts", defArgs s_Tree_posts, defBody s_Tree_posts, defScope s_Tree_posts, [], []⟩
def d_Tree_above : He.DefD := ⟨("Tree", some "above"), "above", "Tree.above", defArgs s_Tree_above, defBody s_Tree_above, defScope s_Tree_above, [], []⟩
def d_Tree_below : He.DefD := ⟨("Tree", some "below"), "below", "Tree.below", defArgs s_Tree_below, defBody s_Tree_below, defScope s_Tree_below, [], []⟩
def d_Tree_branch : He.DefD := ⟨("Tree", some "branch"), "branch", "Tree.branch", defArgs s_Tree_branch, defBody s_Tree_branch, defScope s_Tree_branch, [], []⟩
def d_Tree_size : He.DefD := ⟨("Tree", some "size"), "size", "Tree.size", defArgs s_Tree_size, defBody s_Tree_size, defScope s_Tree_size, [], []⟩
def d_Tree_checked : He.DefD := ⟨("Tree", some "_checked"), "_checked", "Tree._checked", defArgs s_Tree_checked, defBody s_Tree_checked, defScope s_Tree_checked, [], []⟩
def d_named : He.DefD := ⟨("_named", none), "_named", "_named", defArgs s_named, defBody s_named, defScope s_named, [], []⟩
def d_one_head : He.DefD := ⟨("_one_head", none), "_one_head", "_one_head", defArgs s_one_head, defBody s_one_head, defScope s_one_head, [], []⟩
def d_below_by : He.DefD := ⟨("_below_by", none), "_below_by", "_below_by", defArgs s_below_by, defBody s_below_by, defScope s_below_by, [], []⟩
def d_downward : He.DefD := ⟨("_downward", none), "_downward", "_downward", defArgs s_downward, defBody s_downward, defScope s_downward, [], []⟩
def d_size_by : He.DefD := ⟨("_size_by", none), "_size_by", "_size_by", defArgs s_size_by, defBody s_size_by, defScope s_size_by, [], []⟩
def d_law_cell_at : He.DefD := ⟨("_law_cell_at", none), "_law_cell_at", "_law_cell_at", defArgs s_law_cell_at, defBody s_law_cell_at, defScope s_law_cell_at, [], []⟩
def d_law_mixed : He.DefD := ⟨("_law_mixed", none), "_law_mixed", "_law_mixed", defArgs s_law_mixed, defBody s_law_mixed, defScope s_law_mixed, [], []⟩
def d_law_source : He.DefD := ⟨("_law_source", none), "_law_source", "_law_source", defArgs s_law_source, defBody s_law_source, defScope s_law_source, [], []⟩
def d_law_next : He.DefD := ⟨("_law_next", none), "_law_next", "_law_next", defArgs s_law_next, defBody s_law_next, defScope s_law_next, [], []⟩
def d_law_name : He.DefD := ⟨("_law_name", none), "_law_name", "_law_name", defArgs s_law_name, defBody s_law_name, defScope s_law_name, [], []⟩
def d_law_names : He.DefD := ⟨("_law_names", none), "_law_names", "_law_names", defArgs s_law_names, defBody s_law_names, defScope s_law_names, [], []⟩
def d_law_above : He.DefD := ⟨("_law_above", none), "_law_above", "_law_above", defArgs s_law_above, defBody s_law_above, defScope s_law_above, [], []⟩
def d_law_head : He.DefD := ⟨("_law_head", none), "_law_head", "_law_head", defArgs s_law_head, defBody s_law_head, defScope s_law_head, [], []⟩
def d_law_line : He.DefD := ⟨("_law_line", none), "_law_line", "_law_line", defArgs s_law_line, defBody s_law_line, defScope s_law_line, [], []⟩
def d_law_under : He.DefD := ⟨("_law_under", none), "_law_under", "_law_under", defArgs s_law_under, defBody s_law_under, defScope s_law_under, [], []⟩
def d_law_branches : He.DefD := ⟨("_law_branches", none), "_law_branches", "_law_branches", defArgs s_law_branches, defBody s_law_branches, defScope s_law_branches, [], []⟩
def d_law_others : He.DefD := ⟨("_law_others", none), "_law_others", "_law_others", defArgs s_law_others, defBody s_law_others, defScope s_law_others, [], []⟩
def d_law_right : He.DefD := ⟨("_law_right", none), "_law_right", "_law_right", defArgs s_law_right, defBody s_law_right, defScope s_law_right, [], []⟩
def d_law : He.DefD := ⟨("law", none), "law", "law", defArgs s_law, defBody s_law, defScope s_law, [], []⟩
def fn : List He.DefD := [d_is_name, d_Tree_init__, d_Tree_eq__, d_Tree_head, d_Tree_posts, d_Tree_above, d_Tree_below, d_Tree_branch, d_Tree_size, d_Tree_checked, d_named, d_one_head, d_below_by, d_downward, d_size_by, d_law_cell_at, d_law_mixed, d_law_source, d_law_next, d_law_name, d_law_names, d_law_above, d_law_head, d_law_line, d_law_under, d_law_branches, d_law_others, d_law_right, d_law]
def fa : List He.Fa := [.glo "PostError", .glo "NoTree", .glo "NoPost", .glo "is_name", .glo "Tree", .glo "_named", .glo "_one_head", .glo "_below_by", .glo "_downward", .glo "_size_by", .glo "_law_cell_at", .glo "_law_mixed", .glo "_law_source", .glo "_law_next", .glo "_law_name", .glo "_law_names", .glo "_law_above", .glo "_law_head", .glo "_law_line", .glo "_law_under", .glo "_law_branches", .glo "_law_others", .glo "_law_right", .glo "law", .free "all", .free "bool", .free "dict", .free "int", .free "isinstance", .free "len", .free "list", .free "max", .free "min", .free "range", .free "reversed", .free "sorted", .free "str", .str "LETTERS" "abcdefghijklmnopqrstuvwxyz", .int "LONGEST_NAME" 8, .cls "Tree", .mkr "Tree", .meth "Tree" "__eq__", .meth "Tree" "head", .meth "Tree" "posts", .meth "Tree" "above", .meth "Tree" "below", .meth "Tree" "branch", .meth "Tree" "size", .meth "Tree" "_checked", .noat "Tree" "_above", .noat "Tree" "_head", .noat "Tree" "_below", .noat "Tree" "_size_by", .exc "PostError", .exc "NoTree", .exc "NoPost"]
def exB (K : PySem.W.Frag) : Bool := clsXB K (He.ga K "Tree")
/-- what the top has written -/
structure Txt (K : PySem.W.Frag) (mg : Str → Option Value) : Prop where
  c : He.SaysD fa fn K
  e : exB K = true
  x : ∃ h : Heap, K.In h ∧ h.Ns mainGlobals mg
section
variable {K : PySem.W.Frag} {mg : Str → Option Value}
theorem Txt.at_PostError (T : Txt K mg) : mg "PostError" = some (.ref (He.ga K "PostError")) := (let ⟨_, X, G⟩ := T.x; He.glo_ok X G (T.c.fact 0 (f := .glo "PostError") rfl))
theorem Txt.at_NoTree (T : Txt K mg) : mg "NoTree" = some (.ref (He.ga K "NoTree")) := (let ⟨_, X, G⟩ := T.x; He.glo_ok X G (T.c.fact 1 (f := .glo "NoTree") rfl))
theorem Txt.at_NoPost (T : Txt K mg) : mg "NoPost" = some (.ref (He.ga K "NoPost")) := (let ⟨_, X, G⟩ := T.x; He.glo_ok X G (T.c.fact 2 (f := .glo "NoPost") rfl))
theorem Txt.at_is_name (T : Txt K mg) : mg "is_name" = some (.ref (He.ga K "is_name")) := (let ⟨_, X, G⟩ := T.x; He.glo_ok X G (T.c.fact 3 (f := .glo "is_name") rfl))
theorem Txt.at_Tree (T : Txt K mg) : mg "Tree" = some (.ref (He.ga K "Tree")) := (let ⟨_, X, G⟩ := T.x; He.glo_ok X G (T.c.fact 4 (f := .glo "Tree") rfl))
theorem Txt.at_named (T : Txt K mg) : mg "_named" = some (.ref (He.ga K "_named")) := (let ⟨_, X, G⟩ := T.x; He.glo_ok X G (T.c.fact 5 (f := .glo "_named") rfl))
theorem Txt.at_one_head (T : Txt K mg) : mg "_one_head" = some (.ref (He.ga K "_one_head")) := (let ⟨_, X, G⟩ := T.x; He.glo_ok X G (T.c.fact 6 (f := .glo "_one_head") rfl))
theorem Txt.at_below_by (T : Txt K mg) : mg "_below_by" = some (.ref (He.ga K "_below_by")) := (let ⟨_, X, G⟩ := T.x; He.glo_ok X G (T.c.fact 7 (f := .glo "_below_by") rfl))
theorem Txt.at_downward (T : Txt K mg) : mg "_downward" = some (.ref (He.ga K "_downward")) := (let ⟨_, X, G⟩ := T.x; He.glo_ok X G (T.c.fact 8 (f := .glo "_downward") rfl))
theorem Txt.at_size_by (T : Txt K mg) : mg "_size_by" = some (.ref (He.ga K "_size_by")) := (let ⟨_, X, G⟩ := T.x; He.glo_ok X G (T.c.fact 9 (f := .glo "_size_by") rfl))
theorem Txt.at_law_cell_at (T : Txt K mg) : mg "_law_cell_at" = some (.ref (He.ga K "_law_cell_at")) := (let ⟨_, X, G⟩ := T.x; He.glo_ok X G (T.c.fact 10 (f := .glo "_law_cell_at") rfl))
theorem Txt.at_law_mixed (T : Txt K mg) : mg "_law_mixed" = some (.ref (He.ga K "_law_mixed")) := (let ⟨_, X, G⟩ := T.x; He.glo_ok X G (T.c.fact 11 (f := .glo "_law_mixed") rfl))
theorem Txt.at_law_source (T : Txt K mg) : mg "_law_source" = some (.ref (He.ga K "_law_source")) := (let ⟨_, X, G⟩ := T.x; He.glo_ok X G (T.c.fact 12 (f := .glo "_law_source") rfl))
theorem Txt.at_law_next (T : Txt K mg) : mg "_law_next" = some (.ref (He.ga K "_law_next")) := (let ⟨_, X, G⟩ := T.x; He.glo_ok X G (T.c.fact 13 (f := .glo "_law_next") rfl))
theorem Txt.at_law_name (T : Txt K mg) : mg "_law_name" = some (.ref (He.ga K "_law_name")) := (let ⟨_, X, G⟩ := T.x; He.glo_ok X G (T.c.fact 14 (f := .glo "_law_name") rfl))
theorem Txt.at_law_names (T : Txt K mg) : mg "_law_names" = some (.ref (He.ga K "_law_names")) := (let ⟨_, X, G⟩ := T.x; He.glo_ok X G (T.c.fact 15 (f := .glo "_law_names") rfl))
theorem Txt.at_law_above (T : Txt K mg) : mg "_law_above" = some (.ref (He.ga K "_law_above")) := (let ⟨_, X, G⟩ := T.x; He.glo_ok X G (T.c.fact 16 (f := .glo "_law_above") rfl))
theorem Txt.at_law_head (T : Txt K mg) : mg "_law_head" = some (.ref (He.ga K "_law_head")) := (let ⟨_, X, G⟩ := T.x; He.glo_ok X G (T.c.fact 17 (f := .glo "_law_head") rfl))
theorem Txt.at_law_line (T : Txt K mg) : mg "_law_line" = some (.ref (He.ga K "_law_line")) := (let ⟨_, X, G⟩ := T.x; He.glo_ok X G (T.c.fact 18 (f := .glo "_law_line") rfl))
theorem Txt.at_law_under (T : Txt K mg) : mg "_law_under" = some (.ref (He.ga K "_law_under")) := (let ⟨_, X, G⟩ := T.x; He.glo_ok X G (T.c.fact 19 (f := .glo "_law_under") rfl))
theorem Txt.at_law_branches (T : Txt K mg) : mg "_law_branches" = some (.ref (He.ga K "_law_branches")) := (let ⟨_, X, G⟩ := T.x; He.glo_ok X G (T.c.fact 20 (f := .glo "_law_branches") rfl))
theorem Txt.at_law_others (T : Txt K mg) : mg "_law_others" = some (.ref (He.ga K "_law_others")) := (let ⟨_, X, G⟩ := T.x; He.glo_ok X G (T.c.fact 21 (f := .glo "_law_others") rfl))
theorem Txt.at_law_right (T : Txt K mg) : mg "_law_right" = some (.ref (He.ga K "_law_right")) := (let ⟨_, X, G⟩ := T.x; He.glo_ok X G (T.c.fact 22 (f := .glo "_law_right") rfl))
theorem Txt.at_law (T : Txt K mg) : mg "law" = some (.ref (He.ga K "law")) := (let ⟨_, X, G⟩ := T.x; He.glo_ok X G (T.c.fact 23 (f := .glo "law") rfl))
theorem Txt.n_all (T : Txt K mg) : mg "all" = none := (let ⟨_, X, G⟩ := T.x; He.free_ok X G (T.c.fact 24 (f := .free "all") rfl))
theorem Txt.n_bool (T : Txt K mg) : mg "bool" = none := (let ⟨_, X, G⟩ := T.x; He.free_ok X G (T.c.fact 25 (f := .free "bool") rfl))
theorem Txt.n_dict (T : Txt K mg) : mg "dict" = none := (let ⟨_, X, G⟩ := T.x; He.free_ok X G (T.c.fact 26 (f := .free "dict") rfl))
theorem Txt.n_int (T : Txt K mg) : mg "int" = none := (let ⟨_, X, G⟩ := T.x; He.free_ok X G (T.c.fact 27 (f := .free "int") rfl))
theorem Txt.n_isinstance (T : Txt K mg) : mg "isinstance" = none := (let ⟨_, X, G⟩ := T.x; He.free_ok X G (T.c.fact 28 (f := .free "isinstance") rfl))
theorem Txt.n_len (T : Txt K mg) : mg "len" = none := (let ⟨_, X, G⟩ := T.x; He.free_ok X G (T.c.fact 29 (f := .free "len") rfl))
theorem Txt.n_list (T : Txt K mg) : mg "list" = none := (let ⟨_, X, G⟩ := T.x; He.free_ok X G (T.c.fact 30 (f := .free "list") rfl))
theorem Txt.n_max (T : Txt K mg) : mg "max" = none := (let ⟨_, X, G⟩ := T.x; He.free_ok X G (T.c.fact 31 (f := .free "max") rfl))
theorem Txt.n_min (T : Txt K mg) : mg "min" = none := (let ⟨_, X, G⟩ := T.x; He.free_ok X G (T.c.fact 32 (f := .free "min") rfl))
theorem Txt.n_range (T : Txt K mg) : mg "range" = none := (let ⟨_, X, G⟩ := T.x; He.free_ok X G (T.c.fact 33 (f := .free "range") rfl))
theorem Txt.n_reversed (T : Txt K mg) : mg "reversed" = none := (let ⟨_, X, G⟩ := T.x; He.free_ok X G (T.c.fact 34 (f := .free "reversed") rfl))
theorem Txt.n_sorted (T : Txt K mg) : mg "sorted" = none := (let ⟨_, X, G⟩ := T.x; He.free_ok X G (T.c.fact 35 (f := .free "sorted") rfl))
theorem Txt.n_str (T : Txt K mg) : mg "str" = none := (let ⟨_, X, G⟩ := T.x; He.free_ok X G (T.c.fact 36 (f := .free "str") rfl))
theorem Txt.g_LETTERS (T : Txt K mg) : ∃ t, mg "LETTERS" = some (.str "abcdefghijklmnopqrstuvwxyz" t) := (let ⟨_, X, G⟩ := T.x; He.str_ok X G (T.c.fact 37 (f := .str "LETTERS" "abcdefghijklmnopqrstuvwxyz") rfl))
theorem Txt.g_LONGEST_NAME (T : Txt K mg) : ∃ t, mg "LONGEST_NAME" = some (.int 8 t) := (let ⟨_, X, G⟩ := T.x; He.int_ok X G (T.c.fact 38 (f := .int "LONGEST_NAME" 8) rfl))
theorem Txt.cl_Tree (T : Txt K mg) : Cls K (He.ga K "Tree") := (He.cls_ok (T.c.fact 39 (f := .cls "Tree") rfl))
theorem Txt.mk_Tree (T : Txt K mg) : Mk K (He.ga K "Tree") (He.ma K (He.ga K "Tree") "__init__") := (He.mkr_ok (T.c.fact 40 (f := .mkr "Tree") rfl))
theorem Txt.mt_Tree_eq__ (T : Txt K mg) : Meth K (He.ga K "Tree") "__eq__" (He.ma K (He.ga K "Tree") "__eq__") := (He.meth_ok (T.c.fact 41 (f := .meth "Tree" "__eq__") rfl))
theorem Txt.mt_Tree_head (T : Txt K mg) : Meth K (He.ga K "Tree") "head" (He.ma K (He.ga K "Tree") "head") := (He.meth_ok (T.c.fact 42 (f := .meth "Tree" "head") rfl))
theorem Txt.mt_Tree_posts (T : Txt K mg) : Meth K (He.ga K "Tree") "posts" (He.ma K (He.ga K "Tree") "posts") := (He.meth_ok (T.c.fact 43 (f := .meth "Tree" "posts") rfl))
theorem Txt.mt_Tree_above (T : Txt K mg) : Meth K (He.ga K "Tree") "above" (He.ma K (He.ga K "Tree") "above") := (He.meth_ok (T.c.fact 44 (f := .meth "Tree" "above") rfl))
theorem Txt.mt_Tree_below (T : Txt K mg) : Meth K (He.ga K "Tree") "below" (He.ma K (He.ga K "Tree") "below") := (He.meth_ok (T.c.fact 45 (f := .meth "Tree" "below") rfl))
theorem Txt.mt_Tree_branch (T : Txt K mg) : Meth K (He.ga K "Tree") "branch" (He.ma K (He.ga K "Tree") "branch") := (He.meth_ok (T.c.fact 46 (f := .meth "Tree" "branch") rfl))
theorem Txt.mt_Tree_size (T : Txt K mg) : Meth K (He.ga K "Tree") "size" (He.ma K (He.ga K "Tree") "size") := (He.meth_ok (T.c.fact 47 (f := .meth "Tree" "size") rfl))
theorem Txt.mt_Tree_checked (T : Txt K mg) : Meth K (He.ga K "Tree") "_checked" (He.ma K (He.ga K "Tree") "_checked") := (He.meth_ok (T.c.fact 48 (f := .meth "Tree" "_checked") rfl))
theorem Txt.na_Tree_above (T : Txt K mg) : NoAttr K (He.ga K "Tree") "_above" := (He.noat_ok (T.c.fact 49 (f := .noat "Tree" "_above") rfl))
theorem Txt.na_Tree_head (T : Txt K mg) : NoAttr K (He.ga K "Tree") "_head" := (He.noat_ok (T.c.fact 50 (f := .noat "Tree" "_head") rfl))
theorem Txt.na_Tree_below (T : Txt K mg) : NoAttr K (He.ga K "Tree") "_below" := (He.noat_ok (T.c.fact 51 (f := .noat "Tree" "_below") rfl))
theorem Txt.na_Tree_size_by (T : Txt K mg) : NoAttr K (He.ga K "Tree") "_size_by" := (He.noat_ok (T.c.fact 52 (f := .noat "Tree" "_size_by") rfl))
theorem Txt.x_PostError (T : Txt K mg) : XDef K mg "PostError" := (let ⟨a, b, c, d⟩ := He.exc_ok (T.c.fact 53 (f := .exc "PostError") rfl); ⟨T.at_PostError, a, b, c, d⟩)
theorem Txt.x_NoTree (T : Txt K mg) : XDef K mg "NoTree" := (let ⟨a, b, c, d⟩ := He.exc_ok (T.c.fact 54 (f := .exc "NoTree") rfl); ⟨T.at_NoTree, a, b, c, d⟩)
theorem Txt.x_NoPost (T : Txt K mg) : XDef K mg "NoPost" := (let ⟨a, b, c, d⟩ := He.exc_ok (T.c.fact 55 (f := .exc "NoPost") rfl); ⟨T.at_NoPost, a, b, c, d⟩)
theorem Txt.f_is_name (T : Txt K mg) : ∃ fd, FunD K "is_name" "is_name" (defArgs s_is_name) (defBody s_is_name) (defScope s_is_name) [] [] (He.ga K "is_name") fd := T.c.def_ 0 (d := d_is_name) rfl
theorem Txt.f_Tree_init__ (T : Txt K mg) : ∃ fd, FunD K "__init__" "Tree.__init__" (defArgs s_Tree_init__) (defBody s_Tree_init__) (defScope s_Tree_init__) [] [] (He.ma K (He.ga K "Tree") "__init__") fd := T.c.def_ 1 (d := d_Tree_init__) rfl
theorem Txt.f_Tree_eq__ (T : Txt K mg) : ∃ fd, FunD K "__eq__" "Tree.__eq__" (defArgs s_Tree_eq__) (defBody s_Tree_eq__) (defScope s_Tree_eq__) [] [] (He.ma K (He.ga K "Tree") "__eq__") fd := T.c.def_ 2 (d := d_Tree_eq__) rfl
theorem Txt.f_Tree_head (T : Txt K mg) : ∃ fd, FunD K "head" "Tree.head" (defArgs s_Tree_head) (defBody s_Tree_head) (defScope s_Tree_head) [] [] (He.ma K (He.ga K "Tree") "head") fd := T.c.def_ 3 (d := d_Tree_head) rfl
theorem Txt.f_Tree_posts (T : Txt K mg) : ∃ fd, FunD K "posts" "Tree.posts" (defArgs s_Tree_posts) (defBody s_Tree_posts) (defScope s_Tree_posts) [] [] (He.ma K (He.ga K "Tree") "posts") fd := T.c.def_ 4 (d := d_Tree_posts) rfl
theorem Txt.f_Tree_above (T : Txt K mg) : ∃ fd, FunD K "above" "Tree.above" (defArgs s_Tree_above) (defBody s_Tree_above) (defScope s_Tree_above) [] [] (He.ma K (He.ga K "Tree") "above") fd := T.c.def_ 5 (d := d_Tree_above) rfl
theorem Txt.f_Tree_below (T : Txt K mg) : ∃ fd, FunD K "below" "Tree.below" (defArgs s_Tree_below) (defBody s_Tree_below) (defScope s_Tree_below) [] [] (He.ma K (He.ga K "Tree") "below") fd := T.c.def_ 6 (d := d_Tree_below) rfl
theorem Txt.f_Tree_branch (T : Txt K mg) : ∃ fd, FunD K "branch" "Tree.branch" (defArgs s_Tree_branch) (defBody s_Tree_branch) (defScope s_Tree_branch) [] [] (He.ma K (He.ga K "Tree") "branch") fd := T.c.def_ 7 (d := d_Tree_branch) rfl
theorem Txt.f_Tree_size (T : Txt K mg) : ∃ fd, FunD K "size" "Tree.size" (defArgs s_Tree_size) (defBody s_Tree_size) (defScope s_Tree_size) [] [] (He.ma K (He.ga K "Tree") "size") fd := T.c.def_ 8 (d := d_Tree_size) rfl
theorem Txt.f_Tree_checked (T : Txt K mg) : ∃ fd, FunD K "_checked" "Tree._checked" (defArgs s_Tree_checked) (defBody s_Tree_checked) (defScope s_Tree_checked) [] [] (He.ma K (He.ga K "Tree") "_checked") fd := T.c.def_ 9 (d := d_Tree_checked) rfl
theorem Txt.f_named (T : Txt K mg) : ∃ fd, FunD K "_named" "_named" (defArgs s_named) (defBody s_named) (defScope s_named) [] [] (He.ga K "_named") fd := T.c.def_ 10 (d := d_named) rfl
theorem Txt.f_one_head (T : Txt K mg) : ∃ fd, FunD K "_one_head" "_one_head" (defArgs s_one_head) (defBody s_one_head) (defScope s_one_head) [] [] (He.ga K "_one_head") fd := T.c.def_ 11 (d := d_one_head) rfl
theorem Txt.f_below_by (T : Txt K mg) : ∃ fd, FunD K "_below_by" "_below_by" (defArgs s_below_by) (defBody s_below_by) (defScope s_below_by) [] [] (He.ga K "_below_by") fd := T.c.def_ 12 (d := d_below_by) rfl
theorem Txt.f_downward (T : Txt K mg) : ∃ fd, FunD K "_downward" "_downward" (defArgs s_downward) (defBody s_downward) (defScope s_downward) [] [] (He.ga K "_downward") fd := T.c.def_ 13 (d := d_downward) rfl
theorem Txt.f_size_by (T : Txt K mg) : ∃ fd, FunD K "_size_by" "_size_by" (defArgs s_size_by) (defBody s_size_by) (defScope s_size_by) [] [] (He.ga K "_size_by") fd := T.c.def_ 14 (d := d_size_by) rfl
theorem Txt.f_law_cell_at (T : Txt K mg) : ∃ fd, FunD K "_law_cell_at" "_law_cell_at" (defArgs s_law_cell_at) (defBody s_law_cell_at) (defScope s_law_cell_at) [] [] (He.ga K "_law_cell_at") fd := T.c.def_ 15 (d := d_law_cell_at) rfl
theorem Txt.f_law_mixed (T : Txt K mg) : ∃ fd, FunD K "_law_mixed" "_law_mixed" (defArgs s_law_mixed) (defBody s_law_mixed) (defScope s_law_mixed) [] [] (He.ga K "_law_mixed") fd := T.c.def_ 16 (d := d_law_mixed) rfl
theorem Txt.f_law_source (T : Txt K mg) : ∃ fd, FunD K "_law_source" "_law_source" (defArgs s_law_source) (defBody s_law_source) (defScope s_law_source) [] [] (He.ga K "_law_source") fd := T.c.def_ 17 (d := d_law_source) rfl
theorem Txt.f_law_next (T : Txt K mg) : ∃ fd, FunD K "_law_next" "_law_next" (defArgs s_law_next) (defBody s_law_next) (defScope s_law_next) [] [] (He.ga K "_law_next") fd := T.c.def_ 18 (d := d_law_next) rfl
theorem Txt.f_law_name (T : Txt K mg) : ∃ fd, FunD K "_law_name" "_law_name" (defArgs s_law_name) (defBody s_law_name) (defScope s_law_name) [] [] (He.ga K "_law_name") fd := T.c.def_ 19 (d := d_law_name) rfl
theorem Txt.f_law_names (T : Txt K mg) : ∃ fd, FunD K "_law_names" "_law_names" (defArgs s_law_names) (defBody s_law_names) (defScope s_law_names) [] [] (He.ga K "_law_names") fd := T.c.def_ 20 (d := d_law_names) rfl
theorem Txt.f_law_above (T : Txt K mg) : ∃ fd, FunD K "_law_above" "_law_above" (defArgs s_law_above) (defBody s_law_above) (defScope s_law_above) [] [] (He.ga K "_law_above") fd := T.c.def_ 21 (d := d_law_above) rfl
theorem Txt.f_law_head (T : Txt K mg) : ∃ fd, FunD K "_law_head" "_law_head" (defArgs s_law_head) (defBody s_law_head) (defScope s_law_head) [] [] (He.ga K "_law_head") fd := T.c.def_ 22 (d := d_law_head) rfl
theorem Txt.f_law_line (T : Txt K mg) : ∃ fd, FunD K "_law_line" "_law_line" (defArgs s_law_line) (defBody s_law_line) (defScope s_law_line) [] [] (He.ga K "_law_line") fd := T.c.def_ 23 (d := d_law_line) rfl
theorem Txt.f_law_under (T : Txt K mg) : ∃ fd, FunD K "_law_under" "_law_under" (defArgs s_law_under) (defBody s_law_under) (defScope s_law_under) [] [] (He.ga K "_law_under") fd := T.c.def_ 24 (d := d_law_under) rfl
theorem Txt.f_law_branches (T : Txt K mg) : ∃ fd, FunD K "_law_branches" "_law_branches" (defArgs s_law_branches) (defBody s_law_branches) (defScope s_law_branches) [] [] (He.ga K "_law_branches") fd := T.c.def_ 25 (d := d_law_branches) rfl
theorem Txt.f_law_others (T : Txt K mg) : ∃ fd, FunD K "_law_others" "_law_others" (defArgs s_law_others) (defBody s_law_others) (defScope s_law_others) [] [] (He.ga K "_law_others") fd := T.c.def_ 26 (d := d_law_others) rfl
theorem Txt.f_law_right (T : Txt K mg) : ∃ fd, FunD K "_law_right" "_law_right" (defArgs s_law_right) (defBody s_law_right) (defScope s_law_right) [] [] (He.ga K "_law_right") fd := T.c.def_ 27 (d := d_law_right) rfl
theorem Txt.f_law (T : Txt K mg) : ∃ fd, FunD K "law" "law" (defArgs s_law) (defBody s_law) (defScope s_law) [] [] (He.ga K "law") fd := T.c.def_ 28 (d := d_law) rfl
end
/-! the run -/
abbrev R : PySem.W.OpenRow := PySem.W.OpenLaw.row PySem.Challenge.rw_stepposts_k01_trees_told
abbrev hk : PySem.W.Hook := hookE 4 fa fn exB
def ob (s : PySem.W.SharedT) : AlE := obsE 4 fa fn exB (HandSHeadRun.getT s)
theorem ob_eq (s : PySem.W.SharedT) : ob s = hk.obs s.abs := obsE_eq (HandSHeadRun.getT_eq s)
def names0 : List PySem.Str := ["PostError", "NoTree", "NoPost", "LETTERS", "LONGEST_NAME", "is_name", "Tree", "_named", "_one_head", "_below_by", "_downward", "_size_by", "_law_cell_at", "_law_mixed", "_law_source", "_law_next", "_law_name", "_law_names", "_law_above", "_law_head", "_law_line", "_law_under", "_law_branches", "_law_others", "_law_right"]
def names : List PySem.Str := names0
def lawAt : Nat := 29
end K01
namespace K01
open PySem PySem.Spec PyProof.Rows L2 SP
theorem run (w : World) : HandSHeadRun.RunEq R (PySem.W.view R.prog [lawAt]) hk ob 3000 names w := by
  intro os
  kernel_rfl
end K01
/-! SPTree: trees as data: a dict's entries in order, lines up to the head, branches. -/
namespace SP
open PySem PySem.Spec PyProof.Rows L2

abbrev TD := List (Str × Option Str)
def keys (t : TD) : List Str := t.map (·.1)
def up (t : TD) (p : Str) : Option (Option Str) := (t.find? fun e => decide (e.1 = p)).map (·.2)
/-- None or a text, as a value -/
def ov : Option Str → V
  | none => .non
  | some s => .str s
def kvT (t : TD) : List (Key × V) := t.map fun e => (Sum.inr e.1, ov e.2)
theorem kvT_keys (t : TD) : (kvT t).map (·.1) = (keys t).map Sum.inr := by
  unfold kvT keys
  rw [List.map_map, List.map_map]
  rfl
theorem kvT_len (t : TD) : (kvT t).length = t.length := by unfold kvT; rw [List.length_map]
theorem keys_len (t : TD) : (keys t).length = t.length := by unfold keys; rw [List.length_map]
theorem up_cons (e : Str × Option Str) (t : TD) (p : Str) : up (e :: t) p = if e.1 = p then some e.2 else up t p := by
  unfold up
  rw [List.find?_cons]
  by_cases h : e.1 = p
  · simp [h]
  · simp [h]
theorem up_nil (p : Str) : up [] p = none := rfl
theorem val_kvT (t : TD) (p : Str) : valV (kvT t) (Sum.inr p) = (up t p).map ov := by
  induction t with
  | nil => rfl
  | cons e t ih =>
    rw [up_cons]
    have : kvT (e :: t) = (Sum.inr e.1, ov e.2) :: kvT t := rfl
    rw [this]
    by_cases h : e.1 = p
    · rw [if_pos h, valV_pos (show (Sum.inr e.1 : Key) = Sum.inr p by rw [h])]
      rfl
    · rw [if_neg h, valV_neg (fun z => h (Sum.inr.inj z)), ih]
theorem up_none {t : TD} {p : Str} : up t p = none ↔ p ∉ keys t := by
  induction t with
  | nil => simp [up_nil, keys]
  | cons e t ih =>
    rw [up_cons]
    have hk : keys (e :: t) = e.1 :: keys t := rfl
    rw [hk]
    by_cases h : e.1 = p
    · rw [if_pos h]; simp [h]
    · rw [if_neg h, ih, List.mem_cons, not_or]
      exact ⟨fun z => ⟨fun q => h q.symm, z⟩, fun z => z.2⟩
theorem up_some_mem {t : TD} {p : Str} {a : Option Str} (h : up t p = some a) : (p, a) ∈ t := by
  induction t with
  | nil => cases h
  | cons e t ih =>
    rw [up_cons] at h
    by_cases q : e.1 = p
    · rw [if_pos q] at h
      have e2 : e.2 = a := Option.some.inj h
      rw [← q, ← e2]
      exact List.mem_cons_self
    · rw [if_neg q] at h
      exact List.mem_cons_of_mem _ (ih h)
theorem up_key {t : TD} {p : Str} {a : Option Str} (h : up t p = some a) : p ∈ keys t := List.mem_map.mpr ⟨_, up_some_mem h, rfl⟩
theorem up_of_mem {t : TD} (nd : (keys t).Nodup) {p : Str} {a : Option Str} (h : (p, a) ∈ t) : up t p = some a := by
  induction t with
  | nil => cases h
  | cons e t ih =>
    have hk : keys (e :: t) = e.1 :: keys t := rfl
    rw [hk, List.nodup_cons] at nd
    rw [up_cons]
    rcases List.mem_cons.mp h with q | q
    · rw [← q, if_pos rfl]
    · have hp : p ∈ keys t := List.mem_map.mpr ⟨_, q, rfl⟩
      rw [if_neg (fun z => nd.1 (by rw [z]; exact hp))]
      exact ih nd.2 q
theorem up_ex {t : TD} {p : Str} (h : p ∈ keys t) : ∃ a, up t p = some a := by
  cases e : up t p with
  | none => exact absurd h (up_none.mp e)
  | some a => exact ⟨a, rfl⟩
theorem up_perm {t t' : TD} (nd : (keys t).Nodup) (h : t.Perm t') (p : Str) : up t' p = up t p := by
  have nd' : (keys t').Nodup := (h.map _).nodup_iff.mp nd
  cases e : up t p with
  | none =>
    refine up_none.mpr fun q => up_none.mp e ?_
    exact (h.map (·.1)).mem_iff.mpr q
  | some a => exact up_of_mem nd' (h.mem_iff.mp (up_some_mem e))

/-! ### lines up to the head -/
inductive Line (t : TD) : Str → List Str → Prop
  | head {p : Str} : up t p = some none → Line t p [p]
  | step {p q : Str} {l : List Str} : up t p = some (some q) → Line t q l → Line t p (p :: l)
section
variable {t : TD} {p q r : Str} {l l' : List Str}
theorem Line.det (h : Line t p l) : ∀ {l'}, Line t p l' → l = l' := by
  induction h with
  | head e =>
    intro l' h'
    cases h' with
    | head _ => rfl
    | step e' _ => rw [e] at e'; cases e'
  | step e _ ih =>
    intro l' h'
    cases h' with
    | head e' => rw [e] at e'; cases e'
    | step e' h2 =>
      rw [e] at e'
      cases e'
      rw [ih h2]
theorem Line.key (h : Line t p l) : p ∈ keys t := by
  cases h with
  | head e => exact up_key e
  | step e _ => exact up_key e
theorem Line.mem_self (h : Line t p l) : p ∈ l := by
  cases h with
  | head e => exact List.mem_cons_self
  | step e _ => exact List.mem_cons_self
/-- each one on the line has its own line, the rest -/
theorem Line.suffix (h : Line t p l) : ∀ {q}, q ∈ l → ∃ a l', l = a ++ l' ∧ Line t q l' := by
  induction h with
  | @head p e =>
    intro q hq
    have e2 : q = p := by simpa using hq
    subst e2
    exact ⟨[], [q], rfl, .head e⟩
  | @step p r l e h2 ih =>
    intro q hq
    rcases List.mem_cons.mp hq with z | z
    · subst z
      exact ⟨[], q :: l, rfl, .step e h2⟩
    · obtain ⟨a, l', e2, h3⟩ := ih z
      exact ⟨p :: a, l', by rw [e2]; rfl, h3⟩
theorem Line.not_below (h : Line t q l) (e : up t p = some (some q)) : p ∉ l := by
  intro hp
  obtain ⟨a, l', e1, h1⟩ := h.suffix hp
  have h2 : Line t p (p :: l) := .step e h
  have e3 := h1.det h2
  have := congrArg List.length e1
  rw [e3, List.length_append, List.length_cons] at this
  omega
theorem Line.nodup (h : Line t p l) : l.Nodup := by
  induction h with
  | head e => simp
  | step e h2 ih => exact List.nodup_cons.mpr ⟨h2.not_below e, ih⟩
theorem Line.keys (h : Line t p l) : ∀ q ∈ l, q ∈ SP.keys t := by
  intro q hq
  obtain ⟨a, l', _, h1⟩ := h.suffix hq
  exact h1.key
theorem Line.congr {t' : TD} (he : ∀ q ∈ l, up t' q = up t q) (h : Line t p l) : Line t' p l := by
  induction h with
  | head e => exact .head (by rw [he _ List.mem_cons_self]; exact e)
  | step e h2 ih => exact .step (by rw [he _ List.mem_cons_self]; exact e) (ih fun q hq => he q (List.mem_cons_of_mem _ hq))
end
/-- p's line (empty where there is none) -/
noncomputable def line (t : TD) (p : Str) : List Str := open Classical in if h : ∃ l, Line t p l then h.choose else []
theorem line_eq {t : TD} {p : Str} {l : List Str} (h : Line t p l) : line t p = l := by
  have hx : ∃ l, Line t p l := ⟨l, h⟩
  unfold line
  rw [dif_pos hx]
  exact hx.choose_spec.det h
theorem line_none {t : TD} {p : Str} (h : ¬ ∃ l, Line t p l) : line t p = [] := by
  unfold line
  rw [dif_neg h]
theorem line_ex {t : TD} {p q : Str} (h : q ∈ line t p) : Line t p (line t p) := by
  by_cases hx : ∃ l, Line t p l
  · obtain ⟨l, hl⟩ := hx
    rw [line_eq hl]; exact hl
  · rw [line_none hx] at h; cases h
/-- q stands in the branch of p -/
def InBr (t : TD) (p q : Str) : Prop := p ∈ line t q
noncomputable def branch (t : TD) (p : Str) : List Str := open Classical in srt ((keys t).filter fun q => decide (InBr t p q))
theorem mem_branch {t : TD} {p q : Str} : q ∈ branch t p ↔ InBr t p q := by
  unfold branch
  rw [mem_srt, List.mem_filter]
  simp only [decide_eq_true_eq]
  exact ⟨fun h => h.2, fun h => ⟨(line_ex h).key, h⟩⟩
theorem branch_nodup {t : TD} (nd : (keys t).Nodup) (p : Str) : (branch t p).Nodup := srt_nodup (nd.filter _)
theorem branch_of {t : TD} (nd : (keys t).Nodup) {p : Str} {l : List Str} (hn : l.Nodup) (h : ∀ q, q ∈ l ↔ InBr t p q) : srt l = branch t p := by
  unfold branch
  refine srt_congr ?_
  refine (List.perm_ext_iff_of_nodup hn (nd.filter _)).mpr fun q => ?_
  rw [h, List.mem_filter]
  simp only [decide_eq_true_eq]
  exact ⟨fun h => ⟨(line_ex h).key, h⟩, fun h => h.2⟩
/-- the posts right below p, in order -/
def undr (t : TD) (p : Str) : List Str := (srt (keys t)).filter fun q => decide (up t q = some (some p))
theorem mem_undr {t : TD} {p q : Str} : q ∈ undr t p ↔ up t q = some (some p) := by
  unfold undr
  rw [List.mem_filter, mem_srt]
  simp only [decide_eq_true_eq]
  exact ⟨fun h => h.2, fun h => ⟨up_key h, h⟩⟩
theorem undr_nodup {t : TD} (nd : (keys t).Nodup) (p : Str) : (undr t p).Nodup := (srt_nodup nd).filter _
theorem pw_filter {l : List Str} (f : Str → Bool) (h : l.Pairwise (fun a b => leS a b = true)) : (l.filter f).Pairwise (fun a b => leS a b = true) := h.filter f
theorem srt_filter (l : List Str) (f : Str → Bool) : srt (l.filter f) = (srt l).filter f :=
  pw_unique (((srt_perm _).trans ((srt_perm l).filter f).symm)) (srt_pw _) (pw_filter f (srt_pw l))

/-! ### a tree -/
structure IsTree (t : TD) : Prop where
  nd : (keys t).Nodup
  cl : ∀ p q, up t p = some (some q) → q ∈ keys t
  re : ∀ p ∈ keys t, ∃ l, Line t p l
  one : ∃ h, up t h = some none ∧ ∀ p, up t p = some none → p = h
theorem IsTree.line {t : TD} (T : IsTree t) {p : Str} (h : p ∈ keys t) : Line t p (line t p) := by
  obtain ⟨l, hl⟩ := T.re p h
  rw [line_eq hl]; exact hl
noncomputable def headOf (t : TD) : Str := open Classical in if h : ∃ p, up t p = some none then h.choose else Str.ofString ""
theorem IsTree.head_up {t : TD} (T : IsTree t) : up t (headOf t) = some none := by
  obtain ⟨h, e, _⟩ := T.one
  have hx : ∃ p, up t p = some none := ⟨h, e⟩
  unfold headOf
  rw [dif_pos hx]
  exact hx.choose_spec
theorem IsTree.head_uni {t : TD} (T : IsTree t) {p : Str} (h : up t p = some none) : p = headOf t := by
  obtain ⟨x, e, u⟩ := T.one
  rw [u p h, u _ T.head_up]
theorem IsTree.perm {t t' : TD} (T : IsTree t) (h : t.Perm t') : IsTree t' := by
  have e := up_perm T.nd h
  refine ⟨(h.map _).nodup_iff.mp T.nd, fun p q hq => ?_, fun p hp => ?_, ?_⟩
  · rw [e] at hq
    exact (h.map (·.1)).mem_iff.mp (T.cl p q hq)
  · obtain ⟨l, hl⟩ := T.re p ((h.map (·.1)).mem_iff.mpr hp)
    exact ⟨l, hl.congr fun q _ => e q⟩
  · obtain ⟨x, hx, hu⟩ := T.one
    exact ⟨x, by rw [e]; exact hx, fun p hp => hu p (by rw [← e]; exact hp)⟩
end SP
/-! SPTree2: the way down from a post, the sizes. -/
namespace SP
open PySem PySem.Spec PyProof.Rows L2

/-! ### the way down -/
/-- found so far, at of them gone through -/
structure Bfs (t : TD) (p : Str) (found : List Str) (at_ : Nat) : Prop where
  hd : found.head? = some p
  nd : found.Nodup
  br : ∀ y ∈ found, InBr t p y
  le : at_ ≤ found.length
  par : ∀ j y, found[j]? = some y → y ≠ p → ∃ i q, i < j ∧ i < at_ ∧ found[i]? = some q ∧ up t y = some (some q)
  cl : ∀ i q, i < at_ → found[i]? = some q → ∀ y, up t y = some (some q) → y ∈ found
theorem Bfs.start {t : TD} {p : Str} {l : List Str} (h : Line t p l) : Bfs t p [p] 0 := by
  refine ⟨rfl, by simp, fun y hy => ?_, Nat.zero_le _, fun j y hj ne => ?_, fun i q hi => absurd hi (Nat.not_lt_zero _)⟩
  · have e : y = p := by simpa using hy
    subst e
    unfold InBr
    rw [line_eq h]
    exact h.mem_self
  · cases j with
    | zero =>
      have e : p = y := by simpa using hj
      exact absurd e.symm ne
    | succ j => simp at hj
theorem idx_eq {l : List Str} (nd : l.Nodup) {i j : Nat} {x : Str} (a : l[i]? = some x) (b : l[j]? = some x) : i = j := by
  obtain ⟨h1, e1⟩ := List.getElem?_eq_some_iff.mp a
  obtain ⟨h2, e2⟩ := List.getElem?_eq_some_iff.mp b
  exact (List.getElem_inj nd).mp (e1.trans e2.symm)
theorem Bfs.next {t : TD} {p : Str} {found : List Str} {at_ : Nat} {x : Str} {l : List Str} (nd : (keys t).Nodup) (hp : Line t p l) (B : Bfs t p found at_) (hx : found[at_]? = some x) : Bfs t p (found ++ undr t x) (at_ + 1) := by
  have hlt : at_ < found.length := (List.getElem?_eq_some_iff.mp hx).1
  have xin : x ∈ found := List.mem_of_getElem? hx
  have xbr := B.br x xin
  have xl := line_ex xbr
  have pnot : up t p ≠ some (some x) := fun e => xl.not_below e xbr
  refine ⟨?_, ?_, ?_, ?_, ?_, ?_⟩
  · cases hf : found with
    | nil => rw [hf] at hlt; simp at hlt
    | cons a r =>
      have := B.hd
      rw [hf] at this
      exact this
  · refine List.nodup_append.mpr ⟨B.nd, undr_nodup nd x, fun a ha b hb e => ?_⟩
    subst e
    have ub := mem_undr.mp hb
    have ne : a ≠ p := fun e => pnot (e ▸ ub)
    obtain ⟨j, hj⟩ := List.getElem?_of_mem ha
    obtain ⟨i, q, _, hi, hq, uq⟩ := B.par j a hj ne
    rw [ub] at uq
    cases uq
    have := idx_eq B.nd hq hx
    omega
  · intro y hy
    rcases List.mem_append.mp hy with hy | hy
    · exact B.br y hy
    · have uy := mem_undr.mp hy
      unfold InBr
      rw [line_eq (.step uy xl)]
      exact List.mem_cons_of_mem _ xbr
  · rw [List.length_append]; omega
  · intro j y hj ne
    by_cases hjl : j < found.length
    · rw [List.getElem?_append_left hjl] at hj
      obtain ⟨i, q, h1, h2, h3, h4⟩ := B.par j y hj ne
      exact ⟨i, q, h1, by omega, by rw [List.getElem?_append_left (by omega)]; exact h3, h4⟩
    · have hy : y ∈ undr t x := by
        rw [List.getElem?_append_right (by omega)] at hj
        exact List.mem_of_getElem? hj
      exact ⟨at_, x, by omega, by omega, by rw [List.getElem?_append_left hlt]; exact hx, mem_undr.mp hy⟩
  · intro i q hi hq y uy
    have hil : i < found.length := by omega
    rw [List.getElem?_append_left hil] at hq
    by_cases e : i = at_
    · subst e
      rw [hx] at hq
      cases hq
      exact List.mem_append_right _ (mem_undr.mpr uy)
    · exact List.mem_append_left _ (B.cl i q (by omega) hq y uy)
theorem Bfs.keys {t : TD} {p : Str} {found : List Str} {at_ : Nat} (B : Bfs t p found at_) : ∀ y ∈ found, y ∈ keys t := fun y hy => (line_ex (B.br y hy)).key
theorem nodup_le {l l' : List Str} (nd : l.Nodup) (h : ∀ x ∈ l, x ∈ l') : l.length ≤ l'.length := by
  induction l generalizing l' with
  | nil => exact Nat.zero_le _
  | cons a l ih =>
    have nd2 := List.nodup_cons.mp nd
    have ha := h a List.mem_cons_self
    have := ih (l' := l'.erase a) nd2.2 fun x hx => by
      refine (List.mem_erase_of_ne fun e => ?_).mpr (h x (List.mem_cons_of_mem _ hx))
      subst e
      exact nd2.1 hx
    rw [List.length_erase_of_mem ha] at this
    have := List.length_pos_of_mem ha
    rw [List.length_cons]
    omega
theorem Bfs.len {t : TD} {p : Str} {found : List Str} {at_ : Nat} (B : Bfs t p found at_) : found.length ≤ t.length := by
  rw [← keys_len]
  exact nodup_le B.nd B.keys
/-- all is gone through: the whole branch -/
theorem Bfs.done {t : TD} {p : Str} {found : List Str} (B : Bfs t p found found.length) : ∀ y, y ∈ found ↔ InBr t p y := by
  have pin : p ∈ found := by
    cases hf : found with
    | nil => have := B.hd; rw [hf] at this; cases this
    | cons a r =>
      have := B.hd
      rw [hf] at this
      have e : a = p := by simpa using this
      rw [e]
      exact List.mem_cons_self
  have go : ∀ {y l}, Line t y l → p ∈ l → y ∈ found := by
    intro y l h
    induction h with
    | @head y e =>
      intro hp
      have e2 : p = y := by simpa using hp
      rw [← e2]; exact pin
    | @step y q l e h2 ih =>
      intro hp
      rcases List.mem_cons.mp hp with z | z
      · rw [← z]; exact pin
      · have hq := ih z
        obtain ⟨i, hi⟩ := List.getElem?_of_mem hq
        exact B.cl i q (List.getElem?_eq_some_iff.mp hi).1 hi y e
  exact fun y => ⟨B.br y, fun h => go (line_ex h) h⟩
/-- the way down, whole -/
structure Down (t : TD) (p : Str) (l : List Str) : Prop where
  b : Bfs t p l l.length
theorem Down.mem {t : TD} {p : Str} {l : List Str} (D : Down t p l) (y : Str) : y ∈ l ↔ InBr t p y := D.b.done y
theorem Down.srt {t : TD} {p : Str} {l : List Str} (nd : (keys t).Nodup) (D : Down t p l) : srt l = branch t p := branch_of nd D.b.nd D.mem

/-! ### sizes -/
noncomputable def sz (t : TD) (p : Str) : Nat := (branch t p).length
/-- those right below x that are in D, their sizes together -/
noncomputable def below_sum (t : TD) (x : Str) (D : List Str) : Nat := (((undr t x).filter fun y => decide (y ∈ D)).map (sz t)).sum
theorem sum_more (f : Str → Nat) (D : List Str) (y : Str) (hD : y ∉ D) : ∀ l : List Str, l.Nodup → ((l.filter fun z => decide (z ∈ y :: D)).map f).sum = ((l.filter fun z => decide (z ∈ D)).map f).sum + (if y ∈ l then f y else 0)
  | [], _ => by simp
  | a :: l, nd => by
    have nd2 := List.nodup_cons.mp nd
    have ih := sum_more f D y hD l nd2.2
    by_cases e : a = y
    · subst e
      have h1 : decide (a ∈ a :: D) = true := by simp
      have h2 : decide (a ∈ D) = false := by simpa using hD
      rw [List.filter_cons, List.filter_cons, if_pos h1, if_neg (by rw [h2]; exact Bool.false_ne_true), List.map_cons, List.sum_cons, ih, if_neg nd2.1, if_pos List.mem_cons_self]
      omega
    · have hy : (y ∈ a :: l) ↔ y ∈ l := by
        rw [List.mem_cons]
        exact ⟨fun h => h.resolve_left (fun z => e z.symm), .inr⟩
      have hif : (if y ∈ a :: l then f y else 0) = (if y ∈ l then f y else 0) := by
        by_cases q : y ∈ l
        · rw [if_pos (hy.mpr q), if_pos q]
        · rw [if_neg (fun z => q (hy.mp z)), if_neg q]
      rw [hif]
      by_cases q : a ∈ D
      · have h1 : decide (a ∈ y :: D) = true := by simp [q]
        have h2 : decide (a ∈ D) = true := by simp [q]
        rw [List.filter_cons, List.filter_cons, if_pos h1, if_pos h2, List.map_cons, List.sum_cons, List.map_cons, List.sum_cons, ih]
        omega
      · have h1 : decide (a ∈ y :: D) = false := by simp [q, e]
        have h2 : decide (a ∈ D) = false := by simp [q]
        rw [List.filter_cons, List.filter_cons, if_neg (by rw [h1]; exact Bool.false_ne_true), if_neg (by rw [h2]; exact Bool.false_ne_true), ih]
theorem below_sum_cons {t : TD} (nd : (keys t).Nodup) {x y : Str} {D : List Str} (hD : y ∉ D) : below_sum t x (y :: D) = below_sum t x D + (if up t y = some (some x) then sz t y else 0) := by
  unfold below_sum
  rw [sum_more (sz t) D y hD _ (undr_nodup nd x)]
  by_cases h : up t y = some (some x)
  · rw [if_pos (mem_undr.mpr h), if_pos h]
  · rw [if_neg (fun z => h (mem_undr.mp z)), if_neg h]
theorem below_sum_nil (t : TD) (x : Str) : below_sum t x [] = 0 := by
  unfold below_sum
  have e : (undr t x).filter (fun y => decide (y ∈ ([] : List Str))) = [] := List.filter_eq_nil_iff.mpr fun y _ => by simp
  rw [e]; rfl
theorem InBr.of_under {t : TD} {x y z : Str} (h : up t y = some (some x)) (hz : InBr t y z) : InBr t x z := by
  unfold InBr at *
  have L := line_ex hz
  obtain ⟨a, l', e, h2⟩ := L.suffix hz
  cases h2 with
  | head e2 => rw [e2] at h; cases h
  | step e2 h3 =>
    rw [e2] at h
    cases h
    rw [e]
    exact List.mem_append_right _ (List.mem_cons_of_mem _ h3.mem_self)
theorem InBr.split {t : TD} {x z : Str} (h : InBr t x z) : z = x ∨ ∃ y, up t y = some (some x) ∧ InBr t y z := by
  have L := line_ex h
  unfold InBr at h
  generalize line t z = l at h L
  have go : ∀ {z l}, Line t z l → x ∈ l → z = x ∨ ∃ y, up t y = some (some x) ∧ y ∈ l := by
    intro z l h
    induction h with
    | @head p e =>
      intro hx
      have e2 : x = p := by simpa using hx
      exact .inl e2.symm
    | @step p q l e h2 ih =>
      intro hx
      rcases List.mem_cons.mp hx with w | w
      · exact .inl w.symm
      · rcases ih w with w | ⟨y, h3, h4⟩
        · exact .inr ⟨p, by rw [← w]; exact e, List.mem_cons_self⟩
        · exact .inr ⟨y, h3, List.mem_cons_of_mem _ h4⟩
  rcases go L h with e | ⟨y, h1, h2⟩
  · exact .inl e
  · refine .inr ⟨y, h1, ?_⟩
    unfold InBr
    rw [line_eq L]
    exact h2
/-- on one line there is just one right below x -/
theorem InBr.one {t : TD} {x y y' z : Str} (h : up t y = some (some x)) (h' : up t y' = some (some x)) (a : InBr t y z) (b : InBr t y' z) : y = y' := by
  have L := line_ex a
  unfold InBr at a b
  obtain ⟨l1, m1, e1, g1⟩ := L.suffix a
  obtain ⟨l2, m2, e2, g2⟩ := L.suffix b
  cases g1 with
  | head q => rw [q] at h; cases h
  | @step _ _ m1 q1 k1 =>
    rw [h] at q1; cases q1
    cases g2 with
    | head q => rw [q] at h'; cases h'
    | @step _ _ m2 q2 k2 =>
      rw [h'] at q2; cases q2
      have em := k1.det k2
      subst em
      have e3 : (l1 ++ [y]) ++ m1 = (l2 ++ [y']) ++ m1 := by
        rw [List.append_assoc, List.append_assoc]
        exact e1.symm.trans e2
      have e4 := List.append_cancel_right e3
      have e5 := List.append_inj' e4 rfl
      simpa using e5.2
theorem sum_flat {α : Type} (f : α → List Str) : ∀ l : List α, (l.flatMap f).length = (l.map fun a => (f a).length).sum
  | [] => rfl
  | a :: l => by rw [List.flatMap_cons, List.length_append, sum_flat f l, List.map_cons, List.sum_cons]
theorem nodup_flat {α : Type} (f : α → List Str) : ∀ l : List α, (∀ a ∈ l, (f a).Nodup) → l.Pairwise (fun a b => ∀ z, z ∈ f a → z ∈ f b → False) → (l.flatMap f).Nodup
  | [], _, _ => by simp
  | a :: l, h, p => by
    have p2 := List.pairwise_cons.mp p
    rw [List.flatMap_cons]
    refine List.nodup_append.mpr ⟨h a List.mem_cons_self, nodup_flat f l (fun b hb => h b (List.mem_cons_of_mem _ hb)) p2.2, fun z hz w hw e => ?_⟩
    subst e
    obtain ⟨b, hb, hzb⟩ := List.mem_flatMap.mp hw
    exact p2.1 b hb z hz hzb
theorem sz_eq {t : TD} (nd : (keys t).Nodup) {x : Str} {l : List Str} (hx : Line t x l) : sz t x = 1 + ((undr t x).map (sz t)).sum := by
  have hnd : (x :: (undr t x).flatMap (branch t)).Nodup := by
    refine List.nodup_cons.mpr ⟨fun h => ?_, ?_⟩
    · obtain ⟨y, hy, hb⟩ := List.mem_flatMap.mp h
      have uy := mem_undr.mp hy
      have b := mem_branch.mp hb
      unfold InBr at b
      rw [line_eq hx] at b
      exact hx.not_below uy b
    · refine nodup_flat _ _ (fun y _ => branch_nodup nd y) ?_
      refine List.Pairwise.imp_of_mem (fun {a b} ha hb hab => ?_) (List.nodup_iff_pairwise_ne.mp (undr_nodup nd x))
      intro z hz1 hz2
      exact hab (InBr.one (mem_undr.mp ha) (mem_undr.mp hb) (mem_branch.mp hz1) (mem_branch.mp hz2))
  have hm : ∀ z, z ∈ x :: (undr t x).flatMap (branch t) ↔ z ∈ branch t x := by
    intro z
    rw [mem_branch, List.mem_cons, List.mem_flatMap]
    constructor
    · rintro (e | ⟨y, hy, hz⟩)
      · subst e
        unfold InBr
        rw [line_eq hx]
        exact hx.mem_self
      · exact InBr.of_under (mem_undr.mp hy) (mem_branch.mp hz)
    · intro h
      rcases h.split with e | ⟨y, h1, h2⟩
      · exact .inl e
      · exact .inr ⟨y, mem_undr.mpr h1, mem_branch.mpr h2⟩
  have hp := (List.perm_ext_iff_of_nodup hnd (branch_nodup nd x)).mpr hm
  have := hp.length_eq
  rw [List.length_cons, sum_flat] at this
  unfold sz
  rw [← this]
  show _ = 1 + ((undr t x).map fun a => (branch t a).length).sum
  omega
/-- all of those right below x are in D -/
theorem below_sum_all {t : TD} {x : Str} {D : List Str} (h : ∀ y, up t y = some (some x) → y ∈ D) : below_sum t x D = ((undr t x).map (sz t)).sum := by
  unfold below_sum
  have e : (undr t x).filter (fun y => decide (y ∈ D)) = undr t x := List.filter_eq_self.mpr fun y hy => by simpa using h y (mem_undr.mp hy)
  rw [e]
end SP
/-! SPDict: dicts by their keys and a function; dicts of lists. -/
namespace SP
open PySem PySem.Spec PyProof.Rows L2
theorem dget_r {H : Hp} {a : Addr} {kvs : List (Key × V)} {k : Key} (e : Rd H a (.dK kvs)) : DGet H a (kV k) (valV kvs k) := .inl ⟨kvs, k, e, rfl, rfl⟩
theorem dget_s {H : Hp} {a : Addr} {kvs : List (Key × V)} {k : Str} (e : Rd H a (.dK kvs)) : DGet H a (.str k) (valV kvs (Sum.inr k)) := .inl ⟨kvs, Sum.inr k, e, rfl, rfl⟩
/-- the same, the value known -/
theorem dget_v {H : Hp} {a : Addr} {kvs : List (Key × V)} {k : Str} {v : V} (e : Rd H a (.dK kvs)) (h : valV kvs (Sum.inr k) = some v) : DGet H a (.str k) (some v) := by
  have q := dget_s (k := k) e
  rw [h] at q
  exact q
theorem dput_s {H : Hp} {a : Addr} {kvs : List (Key × V)} {k : Str} {v : V} (e : H a = some (.dK kvs)) (hl : kvs.length < sizeLine) : DPut H a (.str k) v (upd H a (.dK (putK kvs (Sum.inr k) v))) := .inl ⟨kvs, Sum.inr k, e, rfl, hl, rfl⟩
def gkv (ks : List Str) (g : Str → V) : List (Key × V) := ks.map fun k => (Sum.inr k, g k)
theorem gkv_len (ks : List Str) (g : Str → V) : (gkv ks g).length = ks.length := by unfold gkv; rw [List.length_map]
theorem gkv_keys (ks : List Str) (g : Str → V) : (gkv ks g).map (·.1) = ks.map Sum.inr := by
  unfold gkv
  rw [List.map_map]
  rfl
theorem val_gkv (ks : List Str) (g : Str → V) (q : Str) : valV (gkv ks g) (Sum.inr q) = if q ∈ ks then some (g q) else none := by
  induction ks with
  | nil => rfl
  | cons k ks ih =>
    have e : gkv (k :: ks) g = (Sum.inr k, g k) :: gkv ks g := rfl
    rw [e]
    by_cases h : k = q
    · subst h
      rw [valV_pos rfl, if_pos List.mem_cons_self]
    · rw [valV_neg (fun z => h (Sum.inr.inj z)), ih]
      by_cases h2 : q ∈ ks
      · rw [if_pos h2, if_pos (List.mem_cons_of_mem _ h2)]
      · rw [if_neg h2, if_neg]
        intro z
        rcases List.mem_cons.mp z with z | z
        · exact h z.symm
        · exact h2 z
theorem val_gkv_in {ks : List Str} {g : Str → V} {q : Str} (h : q ∈ ks) : valV (gkv ks g) (Sum.inr q) = some (g q) := by rw [val_gkv, if_pos h]
def setF (g : Str → V) (q : Str) (v : V) : Str → V := fun k => if k = q then v else g k
theorem gkv_congr {ks : List Str} {g g' : Str → V} (h : ∀ k ∈ ks, g k = g' k) : gkv ks g = gkv ks g' := by
  unfold gkv
  exact List.map_congr_left fun k hk => by rw [h k hk]
theorem put_gkv {ks : List Str} {g : Str → V} {q : Str} {v : V} (h : q ∈ ks) : putK (gkv ks g) (Sum.inr q) v = gkv ks (setF g q v) := by
  unfold putK
  have e : ((gkv ks g).any fun kv => decide (kv.1 = (Sum.inr q : Key))) = true := by
    rw [valV_any, val_gkv_in h]
    rfl
  rw [if_pos e]
  unfold gkv
  rw [List.map_map]
  refine List.map_congr_left fun k _ => ?_
  show (if (Sum.inr k : Key) = Sum.inr q then (Sum.inr k, v) else (Sum.inr k, g k)) = (Sum.inr k, setF g q v k)
  unfold setF
  by_cases z : k = q
  · rw [if_pos (by rw [z]), if_pos z]
  · rw [if_neg (fun w => z (Sum.inr.inj w)), if_neg z]
theorem put_gkv_new {ks : List Str} {g : Str → V} {q : Str} {v : V} (h : q ∉ ks) : putK (gkv ks g) (Sum.inr q) v = gkv (ks ++ [q]) (setF g q v) := by
  rw [putK_new v (by rw [val_gkv, if_neg h])]
  unfold gkv
  rw [List.map_append]
  congr 1
  · refine List.map_congr_left fun k hk => ?_
    unfold setF
    rw [if_neg (fun z : k = q => h (by rw [← z]; exact hk))]
  · unfold setF
    simp
/-- a dict of lists at D: the keys ks, the list of k at f k -/
structure DL (H : Hp) (D : Addr) (ks : List Str) (f : Str → Addr) (ls : Str → List Str) : Prop where
  dk : H D = some (.dK (gkv ks fun k => .ref (f k)))
  at_ : ∀ k ∈ ks, H (f k) = some (.lst ((ls k).map V.str))
  inj : ∀ k ∈ ks, ∀ j ∈ ks, f k = f j → k = j
theorem DL.same {H H' : Hp} {D : Addr} {ks : List Str} {f : Str → Addr} {ls : Str → List Str} (h : DL H D ks f ls) (e : Same H H') : DL H' D ks f ls :=
  ⟨e _ _ h.dk, fun k hk => e _ _ (h.at_ k hk), h.inj⟩
theorem DL.ne {H : Hp} {D : Addr} {ks : List Str} {f : Str → Addr} {ls : Str → List Str} (h : DL H D ks f ls) {k : Str} (hk : k ∈ ks) : D ≠ f k := ne_of h.dk (h.at_ k hk) (by intro z; cases z)
theorem DL.congr {H : Hp} {D : Addr} {ks : List Str} {f : Str → Addr} {ls ls' : Str → List Str} (h : DL H D ks f ls) (e : ∀ k ∈ ks, ls k = ls' k) : DL H D ks f ls' :=
  ⟨h.dk, fun k hk => by rw [← e k hk]; exact h.at_ k hk, h.inj⟩
/-- the list of q grows -/
theorem DL.grow {H : Hp} {D : Addr} {ks : List Str} {f : Str → Addr} {ls : Str → List Str} (h : DL H D ks f ls) {q : Str} (hq : q ∈ ks) (zs : List Str) :
    DL (upd H (f q) (.lst (zs.map V.str))) D ks f (fun k => if k = q then zs else ls k) := by
  refine ⟨by rw [upd_ne (h.ne hq)]; exact h.dk, fun k hk => ?_, h.inj⟩
  by_cases e : k = q
  · subst e
    rw [upd_same, if_pos rfl]
  · rw [upd_ne (fun z => e (h.inj k hk q hq z)), if_neg e]
    exact h.at_ k hk
/-- a new key with a new list -/
theorem DL.new {H : Hp} {D : Addr} {ks : List Str} {f : Str → Addr} {ls : Str → List Str} (h : DL H D ks f ls) {q : Str} (hq : q ∉ ks) {p : Addr} (hp : H p = none) (zs : List Str) :
    DL (upd (upd H p (.lst (zs.map V.str))) D (.dK (putK (gkv ks fun k => .ref (f k)) (Sum.inr q) (.ref p)))) D (ks ++ [q]) (fun k => if k = q then p else f k) (fun k => if k = q then zs else ls k) := by
  have nD : D ≠ p := ne_of_none h.dk hp
  refine ⟨?_, fun k hk => ?_, fun k hk j hj e => ?_⟩
  · rw [upd_same, put_gkv_new hq]
    congr 2
    refine gkv_congr fun k _ => ?_
    unfold setF
    by_cases z : k = q
    · rw [if_pos z, if_pos z]
    · rw [if_neg z, if_neg z]
  · show upd _ D _ (if k = q then p else f k) = _
    by_cases z : k = q
    · rw [if_pos z, if_pos z, upd_ne nD.symm, upd_same]
    · have hk' : k ∈ ks := by
        rcases List.mem_append.mp hk with w | w
        · exact w
        · exact absurd (by simpa using w) z
      rw [if_neg z, if_neg z, upd_ne (h.ne hk').symm, upd_ne (ne_of_none (h.at_ k hk') hp)]
      exact h.at_ k hk'
  · have mk : ∀ k, k ∈ ks ++ [q] → k ≠ q → k ∈ ks := fun k hk ne => by
      rcases List.mem_append.mp hk with w | w
      · exact w
      · exact absurd (by simpa using w) ne
    replace e : (if k = q then p else f k) = (if j = q then p else f j) := e
    by_cases z : k = q
    · by_cases z2 : j = q
      · rw [z, z2]
      · rw [if_pos z, if_neg z2] at e
        exact absurd e.symm (ne_of_none (h.at_ j (mk j hj z2)) hp)
    · by_cases z2 : j = q
      · rw [if_neg z, if_pos z2] at e
        exact absurd e (ne_of_none (h.at_ k (mk k hk z)) hp)
      · rw [if_neg z, if_neg z2] at e
        exact h.inj k (mk k hk z) j (mk j hj z2) e
end SP
/-! SPTree3: trees grow; their rows in another order. -/
namespace SP
open PySem PySem.Spec PyProof.Rows L2
/-! ### trees grow -/
theorem keys_app (t t' : TD) : keys (t ++ t') = keys t ++ keys t' := by unfold keys; rw [List.map_append]
theorem up_app_left {t t' : TD} {p : Str} {a : Option Str} (h : up t p = some a) : up (t ++ t') p = some a := by
  induction t with
  | nil => cases h
  | cons e t ih =>
    rw [List.cons_append, up_cons]
    rw [up_cons] at h
    by_cases q : e.1 = p
    · rw [if_pos q] at h ⊢; exact h
    · rw [if_neg q] at h ⊢; exact ih h
theorem up_app_right {t t' : TD} {p : Str} (h : p ∉ keys t) : up (t ++ t') p = up t' p := by
  induction t with
  | nil => rfl
  | cons e t ih =>
    have hk : keys (e :: t) = e.1 :: keys t := rfl
    rw [hk, List.mem_cons, not_or] at h
    rw [List.cons_append, up_cons, if_neg (fun z => h.1 z.symm), ih h.2]
theorem IsTree.root (p : Str) : IsTree [(p, none)] := by
  have e : ∀ q a, up [(p, none)] q = some a → q = p ∧ a = none := fun q a h => by
    rw [up_cons] at h
    by_cases z : p = q
    · rw [if_pos z] at h
      exact ⟨z.symm, (Option.some.inj h).symm⟩
    · rw [if_neg z] at h; cases h
  have hp : up [(p, none)] p = some none := by rw [up_cons, if_pos rfl]
  refine ⟨by simp [keys], fun q r h => ?_, fun q hq => ?_, ⟨p, hp, fun q h => (e q _ h).1⟩⟩
  · have := (e q _ h).2
    cases this
  · have : q = p := by simpa [keys] using hq
    subst this
    exact ⟨[q], .head hp⟩
/-- a new post right below q -/
theorem IsTree.leaf {t : TD} (T : IsTree t) {p q : Str} (hp : p ∉ keys t) (hq : q ∈ keys t) : IsTree (t ++ [(p, some q)]) := by
  have up1 : ∀ r a, up t r = some a → up (t ++ [(p, some q)]) r = some a := fun r a h => up_app_left h
  have upp : up (t ++ [(p, some q)]) p = some (some q) := by rw [up_app_right hp, up_cons, if_pos rfl]
  have cases' : ∀ r a, up (t ++ [(p, some q)]) r = some a → up t r = some a ∨ (r = p ∧ a = some q) := fun r a h => by
    by_cases hr : r ∈ keys t
    · obtain ⟨b, hb⟩ := up_ex hr
      rw [up1 r b hb] at h
      exact .inl (by rw [hb]; exact h)
    · rw [up_app_right hr, up_cons] at h
      by_cases z : p = r
      · rw [if_pos z] at h
        exact .inr ⟨z.symm, (Option.some.inj h).symm⟩
      · rw [if_neg z] at h; cases h
  have ln : ∀ {r l}, Line t r l → Line (t ++ [(p, some q)]) r l := fun {r l} h => h.congr fun x hx => by
    obtain ⟨a, ha⟩ := up_ex (h.keys x hx)
    rw [ha, up1 x a ha]
  refine ⟨?_, fun r s h => ?_, fun r hr => ?_, ?_⟩
  · rw [keys_app]
    refine List.nodup_append.mpr ⟨T.nd, by simp [keys], fun a ha b hb e => ?_⟩
    have : b = p := by simpa [keys] using hb
    rw [e, this] at ha
    exact hp ha
  · rw [keys_app]
    rcases cases' r _ h with h | ⟨_, h⟩
    · exact List.mem_append_left _ (T.cl r s h)
    · cases h
      exact List.mem_append_left _ hq
  · rw [keys_app] at hr
    rcases List.mem_append.mp hr with hr | hr
    · obtain ⟨l, hl⟩ := T.re r hr
      exact ⟨l, ln hl⟩
    · have : r = p := by simpa [keys] using hr
      subst this
      obtain ⟨l, hl⟩ := T.re q hq
      exact ⟨r :: l, .step upp (ln hl)⟩
  · obtain ⟨x, hx, hu⟩ := T.one
    refine ⟨x, up1 _ _ hx, fun r h => ?_⟩
    rcases cases' r _ h with h | ⟨_, h⟩
    · exact hu r h
    · cases h
/-- the rows of a dict in another order -/
def reTD (t : TD) (ks : List Str) : TD := ks.map fun k => (k, (up t k).getD none)
theorem reTD_keys (t : TD) (ks : List Str) : keys (reTD t ks) = ks := by unfold reTD keys; rw [List.map_map]; exact List.map_id' ks
theorem reTD_self {t : TD} (nd : (keys t).Nodup) : reTD t (keys t) = t := by
  unfold reTD keys
  rw [List.map_map]
  have : ∀ e ∈ t, ((fun k => (k, (up t k).getD none)) ∘ fun (e : Str × Option Str) => e.1) e = e := fun e he => by
    show (e.1, (up t e.1).getD none) = e
    rw [up_of_mem nd (a := e.2) he]
    rfl
  rw [List.map_congr_left this]
  exact List.map_id' t
theorem reTD_perm {t : TD} (nd : (keys t).Nodup) {ks : List Str} (h : ks.Perm (keys t)) : t.Perm (reTD t ks) := by
  have e := reTD_self nd
  have p : (reTD t ks).Perm (reTD t (keys t)) := h.map _
  rw [e] at p
  exact p.symm
theorem kvT_reTD (t : TD) (ks : List Str) : kvT (reTD t ks) = gkv ks fun k => ov ((up t k).getD none) := by
  unfold kvT reTD gkv
  rw [List.map_map]
  rfl
end SP
namespace SP
open PySem PySem.Spec PyProof.Rows L2
/-! ### one post otherwise, one less -/
theorem eqKV_iff {t t' : TD} : eqKV (kvT t) (kvT t') = true ↔ t.length = t'.length ∧ ∀ p a, (p, a) ∈ t → up t' p = some a := by
  unfold eqKV
  rw [Bool.and_eq_true, decide_eq_true_eq, kvT_len, kvT_len, List.all_eq_true]
  refine and_congr Iff.rfl ⟨fun h p a hp => ?_, fun h kv hkv => ?_⟩
  · have := h (Sum.inr p, ov a) (List.mem_map.mpr ⟨(p, a), hp, rfl⟩)
    dsimp only at this
    rw [val_kvT] at this
    cases e : up t' p with
    | none => rw [e] at this; cases this
    | some b =>
      rw [e] at this
      have e2 : eqV (ov a) (ov b) = true := this
      cases a with
      | none => cases b with
        | none => rfl
        | some y => cases e2
      | some x => cases b with
        | none => cases e2
        | some y =>
          have : x = y := by simpa [ov, eqV] using e2
          rw [this]
  · obtain ⟨e, he, rfl⟩ := List.mem_map.mp hkv
    dsimp only
    rw [val_kvT, h e.1 e.2 he]
    show eqV (ov e.2) (ov e.2) = true
    cases e.2 with
    | none => rfl
    | some x => simp [ov, eqV]
/-- the row of p otherwise -/
def setUp (t : TD) (p : Str) (a : Option Str) : TD := t.map fun e => if e.1 = p then (e.1, a) else e
theorem setUp_keys (t : TD) (p : Str) (a : Option Str) : keys (setUp t p a) = keys t := by
  unfold keys setUp
  rw [List.map_map]
  refine List.map_congr_left fun e _ => ?_
  show (if e.1 = p then (e.1, a) else e).1 = e.1
  split <;> rfl
theorem setUp_up (t : TD) (p : Str) (a : Option Str) (q : Str) : up (setUp t p a) q = if q = p then (if p ∈ keys t then some a else none) else up t q := by
  induction t with
  | nil =>
    show none = _
    split
    · rw [if_neg (by simp [keys])]
    · rfl
  | cons e t ih =>
    have h1 : setUp (e :: t) p a = (if e.1 = p then (e.1, a) else e) :: setUp t p a := rfl
    have h2 : keys (e :: t) = e.1 :: keys t := rfl
    rw [h1, up_cons, ih, up_cons, h2]
    by_cases z : e.1 = p
    · rw [if_pos z]
      by_cases w : q = p
      · have : e.1 = q := by rw [z, w]
        rw [if_pos this, if_pos w, if_pos (by rw [z]; exact List.mem_cons_self)]
      · have : ¬ e.1 = q := fun y => w (by rw [← y, z])
        rw [if_neg this, if_neg w, if_neg w, if_neg this]
    · rw [if_neg z]
      by_cases w : q = p
      · have : ¬ e.1 = q := fun y => z (by rw [y, w])
        rw [if_neg this, if_pos w, if_pos w]
        by_cases m : p ∈ keys t
        · rw [if_pos m, if_pos (List.mem_cons_of_mem _ m)]
        · rw [if_neg m, if_neg]
          intro y
          rcases List.mem_cons.mp y with y | y
          · exact z y.symm
          · exact m y
      · rw [if_neg w, if_neg w]
theorem kvT_setUp {t : TD} {p : Str} (a : Option Str) (h : p ∈ keys t) : putK (kvT t) (Sum.inr p) (ov a) = kvT (setUp t p a) := by
  unfold putK
  have e : ((kvT t).any fun kv => decide (kv.1 = (Sum.inr p : Key))) = true := by
    obtain ⟨b, hb⟩ := up_ex h
    rw [valV_any, val_kvT, hb]
    rfl
  rw [if_pos e]
  unfold kvT setUp
  rw [List.map_map, List.map_map]
  refine List.map_congr_left fun x _ => ?_
  show (if (Sum.inr x.1 : Key) = Sum.inr p then (Sum.inr x.1, ov a) else (Sum.inr x.1, ov x.2)) = (Sum.inr (if x.1 = p then (x.1, a) else x).1, ov (if x.1 = p then (x.1, a) else x).2)
  by_cases z : x.1 = p
  · rw [if_pos (by rw [z]), if_pos z]
  · rw [if_neg (fun w => z (Sum.inr.inj w)), if_neg z]
/-- p moves right below g, that isn't in its branch -/
theorem IsTree.move {t : TD} (T : IsTree t) {p q g : Str} (hp : up t p = some (some q)) (hg : g ∈ keys t) (hb : ¬ InBr t p g) : IsTree (setUp t p (some g)) := by
  have hpk := up_key hp
  have upp : up (setUp t p (some g)) p = some (some g) := by rw [setUp_up, if_pos rfl, if_pos hpk]
  have upo : ∀ x, x ≠ p → up (setUp t p (some g)) x = up t x := fun x hx => by rw [setUp_up, if_neg hx]
  have gl : Line (setUp t p (some g)) g (SP.line t g) := (T.line hg).congr fun x hx => upo x fun e => hb (by rw [← e]; exact hx)
  refine ⟨by rw [setUp_keys]; exact T.nd, fun x y h => ?_, fun x hx => ?_, ?_⟩
  · rw [setUp_keys]
    by_cases e : x = p
    · rw [e, upp] at h
      cases h
      exact hg
    · rw [upo x e] at h
      exact T.cl x y h
  · rw [setUp_keys] at hx
    have L := T.line hx
    generalize SP.line t x = l at L
    induction L with
    | @head x e =>
      have hne : x ≠ p := fun z => by rw [z, hp] at e; cases e
      exact ⟨[x], .head (by rw [upo x hne]; exact e)⟩
    | @step x y l e h2 ih =>
      by_cases z : x = p
      · rw [z]
        exact ⟨_, .step upp gl⟩
      · obtain ⟨l2, hl2⟩ := ih h2.key
        exact ⟨_, .step (by rw [upo x z]; exact e) hl2⟩
  · obtain ⟨h, e, u⟩ := T.one
    have hne : h ≠ p := fun z => by rw [z, hp] at e; cases e
    refine ⟨h, by rw [upo h hne]; exact e, fun x hx => ?_⟩
    by_cases z : x = p
    · rw [z, upp] at hx; cases hx
    · rw [upo x z] at hx
      exact u x hx
/-- without p -/
def without (t : TD) (p : Str) : TD := t.filter fun e => decide (e.1 ≠ p)
theorem without_keys (t : TD) (p : Str) : keys (without t p) = (keys t).filter fun q => decide (q ≠ p) := by
  unfold keys without
  rw [List.filter_map]
  rfl
theorem without_up (t : TD) (p q : Str) : up (without t p) q = if q = p then none else up t q := by
  induction t with
  | nil =>
    show none = _
    split <;> rfl
  | cons e t ih =>
    unfold without at ih ⊢
    rw [List.filter_cons]
    by_cases z : e.1 = p
    · rw [if_neg (by simpa using z), ih, up_cons]
      by_cases w : q = p
      · rw [if_pos w, if_pos w]
      · rw [if_neg w, if_neg w, if_neg (fun y => w (by rw [← y, z]))]
    · rw [if_pos (by simpa using z), up_cons, up_cons, ih]
      by_cases w : q = p
      · rw [if_pos w, if_pos w, if_neg (fun y => z (by rw [y, w]))]
      · rw [if_neg w, if_neg w]
theorem kvT_without (t : TD) (p : Str) : dropK (kvT t) (Sum.inr p) = kvT (without t p) := by
  unfold dropK kvT without
  rw [List.filter_map]
  congr 1
  refine List.filter_congr fun e _ => ?_
  have h : ((Sum.inr e.1 : Key) = Sum.inr p) ↔ e.1 = p := ⟨Sum.inr.inj, fun z => by rw [z]⟩
  by_cases z : e.1 = p
  · simp [z]
  · simp [z]
theorem IsTree.less {t : TD} (T : IsTree t) {p q : Str} (hp : up t p = some (some q)) (hb : ∀ x, InBr t p x → x = p) : IsTree (without t p) := by
  have upo : ∀ x, x ≠ p → up (without t p) x = up t x := fun x hx => by rw [without_up, if_neg hx]
  refine ⟨by rw [without_keys]; exact T.nd.filter _, fun x y h => ?_, fun x hx => ?_, ?_⟩
  · by_cases e : x = p
    · rw [without_up, if_pos e] at h; cases h
    · rw [upo x e] at h
      rw [without_keys, List.mem_filter]
      refine ⟨T.cl x y h, decide_eq_true fun z => ?_⟩
      subst z
      have L := T.line (up_key h)
      have hin : ∀ l, Line t x l → y ∈ l := fun l L => by
        cases L with
        | head e2 => rw [h] at e2; cases e2
        | step e2 h2 =>
          rw [h] at e2
          cases e2
          exact List.mem_cons_of_mem _ h2.mem_self
      have this : InBr t y x := hin _ L
      exact e (hb x this)
  · rw [without_keys, List.mem_filter] at hx
    obtain ⟨hx, hne⟩ := hx
    have hne : x ≠ p := of_decide_eq_true hne
    have L := T.line hx
    refine ⟨_, L.congr fun y hy => upo y fun e => hne (hb x ?_)⟩
    rw [← e]
    exact hy
  · obtain ⟨h, e, u⟩ := T.one
    have hne : h ≠ p := fun z => by rw [z, hp] at e; cases e
    refine ⟨h, by rw [upo h hne]; exact e, fun x hx => ?_⟩
    by_cases z : x = p
    · rw [without_up, if_pos z] at hx; cases hx
    · rw [upo x z] at hx
      exact u x hx
end SP
namespace K01
open PySem PySem.Spec PyProof.Rows L2 SP
section
variable {P : Program} {w : World} {K : PySem.W.Frag} {mg : Str → Option Value} {base : Heap}

/-! ### the law's draws -/
def spCellAt (K : PySem.W.Frag) : Sp := fun vs H Q _ => ∃ (a : Addr) (ns : List Int) (k : Nat), vs = [.ref a, .int (k : Int)] ∧ SqL K H a (ns.map V.int) ∧ ∀ z : Int, Q (.int z) H
theorem sc_law_cell_at : FnScope ["script", "k"] ["script", "k"] (defScope s_law_cell_at) := ⟨rfl, rfl, rfl, by decide +kernel, rfl, by decide +kernel, by decide +kernel⟩
theorem o_law_cell_at (T : Txt K mg) : Def P w K mg base 1 "_law_cell_at" ["script", "k"] (spCellAt K) := by
  refine Def.of T.f_law_cell_at T.at_law_cell_at sc_law_cell_at (fun _ _ _ _ _ _ us hl => match us, hl with | [_, _], _ => rfl) (fun vs H Q E h => ?_) (fun cdv A outer s H vs Q E hr h => ?_)
  · obtain ⟨a, ns, k, rfl, _⟩ := h
    rfl
  · obtain ⟨a, ns, k, rfl, hs, q⟩ := h
    refine ⟨_, PSs.nox (pss_cons (ps_if (pt_cmpR op_lt (pv 1) (pe_callB (call_len_seq) (by rfl) T.n_len (by decide +kernel) (pa_cons (pv 0) pa_nil)) (nomark _)) (pss_one (ps_ret (pe_ix ix_list (pv 0) (pv 1) (fun _ _ => rfl)))) pss_nil)
      (pss_one (ps_ret pe_int))), ?_⟩
    refine ⟨_, rfl, _, rfl, a, _, rfl, .inl hs, _, _, rfl, rfl, _, rfl, ?_⟩
    refine ite2 (fun c => ?_) (fun c => ?_)
    · have hk : k < ns.length := by simpa using c
      refine ⟨_, rfl, _, rfl, a, _, _, .int ns[k], rfl, rfl, hs, atI_nat (by simp [hk]), q _⟩
    · exact q _
def spMixed : Sp := fun vs H Q _ => ∃ (c k : Int), vs = [.int c, .int k] ∧ ∀ z : Int, 0 ≤ z → Q (.int z) H
theorem sc_law_mixed : FnScope ["cell", "k", "low"] ["cell", "k"] (defScope s_law_mixed) := ⟨rfl, rfl, rfl, by decide +kernel, rfl, by decide +kernel, by decide +kernel⟩
theorem o_law_mixed (T : Txt K mg) : Def P w K mg base 1 "_law_mixed" ["cell", "k"] spMixed := by
  refine Def.of T.f_law_mixed T.at_law_mixed sc_law_mixed (fun _ _ _ _ _ _ us hl => match us, hl with | [_, _], _ => rfl) (fun vs H Q E h => ?_) (fun cdv A outer s H vs Q E hr h => ?_)
  · obtain ⟨a, k, rfl, _⟩ := h
    rfl
  · obtain ⟨c, k, rfl, q⟩ := h
    refine ⟨_, PSs.nox (pss_cons (ps_set (i := 2) sc_law_mixed.nd rfl (Or.inl rfl) (pe_op op_add (pe_op op_mod (pv 0) pe_int) (pe_op op_mul (pe_op op_fdivW (pv 0) pe_int) pe_int)))
      (pss_cons (ps_set (i := 2) sc_law_mixed.nd rfl (Or.inl rfl) (pe_op op_mod (pe_op op_mul (pe_op op_add (pe_op op_add (pv 2) (pe_op op_mul pe_int (pv 1))) pe_int) pe_int) pe_int))
      (pss_cons (ps_set (i := 2) sc_law_mixed.nd rfl (Or.inl rfl) (pe_op op_mod (pe_op op_mul (pv 2) (pe_op op_add (pe_op op_add (pe_op op_fdiv (pv 2) pe_int) pe_int) (pv 1))) pe_int))
      (pss_one (ps_ret (pe_op op_mod (pe_op op_mul (pv 2) (pe_op op_add (pe_op op_fdiv (pv 2) pe_int) pe_int)) pe_int)))))), ?_⟩
    have m1 : (0 : Int) < 2147483629 := by decide
    refine ⟨_, rfl, _, _, rfl, rfl, m1, _, rfl, _, _, rfl, rfl, wide_div (b := 32) m1 (by decide) (by decide) (by decide), _, _, rfl, rfl, .inr (by decide), _, _, rfl, rfl, ?_⟩
    refine ⟨_, rfl, _, rfl, _, _, rfl, rfl, .inl (by decide), _, _, rfl, rfl, _, _, rfl, rfl, _, _, rfl, rfl, .inr (by decide), _, _, rfl, rfl, m1, ?_⟩
    generalize hl : ((c % 2147483629 + c / 2147483629 * 30011 + 69621 * k + 1) * 48271 % 2147483629 : Int) = l1
    have b1 : 0 ≤ l1 ∧ l1 < 2147483629 := by rw [← hl]; exact ⟨Int.emod_nonneg _ (by decide), Int.emod_lt_of_pos _ m1⟩
    refine ⟨_, rfl, _, rfl, _, _, rfl, rfl, ⟨by decide, by decide⟩, _, _, rfl, rfl, _, rfl, _, _, rfl, rfl, _, _, rfl, rfl, .inl ⟨by omega, by omega⟩, _, _, rfl, rfl, (by show (0 : Int) < _; decide), ?_⟩
    generalize hl2 : (l1 * (l1 / 907 + 16831 + k) % 2147483587 : Int) = l2
    have b2 : 0 ≤ l2 ∧ l2 < 2147483587 := by rw [← hl2]; exact ⟨Int.emod_nonneg _ (by decide), Int.emod_lt_of_pos _ (by decide)⟩
    refine ⟨_, rfl, _, rfl, _, _, rfl, rfl, ⟨by decide, by decide⟩, _, _, rfl, rfl, _, _, rfl, rfl, .inl ⟨by omega, by omega⟩, _, _, rfl, rfl, (by show (0 : Int) < _; decide), ?_⟩
    exact q _ (Int.emod_nonneg _ (by decide))

def spSource (K : PySem.W.Frag) : Sp := fun vs H Q _ => ∃ (a : Addr) (ns : List Int) (k : Nat), vs = [.ref a, .int (k : Int)] ∧ SqL K H a (ns.map V.int) ∧
  ∀ (z : Int) (p : Addr) (H' : Hp), Same H H' → H p = none → H' p = some (.lst [.int z, .int z, .int 0]) → Q (.ref p) H'
theorem sc_law_source : FnScope ["script", "k", "cell"] ["script", "k"] (defScope s_law_source) := ⟨rfl, rfl, rfl, by decide +kernel, rfl, by decide +kernel, by decide +kernel⟩
theorem o_law_source (T : Txt K mg) : Def P w K mg base 2 "_law_source" ["script", "k"] (spSource K) := by
  refine Def.of T.f_law_source T.at_law_source sc_law_source (fun _ _ _ _ _ _ us hl => match us, hl with | [_, _], _ => rfl) (fun vs H Q E h => ?_) (fun cdv A outer s H vs Q E hr h => ?_)
  · obtain ⟨a, ns, k, rfl, _⟩ := h
    rfl
  · obtain ⟨a, ns, k, rfl, hs, q⟩ := h
    refine ⟨_, PSs.nox (pss_cons (ps_if (pt_cmpR op_lt (pv 1) (pe_callB (call_len_seq) (by rfl) T.n_len (by decide +kernel) (pa_cons (pv 0) pa_nil)) (nomark _)) (pss_one (ps_ret (pe_lst (pa_cons (pe_ix ix_list (pv 0) (pv 1) (fun _ _ => rfl)) (pa_cons (pe_ix ix_list (pv 0) (pv 1) (fun _ _ => rfl)) (pa_cons pe_int pa_nil)))))) pss_nil)
      (pss_cons (ps_set (i := 2) sc_law_source.nd rfl (Or.inl rfl) (pe_callO (o_law_mixed T) (hr.mono (by decide)) rfl passL (pa_cons (pe_callO (o_law_cell_at T) (hr.mono (by decide)) rfl passL (pa_cons (pv 0) (pa_cons pe_int pa_nil))) (pa_cons (pe_op op_add pe_int (pv 1)) pa_nil))))
      (pss_one (ps_ret (pe_lst (pa_cons (pv 2) (pa_cons (pv 2) (pa_cons pe_int pa_nil)))))))), ?_⟩
    refine ⟨_, rfl, _, rfl, a, _, rfl, .inl hs, _, _, rfl, rfl, _, rfl, ?_⟩
    refine ite2 (fun c => ?_) (fun c => ?_)
    · have hk : k < ns.length := by simpa using c
      have e := atI_nat (xs := ns.map V.int) (j := k) (v := .int ns[k]) (by simp [hk])
      refine ⟨_, rfl, _, rfl, a, _, _, _, rfl, rfl, hs, e, _, rfl, _, rfl, a, _, _, _, rfl, rfl, hs, e, (by show 3 ≤ sizeLine; decide), fun p hp => ?_⟩
      exact q _ p _ (Same.upd' hp) hp upd_same
    · refine ⟨_, rfl, a, ns, 0, rfl, hs, fun z => ?_⟩
      refine ⟨_, rfl, _, _, rfl, rfl, z, _, rfl, fun z2 _ => ?_⟩
      refine ⟨_, rfl, _, rfl, (by show 3 ≤ sizeLine; decide), fun p hp => ?_⟩
      exact q _ p _ (Same.upd' hp) hp upd_same
/-- three whole numbers at s -/
def Src (H : Hp) (s : Addr) : Prop := ∃ a b c : Int, H s = some (.lst [.int a, .int b, .int c])
def spNext : Sp := fun vs H Q _ => ∃ (s : Addr) (n : Nat), vs = [.ref s, .int (n : Int)] ∧ Src H s ∧ 0 < n ∧ n < 1000000 ∧ ∀ (r : Nat) (H' : Hp), r < n → SameX s H H' → Src H' s → Q (.int (r : Int)) H'
theorem toNat_of {z : Int} {n : Nat} (h0 : 0 ≤ z) (h1 : z < n) : ∃ r : Nat, r < n ∧ z = (r : Int) := ⟨z.toNat, by omega, by omega⟩
theorem sc_law_next : FnScope ["source", "many", "found"] ["source", "many"] (defScope s_law_next) := ⟨rfl, rfl, rfl, by decide +kernel, rfl, by decide +kernel, by decide +kernel⟩
theorem o_law_next (T : Txt K mg) : Def P w K mg base 2 "_law_next" ["source", "many"] spNext := by
  refine Def.of T.f_law_next T.at_law_next sc_law_next (fun _ _ _ _ _ _ us hl => match us, hl with | [_, _], _ => rfl) (fun vs H Q E h => ?_) (fun cdv A outer s H vs Q E hr h => ?_)
  · obtain ⟨a, k, rfl, _⟩ := h
    rfl
  · obtain ⟨p, n, rfl, ⟨a, b, c, hs⟩, h0, h1, q⟩ := h
    refine ⟨_, PSs.nox (pss_cons (ps_if (pt_cmpR op_ge (pe_ix ix_list (pv 0) pe_int (fun _ _ => rfl)) (pe_op op_pow pe_int pe_int) (nomark _)) (pss_cons (ps_set (i := 2) sc_law_next.nd rfl (Or.inl rfl) (pe_op op_mod (pe_ix ix_list (pv 0) pe_int (fun _ _ => rfl)) (pv 1)))
      (pss_cons (ps_asg (pe_op op_fdiv (pe_ix ix_list (pv 0) pe_int (fun _ _ => rfl)) (pv 1)) (pg_sub (pv 0) pe_int set_list))
      (pss_one (ps_ret (pv 2))))) pss_nil)
      (pss_cons (ps_asg (pe_op op_add (pe_ix ix_list (pv 0) pe_int (fun _ _ => rfl)) pe_int) (pg_sub (pv 0) pe_int set_list))
      (pss_one (ps_ret (pe_op op_mod (pe_callO (o_law_mixed T) (hr.mono (by decide)) rfl passL (pa_cons (pe_ix ix_list (pv 0) pe_int (fun _ _ => rfl)) (pa_cons (pe_ix ix_list (pv 0) pe_int (fun _ _ => rfl)) pa_nil))) (pv 1)))))), ?_⟩
    have e0 : atI ([V.int a, V.int b, V.int c] : List V) (0 : Int) = some (.int a) := rfl
    have hn : (0 : Int) < (n : Int) := by omega
    refine ⟨_, rfl, p, _, _, _, rfl, rfl, SqL.of hs, e0, _, _, rfl, rfl, ⟨by decide, by decide, by decide⟩, _, _, rfl, rfl, _, rfl, ?_⟩
    refine ite2 (fun _ => ?_) (fun _ => ?_)
    · refine ⟨_, rfl, p, _, _, _, rfl, rfl, SqL.of hs, e0, _, rfl, _, _, rfl, rfl, hn, ?_⟩
      refine ⟨_, rfl, p, _, _, _, rfl, rfl, SqL.of hs, e0, _, rfl, _, _, rfl, rfl, ⟨hn, by omega⟩, _, rfl, p, _, _, 0, rfl, rfl, hs, rfl, ?_⟩
      obtain ⟨r, hr1, er⟩ := toNat_of (Int.emod_nonneg a (by omega : (n : Int) ≠ 0)) (Int.emod_lt_of_pos a hn)
      have fin := q r (upd H p (.lst [.int (a / (n : Int)), .int b, .int c])) hr1 (SameX.upd (SameX.refl _ _)) ⟨_, _, _, upd_same⟩
      rw [← er] at fin
      exact ⟨_, rfl, fin⟩
    · have e1 : atI ([V.int a, V.int b, V.int (c + 1)] : List V) (1 : Int) = some (.int b) := rfl
      refine ⟨_, rfl, p, _, _, _, rfl, rfl, SqL.of hs, rfl, _, _, rfl, rfl, _, rfl, p, _, _, 2, rfl, rfl, hs, rfl, ?_⟩
      refine ⟨_, rfl, p, _, _, _, rfl, rfl, SqL.of upd_same, rfl, _, rfl, p, _, _, _, rfl, rfl, SqL.of upd_same, rfl, _, _, rfl, fun z hz => ?_⟩
      obtain ⟨r, hr1, er⟩ := toNat_of (Int.emod_nonneg z (by omega : (n : Int) ≠ 0)) (Int.emod_lt_of_pos z hn)
      have fin := q r (upd H p (.lst [.int a, .int b, .int (c + 1)])) hr1 (SameX.upd (SameX.refl _ _)) ⟨_, _, _, upd_same⟩
      rw [← er] at fin
      exact ⟨_, rfl, _, _, rfl, rfl, hn, fin⟩
end
end K01
namespace K01
open PySem PySem.Spec PyProof.Rows L2 SP

/-! ### names by numbers -/
def nmL : Nat → List Nat
  | 0 => []
  | n + 1 => nmL (n / 26) ++ [97 + n % 26]
decreasing_by omega
theorem nmL_zero : nmL 0 = [] := by unfold nmL; rfl
theorem nmL_succ (n : Nat) : nmL (n + 1) = nmL (n / 26) ++ [97 + n % 26] := by rw [nmL]
def decL (l : List Nat) : Nat := l.foldl (fun v c => v * 26 + (c - 97) + 1) 0
theorem decL_nmL : ∀ n : Nat, decL (nmL n) = n
  | 0 => by rw [nmL_zero]; rfl
  | n + 1 => by
    have ih := decL_nmL (n / 26)
    rw [nmL_succ]
    unfold decL at *
    rw [List.foldl_append, ih]
    show n / 26 * 26 + (97 + n % 26 - 97) + 1 = n + 1
    omega
decreasing_by omega
theorem nmL_inj {a b : Nat} (h : nmL a = nmL b) : a = b := by rw [← decL_nmL a, ← decL_nmL b, h]
theorem nmL_az : ∀ n : Nat, ∀ c ∈ nmL n, 97 ≤ c ∧ c < 123
  | 0 => by rw [nmL_zero]; intro c hc; cases hc
  | n + 1 => by
    have ih := nmL_az (n / 26)
    rw [nmL_succ]
    intro c hc
    rcases List.mem_append.mp hc with hc | hc
    · exact ih c hc
    · have e : c = 97 + n % 26 := by simpa using hc
      omega
decreasing_by omega
theorem nmL_len0 : (nmL 0).length = 0 := by rw [nmL_zero]; rfl
theorem nmL_len_succ (n : Nat) : (nmL (n + 1)).length = (nmL (n / 26)).length + 1 := by rw [nmL_succ, List.length_append]; rfl
theorem nmL_pos {n : Nat} (h : 0 < n) : 0 < (nmL n).length := by
  obtain ⟨m, rfl⟩ : ∃ m, n = m + 1 := ⟨n - 1, by omega⟩
  rw [nmL_len_succ]; omega
theorem nmL_le1 {n : Nat} (h : n ≤ 26) : (nmL n).length ≤ 1 := by
  cases n with
  | zero => rw [nmL_len0]; omega
  | succ m =>
    rw [nmL_len_succ, show m / 26 = 0 by omega, nmL_len0]; omega
theorem nmL_le2 {n : Nat} (h : n ≤ 702) : (nmL n).length ≤ 2 := by
  cases n with
  | zero => rw [nmL_len0]; omega
  | succ m =>
    rw [nmL_len_succ]
    have := nmL_le1 (n := m / 26) (by omega)
    omega
theorem nmL_le3 {n : Nat} (h : n ≤ 18278) : (nmL n).length ≤ 3 := by
  cases n with
  | zero => rw [nmL_len0]; omega
  | succ m =>
    rw [nmL_len_succ]
    have := nmL_le2 (n := m / 26) (by omega)
    omega
/-- a text of signs -/
abbrev sL (l : List Nat) : Str := ⟨l.toArray⟩
theorem sL_inj {a b : List Nat} (h : sL a = sL b) : a = b := by
  have e : a.toArray = b.toArray := congrArg Str.cps h
  exact congrArg Array.toList e
theorem sL_app (a b : List Nat) : sL a ++ sL b = sL (a ++ b) := by
  show (⟨a.toArray ++ b.toArray⟩ : Str) = ⟨(a ++ b).toArray⟩
  simp
theorem sL_len (a : List Nat) : (sL a).length = a.length := by
  show a.toArray.size = a.length
  simp
theorem az_at : ∀ j : Nat, j < 26 → atI (Str.ofString "abcdefghijklmnopqrstuvwxyz").cps.toList (j : Int) = some (97 + j) := by decide +kernel

section
variable {P : Program} {w : World} {K : PySem.W.Frag} {mg : Str → Option Value} {base : Heap}
def spName : Sp := fun vs H Q _ => ∃ n : Nat, vs = [.int (n : Int)] ∧ n < 18278 ∧ Q (.str (sL (nmL (n + 1)))) H
theorem sc_law_name : FnScope ["number", "found"] ["number"] (defScope s_law_name) := ⟨rfl, rfl, rfl, by decide +kernel, rfl, by decide +kernel, by decide +kernel⟩
def nameSt (N : Nat) (σ : L2.St) (m : Nat) (l : List Nat) : Prop := σ = [some (.int ((m : Int) - 1)), some (.str (sL l))] ∧ nmL m ++ l = nmL N
theorem o_law_name (T : Txt K mg) : Def P w K mg base 1 "_law_name" ["number"] spName := by
  refine Def.of T.f_law_name T.at_law_name sc_law_name (fun _ _ _ _ _ _ us hl => match us, hl with | [_], _ => rfl) (fun vs H Q E h => ?_) (fun cdv A outer s H vs Q E hr h => ?_)
  · obtain ⟨n, rfl, _⟩ := h
    rfl
  · obtain ⟨n, rfl, hn, q⟩ := h
    refine ⟨_, PSs.nox (pss_cons (ps_set (i := 1) sc_law_name.nd rfl (Or.inl rfl) pe_str)
      (pss_cons (ps_while PassesOwn.never (pt_cmpR op_ge (pv 0) pe_int (nomark _)) (pss_cons (ps_set (i := 1) sc_law_name.nd rfl (Or.inl rfl) (pe_op op_add_str (pe_ix ix_str pe_str (pe_op op_mod (pv 0) pe_int) (fun _ _ => rfl)) (pv 1)))
      (pss_one (ps_set (i := 0) sc_law_name.nd rfl (Or.inl rfl) (pe_op op_sub (pe_op op_fdiv (pv 0) pe_int) pe_int)))))
      (pss_one (ps_ret (pv 1))))), ?_⟩
    have hN : (nmL (n + 1)).length ≤ 3 := nmL_le3 (by omega)
    refine while_by (fun σ H' => H' = H ∧ ∃ m l, nameSt (n + 1) σ m l) (fun σ _ => match σ with | some (.int z) :: _ => (z + 1).toNat | _ => 0) ?_ ?_ ?_
    · refine ⟨rfl, n + 1, [], ?_, by simp⟩
      have e : (((n + 1 : Nat) : Int) - 1) = (n : Int) := by omega
      rw [e]
      rfl
    · rintro σ H' ⟨rfl, m, l, rfl, hl⟩
      refine ⟨_, rfl, _, _, rfl, rfl, _, rfl, ?_⟩
      have hll : l.length ≤ 3 := by
        have := congrArg List.length hl
        rw [List.length_append] at this
        omega
      refine ite2 (fun c => ?_) (fun c => ?_)
      · obtain ⟨j, rfl⟩ : ∃ j, m = j + 1 := by
          have c1 : (0 : Int) ≤ (m : Int) - 1 := of_decide_eq_true c
          exact ⟨m - 1, by omega⟩
        have ez : (((j + 1 : Nat) : Int) - 1) = (j : Int) := by omega
        rw [ez]
        have e1 : ((j : Int) % 26) = ((j % 26 : Nat) : Int) := by omega
        have at1 := az_at (j % 26) (by omega)
        rw [← e1] at at1
        refine ⟨_, rfl, _, _, rfl, rfl, (by show (0 : Int) < 26; decide), _, _, _, rfl, rfl, (by decide +kernel), at1, _, rfl, _, _, rfl, rfl, ?_, ?_⟩
        · show 1 + (sL l).length ≤ sizeLine
          rw [sL_len]
          exact Nat.le_trans (by omega : 1 + l.length ≤ 4) (by decide)
        · refine ⟨_, rfl, _, _, rfl, rfl, ⟨by decide, by decide⟩, _, _, rfl, rfl, ⟨rfl, j / 26, (97 + j % 26) :: l, ?_, ?_⟩, ?_⟩
          · have e2 : ((j : Int) / 26 - 1) = (((j / 26 : Nat) : Int) - 1) := by omega
            have e3 : ((⟨#[97 + j % 26]⟩ : Str) ++ sL l) = sL ((97 + j % 26) :: l) := sL_app [97 + j % 26] l
            show [some (V.int ((j : Int) / 26 - 1)), some (V.str ((⟨#[97 + j % 26]⟩ : Str) ++ sL l))] = _
            rw [e2, e3]
          · rw [nmL_succ, List.append_assoc] at hl
            exact hl
          · show ((j : Int) / 26 - 1 + 1).toNat < ((j : Int) + 1).toNat
            omega
      · have c1 : ¬ (0 : Int) ≤ (m : Int) - 1 := fun z => c (decide_eq_true z)
        have em : m = 0 := by omega
        subst em
        rw [nmL_zero, List.nil_append] at hl
        rw [hl]
        exact ⟨_, rfl, q⟩
    · rintro σ H' Q1 Q2 h ⟨v, hv, i, j, e1, e2, k, ek, q2⟩
      exact ⟨v, hv, i, j, e1, e2, k, ek, h _ _ q2⟩
end
end K01
namespace K01
open PySem PySem.Spec PyProof.Rows L2 SP

/-- a text that the law draws for a name: small letters, one to eight; of eight letters only such as begin with g -/
structure NmOk (x : Str) : Prop where
  ex : ∃ l : List Nat, x = sL l ∧ 1 ≤ l.length ∧ l.length ≤ 8 ∧ (∀ c ∈ l, 97 ≤ c ∧ c < 123) ∧ (l.length = 8 → l.head? = some 103)
  num : (∃ k, k ≤ 801 ∧ x = sL (nmL k)) ∨ ∃ l, x = sL l ∧ 5 < l.length
structure NamesOk (xs : List Str) (n : Nat) : Prop where
  len : xs.length = n
  nd : xs.Nodup
  ok : ∀ x ∈ xs, NmOk x
def nmAt (stem : List Nat) (first step n i : Nat) : Str := sL (stem ++ nmL (first + i * step % n + 1))
theorem mod_inj {step n i j : Nat} (hc : n.Coprime step) (hi : i < n) (hj : j < n) (h : i * step % n = j * step % n) : i = j := by
  rcases Nat.lt_or_ge i j with g | g
  · have e := Nat.sub_mod_eq_zero_of_mod_eq h.symm
    rw [← Nat.sub_mul] at e
    have d := hc.dvd_of_dvd_mul_right (Nat.dvd_of_mod_eq_zero e)
    have := Nat.le_of_dvd (by omega) d
    omega
  · rcases Nat.lt_or_ge j i with g2 | g2
    · have e := Nat.sub_mod_eq_zero_of_mod_eq h
      rw [← Nat.sub_mul] at e
      have d := hc.dvd_of_dvd_mul_right (Nat.dvd_of_mod_eq_zero e)
      have := Nat.le_of_dvd (by omega) d
      omega
    · omega
theorem names_ok {stem : List Nat} {first step n : Nat} (hs : stem = [] ∨ stem = [103, 114, 97, 110, 100]) (hw : (stem = [] ∧ first ≤ 700) ∨ stem = [103, 114, 97, 110, 100]) (hf : first ≤ 18000) (hn : n ≤ 100) (hc : n.Coprime step) : NamesOk ((List.range n).map (nmAt stem first step n)) n := by
  refine ⟨by simp, ?_, ?_⟩
  · refine List.nodup_iff_pairwise_ne.mpr (List.pairwise_map.mpr ?_)
    have nd : (List.range n).Pairwise (· ≠ ·) := List.nodup_iff_pairwise_ne.mp List.nodup_range
    refine List.Pairwise.imp_of_mem (fun {a b} ha hb hab => ?_) nd
    intro e
    have e2 := nmL_inj (List.append_cancel_left (sL_inj e))
    exact hab (mod_inj hc (List.mem_range.mp ha) (List.mem_range.mp hb) (by omega))
  · intro x hx
    obtain ⟨i, hi, rfl⟩ := List.mem_map.mp hx
    have hi' := List.mem_range.mp hi
    have hm : i * step % n < n := Nat.mod_lt _ (by omega)
    have l3 := nmL_le3 (n := first + i * step % n + 1) (by omega)
    have l1 := nmL_pos (n := first + i * step % n + 1) (by omega)
    refine ⟨⟨_, rfl, ?_, ?_, ?_, ?_⟩, ?_⟩
    rotate_right
    · rcases hw with ⟨rfl, h7⟩ | rfl
      · exact .inl ⟨first + i * step % n + 1, by omega, rfl⟩
      · exact .inr ⟨_, rfl, by rw [List.length_append]; simp; omega⟩
    · rw [List.length_append]; omega
    · rw [List.length_append]
      rcases hs with rfl | rfl <;> simp <;> omega
    · intro c hc
      rcases List.mem_append.mp hc with hc | hc
      · rcases hs with rfl | rfl
        · cases hc
        · simp only [List.mem_cons, List.not_mem_nil, or_false] at hc
          omega
      · exact nmL_az _ c hc
    · rw [List.length_append]
      rcases hs with rfl | rfl
      · intro z
        simp at z
        omega
      · intro _; rfl
theorem range_snoc {α : Type} (f : Nat → α) (i : Nat) : (List.range (i + 1)).map f = (List.range i).map f ++ [f i] := by rw [List.range_succ, List.map_append]; rfl
theorem four (r : Nat) (h : r < 4) : r = 0 ∨ r = 1 ∨ r = 2 ∨ r = 3 := by omega
theorem pick4 {a b c d : V} {r : Nat} (h : r < 4) (p : V → Prop) (ha : p a) (hb : p b) (hc : p c) (hd : p d) : ∃ v, atI ([a, b, c, d] : List V) (r : Int) = some v ∧ p v := by
  rcases four r h with rfl | rfl | rfl | rfl
  · exact ⟨a, rfl, ha⟩
  · exact ⟨b, rfl, hb⟩
  · exact ⟨c, rfl, hc⟩
  · exact ⟨d, rfl, hd⟩

section
variable {P : Program} {w : World} {K : PySem.W.Frag} {mg : Str → Option Value} {base : Heap}
def spNames : Sp := fun vs H Q _ => ∃ (s : Addr) (n : Nat), vs = [.ref s, .int (n : Int)] ∧ Src H s ∧ 0 < n ∧ n ≤ 100 ∧
  ∀ (xs : List Str) (p : Addr) (H' : Hp), NamesOk xs n → SameX s H H' → Src H' s → H p = none → p ≠ s → H' p = some (.lst (xs.map V.str)) → Q (.ref p) H'
theorem Src.free {H : Hp} {s p : Addr} (h : Src H s) (e : H p = none) : p ≠ s := by
  obtain ⟨a, b, c, h⟩ := h
  exact (ne_of_none h e).symm
theorem Src.upd {H : Hp} {s p : Addr} {o : HO} (h : Src H s) (e : p ≠ s) : Src (L2.upd H p o) s := by
  obtain ⟨a, b, c, h⟩ := h
  exact ⟨a, b, c, by rw [upd_ne (Ne.symm e)]; exact h⟩
theorem _root_.SP.SameX.updX {H H1 : Hp} {s p : Addr} {o : HO} (e : SameX s H H1) (h : H p = none) : SameX s H (L2.upd H1 p o) := fun b u n q => by
  rw [upd_ne (ne_of_none q h)]
  exact e b u n q
theorem _root_.SP.SameX.free {H H1 : Hp} {s p : Addr} (e : SameX s H H1) (n : p ≠ s) (h : H1 p = none) : H p = none := by
  cases q : H p with
  | none => rfl
  | some u => rw [e p u n q] at h; cases h
theorem sc_law_names : FnScope ["source", "many", "sort", "first", "stem", "step", "at"] ["source", "many"] (defScope s_law_names) := ⟨rfl, rfl, rfl, by decide +kernel, rfl, by decide +kernel, by decide +kernel⟩
theorem coprime_of {n step : Nat} (hs : step = 1 ∨ step = 3 ∨ step = 7 ∨ step = 11) (h : n % step ≠ 0) : n.Coprime step := by
  have key : ∀ p : Nat, (∀ d, d < p + 1 → p % d = 0 → d = 1 ∨ d = p) → 0 < p → n % p ≠ 0 → n.Coprime p := by
    intro p pr hp hn
    have g1 : Nat.gcd n p ∣ p := Nat.gcd_dvd_right n p
    have g2 : Nat.gcd n p ∣ n := Nat.gcd_dvd_left n p
    rcases pr (Nat.gcd n p) (Nat.lt_succ_of_le (Nat.le_of_dvd hp g1)) (Nat.mod_eq_zero_of_dvd g1) with e | e
    · exact e
    · rw [e] at g2
      exact absurd (Nat.mod_eq_zero_of_dvd g2) hn
  rcases hs with rfl | rfl | rfl | rfl
  · exact Nat.gcd_one_right n
  · exact key 3 (by decide) (by decide) h
  · exact key 7 (by decide) (by decide) h
  · exact key 11 (by decide) (by decide) h
theorem o_law_names (T : Txt K mg) : Def P w K mg base 3 "_law_names" ["source", "many"] spNames := by
  refine Def.of T.f_law_names T.at_law_names sc_law_names (fun _ _ _ _ _ _ us hl => match us, hl with | [_, _], _ => rfl) (fun vs H Q E h => ?_) (fun cdv A outer s H vs Q E hr h => ?_)
  · obtain ⟨_, n, rfl, _⟩ := h
    rfl
  · obtain ⟨src, n, rfl, hs, h0, h1, q⟩ := h
    refine ⟨_, PSs.nox (pss_cons (ps_set (i := 2) sc_law_names.nd rfl (Or.inl rfl) (pe_callO (o_law_next T) (hr.mono (by decide)) rfl passL (pa_cons (pv 0) (pa_cons pe_int pa_nil))))
      (pss_cons (ps_set (i := 3) sc_law_names.nd rfl (Or.inr rfl) (pe_ix ix_list (pe_lst (pa_cons pe_int (pa_cons pe_int (pa_cons pe_int (pa_cons pe_int pa_nil))))) (pv 2) (fun _ _ => rfl)))
      (pss_cons (ps_set (i := 4) sc_law_names.nd rfl (Or.inr rfl) (pe_ix ix_list (pe_lst (pa_cons pe_str (pa_cons pe_str (pa_cons pe_str (pa_cons pe_str pa_nil))))) (pv 2) (fun _ _ => rfl)))
      (pss_cons (ps_set (i := 5) sc_law_names.nd rfl (Or.inr rfl) (pe_ix ix_list (pe_lst (pa_cons pe_int (pa_cons pe_int (pa_cons pe_int (pa_cons pe_int pa_nil))))) (pe_callO (o_law_next T) (hr.mono (by decide)) rfl passL (pa_cons (pv 0) (pa_cons pe_int pa_nil))) (fun _ _ => rfl)))
      (pss_cons (ps_if (pt_cmpR op_eq (pe_op op_mod (pv 1) (pv 5)) pe_int (nomark _)) (pss_one (ps_set (i := 5) sc_law_names.nd rfl (Or.inr rfl) pe_int)) pss_nil)
      (pss_one (ps_ret (pe_lc (own := [("at", 6)]) (g := gName 6) (tt := tYes)  rfl sc_law_names.nd (pi_range1 (by rfl) T.n_range (pa_cons (pv 1) pa_nil)) (blkOk_by (N := ["source", "many", "sort", "first", "stem", "step", "at"]) (sc := defScope s_law_names) (by decide +kernel)) (fun _ _ _ _ _ => (pg_name (i := 6) sc_law_names.nd rfl (Or.inl rfl))) (fun _ _ _ _ _ => pts_nil) (fun _ _ _ _ _ => (pe_op op_add_str (pv 4) (pe_callO (o_law_name T) (hr.mono (by decide)) rfl passL (pa_cons (pe_op op_add (pv 3) (pe_op op_mod (pe_op op_mul (pv 6) (pv 5)) (pv 1))) pa_nil)))))))))))), ?_⟩
    refine ⟨_, rfl, src, 4, rfl, hs, by decide, by decide, fun r H1 hr1 x1 s1 => ?_⟩
    have line4 : 4 ≤ sizeLine := by decide
    refine ⟨line4, fun p1 np1 => ?_⟩
    obtain ⟨first, stem, a1, a2, f1, f2, fw⟩ : ∃ (first : Nat) (stem : List Nat), atI ([.int 0, .int 20, .int 700, .int 18000] : List V) (r : Int) = some (.int (first : Int)) ∧ atI ([.str (Str.ofString ""), .str (Str.ofString ""), .str (Str.ofString ""), .str (Str.ofString "grand")] : List V) (r : Int) = some (.str (sL stem)) ∧
        first ≤ 18000 ∧ (stem = [] ∨ stem = [103, 114, 97, 110, 100]) ∧ ((stem = [] ∧ first ≤ 700) ∨ stem = [103, 114, 97, 110, 100]) := by
      rcases four r hr1 with rfl | rfl | rfl | rfl
      · exact ⟨0, [], rfl, rfl, by omega, .inl rfl, .inl ⟨rfl, by omega⟩⟩
      · exact ⟨20, [], rfl, rfl, by omega, .inl rfl, .inl ⟨rfl, by omega⟩⟩
      · exact ⟨700, [], rfl, rfl, by omega, .inl rfl, .inl ⟨rfl, by omega⟩⟩
      · exact ⟨18000, [103, 114, 97, 110, 100], rfl, rfl, by omega, .inr rfl, .inr rfl⟩
    refine ⟨_, rfl, p1, _, _, _, rfl, rfl, SqL.of upd_same, a1, ?_⟩
    refine ⟨line4, fun p2 np2 => ?_⟩
    refine ⟨_, rfl, p2, _, _, _, rfl, rfl, SqL.of upd_same, a2, ?_⟩
    refine ⟨line4, fun p3 np3 => ?_⟩
    have np1' : p1 ≠ src := s1.free np1
    have s2 : Src (upd H1 p1 (.lst [.int 0, .int 20, .int 700, .int 18000])) src := s1.upd np1'
    have np2' : p2 ≠ src := s2.free np2
    have s3 := Src.upd (o := .lst [.str (Str.ofString ""), .str (Str.ofString ""), .str (Str.ofString ""), .str (Str.ofString "grand")]) s2 np2'
    have np3' : p3 ≠ src := s3.free np3
    have s4 := Src.upd (o := .lst [.int 1, .int 3, .int 7, .int 11]) s3 np3'
    have f1' : H p1 = none := x1.free np1' np1
    have x2 := SameX.updX (o := .lst [.int 0, .int 20, .int 700, .int 18000]) x1 f1'
    have f2' : H p2 = none := x2.free np2' np2
    have x3 := SameX.updX (o := .lst [.str (Str.ofString ""), .str (Str.ofString ""), .str (Str.ofString ""), .str (Str.ofString "grand")]) x2 f2'
    have f3' : H p3 = none := x3.free np3' np3
    have x4 := SameX.updX (o := .lst [.int 1, .int 3, .int 7, .int 11]) x3 f3'
    refine ⟨_, rfl, src, 4, rfl, s4, by decide, by decide, fun r2 H2 hr2 y2 z2 => ?_⟩
    obtain ⟨v3, a3, step, rfl, f3⟩ := pick4 (a := .int 1) (b := .int 3) (c := .int 7) (d := .int 11) hr2 (fun v => ∃ step : Nat, v = .int (step : Int) ∧ (step = 1 ∨ step = 3 ∨ step = 7 ∨ step = 11)) ⟨1, rfl, by omega⟩ ⟨3, rfl, by omega⟩ ⟨7, rfl, by omega⟩ ⟨11, rfl, by omega⟩
    refine ⟨p3, _, _, _, rfl, rfl, SqL.of (y2 _ _ np3' upd_same), a3, ?_⟩
    have x5 : SameX src H H2 := x4.trans y2
    -- the loop, whatever the step
    have rest : ∀ step : Nat, step ≤ 11 → n.Coprime step → ∀ v5, (tRet (tLc (iRng1 (tCons (tVar 1) tNil)) (gName 6) tYes (tOp (fun x y H Q => ∃ i j, x = .str i ∧ y = .str j ∧ i.length + j.length ≤ sizeLine ∧ Q (.str (i ++ j)) H) (tVar 4) (tCall spName [] E0 (tCons (tOp (rI0 fun i j => .int (i + j)) (tVar 3) (tOp (rI (fun _ j => 0 < j) fun i j => .int (i % j)) (tOp (rI CMul fun i j => .int (i * j)) (tVar 6) (tVar 5)) (tVar 1))) tNil))) [6]) { nx := fun _ H' => Q .non H', rt := Q } [some (.ref src), some (.int (n : Int)), v5, some (.int (first : Int)), some (.str (sL stem)), some (.int (step : Int)), none] H2) := by
      intro step hst hc v5
      refine ⟨_, rfl, (n : Int), rfl, by omega, by omega, fun D hD => ?_⟩
      have nD : D ≠ src := z2.free hD
      have fD : H D = none := x5.free nD hD
      have en : ((n : Int)).toNat = n := by omega
      rw [en]
      refine lc_range (lo := 0) (n := n) (fun i H' => SameX src H H' ∧ Src H' src ∧ H' D = some (.lst (((List.range i).map (nmAt stem first step n)).map V.str))) ⟨x5.updX fD, z2.upd nD, upd_same⟩ ?_ ?_
      · rintro i H' hi ⟨xa, sa, da⟩
        refine ⟨rfl, ?_⟩
        have e1 : (((0 : Int) + (i : Int)) * (step : Int) % (n : Int)) = ((i * step % n : Nat) : Int) := by
          rw [Int.zero_add]; simp
        have hm : i * step % n < n := Nat.mod_lt _ (by omega)
        refine ⟨_, rfl, _, rfl, _, rfl, _, rfl, _, _, rfl, rfl, .inl ⟨by omega, by omega⟩, _, rfl, _, _, rfl, rfl, (by show (0 : Int) < (n : Int); omega), _, _, rfl, rfl, first + i * step % n, ?_, by omega, ?_⟩
        · show ([V.int ((first : Int) + ((0 : Int) + (i : Int)) * (step : Int) % (n : Int))] : List V) = _
          rw [e1]
          simp
        · have l3 := nmL_le3 (n := first + i * step % n + 1) (by omega)
          refine ⟨_, _, rfl, rfl, ?_, _, da, ?_, ?_⟩
          · rw [sL_len, sL_len]
            have : stem.length ≤ 5 := by rcases f2 with rfl | rfl <;> simp
            exact Nat.le_trans (by omega : stem.length + _ ≤ 8) (by decide)
          · simp only [List.length_map, List.length_range]
            exact small1000 (by omega)
          · refine ⟨xa.updX fD, sa.upd nD, ?_⟩
            rw [range_snoc, List.map_append, sL_app]
            exact upd_same
      · rintro H' ⟨xa, sa, da⟩
        exact q _ D H' (names_ok f2 fw f1 h1 hc) xa sa fD nD da
    -- if many % step == 0: step = 1
    have hst : 0 < step ∧ step ≤ 11 := by omega
    refine ⟨_, rfl, _, rfl, _, _, rfl, rfl, (by show (0 : Int) < (step : Int); omega), rfl, _, rfl, ?_⟩
    refine ite2 (fun c => ?_) (fun c => ?_)
    · exact rest 1 (by omega) (Nat.gcd_one_right n) _
    · refine rest step hst.2 (coprime_of f3 ?_) _
      intro e
      refine c (decide_eq_true ?_)
      show V.int ((n : Int) % (step : Int)) = V.int 0
      have e2 : ((n : Int) % (step : Int)) = ((n % step : Nat) : Int) := by simp
      rw [e2, e]
      rfl
end
end K01
namespace K01
open PySem PySem.Spec PyProof.Rows L2 SP
section
variable {P : Program} {w : World} {K : PySem.W.Frag} {mg : Str → Option Value} {base : Heap}

/-! ### kinds.is_name -/
def azS : Str := Str.ofString "abcdefghijklmnopqrstuvwxyz"
def isNm (s : Str) : Bool := decide (1 ≤ s.length ∧ s.length ≤ 8) && s.cps.toList.all fun c => decide (c ∈ azS.cps.toList)
theorem az_iff : ∀ c : Nat, c ∈ azS.cps.toList ↔ 97 ≤ c ∧ c < 123 := by
  intro c
  have e : azS.cps.toList = (List.range 26).map (97 + ·) := by decide +kernel
  rw [e, List.mem_map]
  constructor
  · rintro ⟨i, hi, rfl⟩
    have := List.mem_range.mp hi
    omega
  · intro h
    exact ⟨c - 97, List.mem_range.mpr (by omega), by omega⟩
theorem NmOk.isNm {s : Str} (h : NmOk s) : isNm s = true := by
  obtain ⟨l, rfl, h1, h2, h3, _⟩ := h.ex
  unfold K01.isNm
  rw [sL_len, Bool.and_eq_true]
  refine ⟨by simp [h1, h2], List.all_eq_true.mpr fun c hc => ?_⟩
  have hc' : c ∈ l := by simpa using hc
  exact decide_eq_true ((az_iff c).mpr (h3 c hc'))
/-- a text of at most sizeLine signs -/
def spIsName : Sp := fun vs H Q _ => ∃ s : Str, vs = [.str s] ∧ s.length ≤ sizeLine ∧ ∀ H', Same H H' → Q (.bl (isNm s)) H'
theorem sc_is_name : FnScope ["thing", "letter"] ["thing"] (defScope s_is_name) := ⟨rfl, rfl, rfl, by decide +kernel, rfl, by decide +kernel, by decide +kernel⟩
theorem take_snoc {α : Type} {l : List α} {i : Nat} {x : α} (h : l[i]? = some x) : l.take (i + 1) = l.take i ++ [x] := by
  obtain ⟨h1, h2⟩ := List.getElem?_eq_some_iff.mp h
  rw [List.take_succ_eq_append_getElem h1, h2]
theorem o_is_name (T : Txt K mg) : Def P w K mg base 1 "is_name" ["thing"] spIsName := by
  refine Def.of T.f_is_name T.at_is_name sc_is_name (fun _ _ _ _ _ _ us hl => match us, hl with | [_], _ => rfl) (fun vs H Q E h => ?_) (fun cdv A outer s H vs Q E hr h => ?_)
  · obtain ⟨s, rfl, _⟩ := h
    rfl
  · obtain ⟨z, rfl, hz, q⟩ := h
    refine ⟨_, PSs.nox (pss_cons (ps_if (PW.pt (pw_or (pt_not (pt_val (pe_callB (call_isi) (by rfl) T.n_isinstance (by decide +kernel) (pa_cons (pv 0) (pa_cons (pe_bty (n := "str") T.n_str (by decide +kernel)) pa_nil))))) (pw_or1 (pt_not (pt_chain op_le op_le pe_int (pe_callB (call_len_str) (by rfl) T.n_len (by decide +kernel) (pa_cons (pv 0) pa_nil)) (pe_globI T.g_LONGEST_NAME)))))) (pss_one (ps_ret pe_bl)) pss_nil)
      (pss_one (ps_ret (pe_callB (cr_all rfl) (by rfl) T.n_all (by decide +kernel) (pa_cons (pe_lc (own := [("letter", 1)]) (g := gName 1) (tt := tYes)  rfl sc_is_name.nd (pi_str (pv 0)) (blkOk_by (N := ["thing", "letter"]) (sc := defScope s_is_name) (by decide +kernel)) (fun _ _ _ _ _ => (pg_name (i := 1) sc_is_name.nd rfl (Or.inl rfl))) (fun _ _ _ _ _ => pts_nil) (fun _ _ _ _ _ => (pe_cmpR op_in_sign (pv 1) (pe_globS T.g_LETTERS) (by rfl)))) pa_nil))))), ?_⟩
    refine ⟨_, rfl, _, _, _, _, true, rfl, .ty "str", .base (.str z), kit_ty (by decide +kernel), _, rfl, ?_⟩
    -- 1 <= len(thing) <= 8
    refine ⟨_, rfl, z, rfl, hz, 1, (z.length : Int), rfl, rfl, _, rfl, ?_⟩
    have fin0 : ∀ (h : ¬ (1 ≤ z.length ∧ z.length ≤ 8)), Q (.bl false) H := fun h => by
      have := q H (Same.refl H)
      have e : isNm z = false := by unfold isNm; simp [h]
      rw [e] at this
      exact this
    refine ite2 (fun c => ?_) (fun c => ?_)
    · have c1 : (1 : Int) ≤ (z.length : Int) := of_decide_eq_true c
      refine ⟨(z.length : Int), 8, rfl, rfl, _, rfl, ?_⟩
      by_cases c2 : (z.length : Int) ≤ 8
      · have e8 : decide ((z.length : Int) ≤ 8) = true := decide_eq_true c2
        show (if (!decide ((z.length : Int) ≤ 8)) = true then _ else _)
        rw [e8]
        refine iteF ?_
        -- all([letter in LETTERS for letter in thing])
        refine ⟨_, rfl, z, rfl, fun D hD => ?_⟩
        have hsz : z.cps.size = z.cps.toList.length := by simp
        refine lc_it walk_str (fun i H' => Same H H' ∧ H' D = some (.lst (((z.cps.toList.take i).map fun c => decide (c ∈ azS.cps.toList)).map V.bl))) ⟨Same.upd' hD, upd_same⟩ (fun _ _ _ _ => trivial) ?_ ?_
        · rintro i x H' _ hi ⟨s1, d1⟩ ⟨rfl, c, hc, rfl⟩
          have hc2 : z.cps.toList[i]? = some c := by rw [Array.getElem?_toList]; exact hc
          refine ⟨rfl, ?_⟩
          refine ⟨_, rfl, c, azS, rfl, rfl, _, d1, ?_, Same.upd s1 hD, ?_⟩
          · simp only [List.length_map, List.length_take]
            exact small1000 (by have h9 : z.length = z.cps.toList.length := hsz; omega)
          · rw [upd_same, take_snoc hc2, List.map_append, List.map_append]
            rfl
        · rintro H' ⟨s1, d1⟩
          rw [hsz, List.take_length] at d1
          refine ⟨D, _, rfl, SqL.of d1, ?_⟩
          have fin := q H' s1
          have e : isNm z = (z.cps.toList.map fun c => decide (c ∈ azS.cps.toList)).all id := by
            unfold isNm
            have e1 : decide (1 ≤ z.length ∧ z.length ≤ 8) = true := decide_eq_true ⟨by omega, by omega⟩
            rw [e1, Bool.true_and, List.all_map]
            rfl
          rw [e] at fin
          exact fin
      · have e8 : decide ((z.length : Int) ≤ 8) = false := decide_eq_false c2
        show (if (!decide ((z.length : Int) ≤ 8)) = true then _ else _)
        rw [e8]
        exact iteT (fin0 (by omega))
    · have c1 : ¬ (1 : Int) ≤ (z.length : Int) := fun h => c (decide_eq_true h)
      exact ⟨_, rfl, iteT (fin0 (by omega))⟩

/-! ### tree._named -/
/-- a tree's dict as the law makes it: names alone -/
structure NmTD (t : TD) : Prop where
  nd : (keys t).Nodup
  nm : ∀ p a, (p, a) ∈ t → isNm p = true ∧ p.length ≤ sizeLine ∧ ∀ q, a = some q → isNm q = true ∧ q.length ≤ sizeLine
  len : t.length ≤ 200
def spNamed : Sp := fun vs H Q _ => ∃ (d : Addr) (t : TD), vs = [.ref d] ∧ Rd H d (.dK (kvT t)) ∧ NmTD t ∧
  ∀ (p : Addr) (H' : Hp), Same H H' → H p = none → H' p = some (.dK (kvT t)) → Q (.ref p) H'
theorem tyd {H : Hp} {d : Addr} {kvs : List (Key × V)} (h : Rd H d (.dK kvs)) : TyX K H (.ref d) (.type "dict") := by
  rcases h with h | ⟨od, h⟩
  · exact .base (.dK h)
  · exact .fDict h
theorem putK_new' {t : TD} {i : Nat} {e : Str × Option Str} (nd : (keys t).Nodup) (h : t[i]? = some e) : putK (kvT (t.take i)) (Sum.inr e.1) (ov e.2) = kvT (t.take (i + 1)) := by
  have hn : valV (kvT (t.take i)) (Sum.inr e.1 : Key) = none := by
    rw [val_kvT]
    have : up (t.take i) e.1 = none := by
      refine up_none.mpr fun hm => ?_
      have e1 : keys t = keys (t.take i) ++ keys (t.drop i) := by
        unfold keys
        rw [← List.map_append, List.take_append_drop]
      rw [e1] at nd
      have e2 : e.1 ∈ keys (t.drop i) := by
        obtain ⟨h1, h2⟩ := List.getElem?_eq_some_iff.mp h
        have : t.drop i = t[i] :: t.drop (i + 1) := List.drop_eq_getElem_cons h1
        rw [this]
        exact List.mem_map.mpr ⟨t[i], List.mem_cons_self, by rw [h2]⟩
      exact (List.nodup_append.mp nd).2.2 _ hm _ e2 rfl
    rw [this]
    rfl
  rw [putK_new _ hn, take_snoc h]
  unfold kvT
  rw [List.map_append]
  rfl
theorem kvT_get {t : TD} {i : Nat} {k : Key} {v : V} (h : (kvT t)[i]? = some (k, v)) : ∃ e, t[i]? = some e ∧ k = Sum.inr e.1 ∧ v = ov e.2 := by
  unfold kvT at h
  rw [List.getElem?_map] at h
  cases e : t[i]? with
  | none => rw [e] at h; cases h
  | some x =>
    rw [e] at h
    have h2 : (Sum.inr x.1, ov x.2) = (k, v) := Option.some.inj h
    cases h2
    exact ⟨x, rfl, rfl, rfl⟩
theorem sc_named : FnScope ["above_by", "kept", "post", "above"] ["above_by"] (defScope s_named) := ⟨rfl, rfl, rfl, by decide +kernel, rfl, by decide +kernel, by decide +kernel⟩
theorem o_named (T : Txt K mg) : Def P w K mg base 2 "_named" ["above_by"] spNamed := by
  refine Def.of T.f_named T.at_named sc_named (fun _ _ _ _ _ _ us hl => match us, hl with | [_], _ => rfl) (fun vs H Q E h => ?_) (fun cdv A outer s H vs Q E hr h => ?_)
  · obtain ⟨s, t, rfl, _⟩ := h
    rfl
  · obtain ⟨d, t, rfl, hd, ok, q⟩ := h
    have hu := hu_of hr
    refine ⟨_, PSs.nox (pss_cons (ps_if (pt_not (pt_val (pe_callB (call_isi) (by rfl) T.n_isinstance (by decide +kernel) (pa_cons (pv 0) (pa_cons (pe_bty (n := "dict") T.n_dict (by decide +kernel)) pa_nil))))) (pss_one ps_never) pss_nil)
      (pss_cons (ps_set (i := 1) sc_named.nd rfl (Or.inl rfl) pe_dnewK)
      (pss_cons (ps_lockR (ps_for PassesOwn.never rfl (pi_items (pv 0)) (pg_tup rfl (pgs_cons (pg_name (i := 2) sc_named.nd rfl (Or.inl rfl)) (pgs_cons (pg_name (i := 3) sc_named.nd rfl (Or.inl rfl)) pgs_nil))) (pss_cons (ps_if (pt_not (pt_val (pe_callO (o_is_name T) (hr.mono (by decide)) rfl passL (pa_cons (pv 2) pa_nil)))) (pss_one ps_never) pss_nil)
      (pss_cons (ps_if (PW.pt (pw_and (pt_cmpR op_notN (pv 3) pe_non (nomark _)) (pw_and1 (pt_not (pt_val (pe_callO (o_is_name T) (hr.mono (by decide)) rfl passL (pa_cons (pv 3) pa_nil))))))) (pss_one ps_never) pss_nil)
      (pss_one (ps_dput hu (pv 1) (pv 2) (pv 3) rfl))))))
      (pss_one (ps_ret (pv 1)))))), ?_⟩
    refine ⟨_, rfl, _, _, _, _, true, rfl, .ty "dict", tyd hd, kit_ty (by decide +kernel), _, rfl, ?_⟩
    intro k nk
    have hdk : d ≠ k := by
      rcases hd with h | ⟨_, h⟩ <;> exact ne_of_none h nk
    have hd1 : Rd (upd H k (.dK [])) d (.dK (kvT t)) := Same.rd (Same.upd' nk) hd
    refine rd_lockS hd1 trivial fun H0 od D' h0 hb nx rt => ?_
    have k0 : H0 k = some (.dK []) := by rw [hb k hdk.symm, upd_same]
    refine ⟨_, rfl, d, od, kvT t, rfl, h0, ?_⟩
    refine for_it walk_items (fun i σ H1 => ∃ a b, σ = [some (.ref d), some (.ref k), a, b] ∧ SameX k H0 H1 ∧ H1 k = some (.dK (kvT (t.take i)))) ⟨none, none, rfl, SameX.refl _ _, by rw [k0]; rfl⟩ (fun i σ H1 _ ⟨_, _, _, s1, _⟩ => s1 _ _ hdk h0) ?_ ?_
    · rintro i x σ H1 H2 hi ⟨a0, b0, rfl, s1, k1⟩ ⟨Tp, xk, xv, rfl, nT, rfl, ek, ev⟩
      obtain ⟨e, he, rfl, rfl⟩ : ∃ e, t[i]? = some e ∧ xk = kV (Sum.inr e.1) ∧ xv = ov e.2 := by
        replace ek : (kvT t)[i]?.map (fun kv => kV kv.1) = some xk := ek
        replace ev : (kvT t)[i]?.map Prod.snd = some xv := ev
        cases q2 : (kvT t)[i]? with
        | none => rw [q2] at ek; cases ek
        | some kv =>
          obtain ⟨kk, vv⟩ := kv
          rw [q2] at ek ev
          obtain ⟨e, he, e1, e2⟩ := kvT_get q2
          exact ⟨e, he, by rw [← e1]; exact (Option.some.inj ek).symm, by rw [← e2]; exact (Option.some.inj ev).symm⟩
      have hmem : (e.1, e.2) ∈ t := List.mem_of_getElem? he
      obtain ⟨n1, l1, n2⟩ := ok.nm e.1 e.2 hmem
      have hkT : k ≠ Tp := ne_of_none k1 nT
      refine ⟨Tp, _, rfl, SqT.of upd_same, rfl, _, _, rfl, _, _, rfl, rfl, ?_⟩
      refine ⟨_, rfl, e.1, rfl, l1, fun H3 s3 => ⟨_, rfl, ?_⟩⟩
      rw [n1]
      refine iteF ?_
      -- the rest of the turn, whatever the heap
      have rest : ∀ H4 : Hp, Same (upd H1 Tp (.tup [kV (Sum.inr e.1), ov e.2])) H4 → sDPut (tVar 1) (tVar 2) (tVar 3) { nx := fun σ H1 => ∃ a b, σ = [some (.ref d), some (.ref k), a, b] ∧ SameX k H0 H1 ∧ H1 k = some (.dK (kvT (t.take (i + 1)))), rt := D'.rt, bk := D'.nx, ct := fun σ H1 => ∃ a b, σ = [some (.ref d), some (.ref k), a, b] ∧ SameX k H0 H1 ∧ H1 k = some (.dK (kvT (t.take (i + 1)))) } [some (.ref d), some (.ref k), some (kV (Sum.inr e.1)), some (ov e.2)] H4 := by
        intro H4 s4
        have k4 : H4 k = some (.dK (kvT (t.take i))) := s4 _ _ (by rw [upd_ne hkT]; exact k1)
        refine ⟨_, rfl, _, rfl, _, rfl, k, _, rfl, DPut.k (k := Sum.inr e.1) k4 ?_, _, _, rfl, ?_, ?_⟩
        · rw [kvT_len]
          exact small1000 (by have := ok.len; simp; omega)
        · refine SameX.upd (s1.trans ?_)
          intro b u hbk hbu
          exact s4 b u (by rw [upd_ne (ne_of_none hbu nT)]; exact hbu)
        · rw [upd_same, putK_new' ok.nd he]
      cases ea : e.2 with
      | none =>
        refine ⟨_, rfl, rfl, _, rfl, ?_⟩
        refine iteF ?_
        have := rest H3 s3
        rw [ea] at this
        exact iteF this
      | some z =>
        rw [ea] at n2
        obtain ⟨m1, m2⟩ := n2 z rfl
        refine ⟨_, rfl, rfl, _, rfl, iteT ?_⟩
        refine ⟨_, rfl, z, rfl, m2, fun H4 s4 => ⟨_, rfl, ?_⟩⟩
        rw [m1]
        have := rest H4 (Same.trans s3 s4)
        rw [ea] at this
        exact iteF this
    · rintro σ H1 ⟨a0, b0, rfl, s1, k1⟩
      refine nx _ H1 (s1 _ _ hdk h0) fun H2 e2 e3 => ?_
      have hlen : (kvT t).length = t.length := kvT_len t
      rw [hlen, List.take_length] at k1
      refine ⟨_, rfl, ?_⟩
      refine q k H2 ?_ nk (by rw [e3 k hdk.symm]; exact k1)
      intro b o hbo
      by_cases hbd : b = d
      · subst hbd
        rw [e2, upd_ne hdk]
        exact hbo
      · have hbk : b ≠ k := ne_of_none hbo nk
        rw [e3 b hbd]
        exact s1 b o hbk (by rw [hb b hbd, upd_ne hbk]; exact hbo)
end
end K01
namespace K01
open PySem PySem.Spec PyProof.Rows L2 SP
section
variable {P : Program} {w : World} {K : PySem.W.Frag} {mg : Str → Option Value} {base : Heap}

/-! ### tree._one_head -/
def hds (t : TD) : List Str := (t.filter fun e => decide (e.2 = none)).map (·.1)
theorem hds_one {t : TD} (T : IsTree t) : hds t = [headOf t] := by
  have hm : ∀ x, x ∈ hds t ↔ x = headOf t := by
    intro x
    unfold hds
    rw [List.mem_map]
    constructor
    · rintro ⟨e, he, rfl⟩
      have h2 := List.mem_filter.mp he
      have h3 : e.2 = none := of_decide_eq_true h2.2
      have h4 : (e.1, (none : Option Str)) ∈ t := by rw [← h3]; exact h2.1
      exact T.head_uni (up_of_mem T.nd h4)
    · rintro rfl
      exact ⟨(headOf t, none), List.mem_filter.mpr ⟨up_some_mem T.head_up, by simp⟩, rfl⟩
  have nd : (hds t).Nodup := by
    unfold hds
    exact (T.nd.sublist (List.filter_sublist.map _))
  have p : (hds t).Perm [headOf t] := (List.perm_ext_iff_of_nodup nd (by simp)).mpr fun x => by rw [hm]; simp
  exact List.perm_singleton.mp p
theorem hds_take {t : TD} {i : Nat} {e : Str × Option Str} (h : t[i]? = some e) : hds (t.take (i + 1)) = hds (t.take i) ++ (if e.2 = none then [e.1] else []) := by
  rw [take_snoc h]
  unfold hds
  rw [List.filter_append, List.map_append]
  congr 1
  by_cases z : e.2 = none
  · rw [if_pos z, List.filter_cons, if_pos (by simpa using z)]
    rfl
  · rw [if_neg z, List.filter_cons, if_neg (by simpa using z)]
    rfl
def spOneHead : Sp := fun vs H Q _ => ∃ (d : Addr) (t : TD), vs = [.ref d] ∧ Rd H d (.dK (kvT t)) ∧ NmTD t ∧ IsTree t ∧ ∀ H' : Hp, Same H H' → Q (.str (headOf t)) H'
theorem items_get {t : TD} {i : Nat} {xk xv : V} (ek : (kvT t)[i]?.map (fun kv => kV kv.1) = some xk) (ev : (kvT t)[i]?.map Prod.snd = some xv) : ∃ e, t[i]? = some e ∧ xk = .str e.1 ∧ xv = ov e.2 := by
  cases q2 : (kvT t)[i]? with
  | none => rw [q2] at ek; cases ek
  | some kv =>
    obtain ⟨kk, vv⟩ := kv
    rw [q2] at ek ev
    obtain ⟨e, he, e1, e2⟩ := kvT_get q2
    subst e1
    exact ⟨e, he, (Option.some.inj ek).symm, by rw [← e2]; exact (Option.some.inj ev).symm⟩
theorem sc_one_head : FnScope ["above_by", "heads", "post", "above"] ["above_by"] (defScope s_one_head) := ⟨rfl, rfl, rfl, by decide +kernel, rfl, by decide +kernel, by decide +kernel⟩
theorem o_one_head (T : Txt K mg) : Def P w K mg base 1 "_one_head" ["above_by"] spOneHead := by
  refine Def.of T.f_one_head T.at_one_head sc_one_head (fun _ _ _ _ _ _ us hl => match us, hl with | [_], _ => rfl) (fun vs H Q E h => ?_) (fun cdv A outer s H vs Q E hr h => ?_)
  · obtain ⟨s, t, rfl, _⟩ := h
    rfl
  · obtain ⟨d, t, rfl, hd, ok, tr, q⟩ := h
    have hu := hu_of hr
    refine ⟨_, PSs.nox (pss_cons (ps_set (i := 1) sc_one_head.nd rfl (Or.inl rfl) (pe_lst pa_nil))
      (pss_cons (ps_lockR (ps_for PassesOwn.never rfl (pi_items (pv 0)) (pg_tup rfl (pgs_cons (pg_name (i := 2) sc_one_head.nd rfl (Or.inl rfl)) (pgs_cons (pg_name (i := 3) sc_one_head.nd rfl (Or.inl rfl)) pgs_nil))) (pss_one (ps_if (pt_cmpR op_isN (pv 3) pe_non (nomark _)) (pss_one (ps_expr (pe_bm PySem.F.plainAttrs_list PySem.F.slot_list_append PySem.F.type_list_append mt_append (pv 1) (pa_cons (pv 2) pa_nil)))) (pss_one (ps_if (pt_cmp (pc_dnotin hu (pv 3) (pv 0))) (pss_one ps_never) pss_nil))))))
      (pss_cons (ps_if (pt_cmpR op_ne (pe_callB (call_len_seq) (by rfl) T.n_len (by decide +kernel) (pa_cons (pv 1) pa_nil)) pe_int (nomark _)) (pss_one ps_never) pss_nil)
      (pss_one (ps_ret (pe_ix ix_list (pv 1) pe_int (fun _ _ => rfl))))))), ?_⟩
    refine ⟨by show 0 ≤ sizeLine; decide, fun k nk => ?_⟩
    have hdk : d ≠ k := by
      rcases hd with h | ⟨_, h⟩ <;> exact ne_of_none h nk
    have hd1 : Rd (upd H k (.lst [])) d (.dK (kvT t)) := Same.rd (Same.upd' nk) hd
    refine rd_lockS hd1 trivial fun H0 od D' h0 hb nx rt => ?_
    have k0 : H0 k = some (.lst []) := by rw [hb k hdk.symm, upd_same]
    refine ⟨_, rfl, d, od, kvT t, rfl, h0, ?_⟩
    refine for_it walk_items (fun i σ H1 => ∃ a b, σ = [some (.ref d), some (.ref k), a, b] ∧ SameX k H0 H1 ∧ H1 k = some (.lst ((hds (t.take i)).map V.str))) ⟨none, none, rfl, SameX.refl _ _, by rw [k0]; rfl⟩ (fun i σ H1 _ ⟨_, _, _, s1, _⟩ => s1 _ _ hdk h0) ?_ ?_
    · rintro i x σ H1 H2 hi ⟨a0, b0, rfl, s1, k1⟩ ⟨Tp, xk, xv, rfl, nT, rfl, ek, ev⟩
      obtain ⟨e, he, rfl, rfl⟩ := items_get ek ev
      have hkT : k ≠ Tp := ne_of_none k1 nT
      have hdT : d ≠ Tp := ne_of_none (s1 _ _ hdk h0) nT
      refine ⟨Tp, _, rfl, SqT.of upd_same, rfl, _, _, rfl, _, _, rfl, rfl, ?_⟩
      have sX : SameX k H0 (upd H1 Tp (.tup [.str e.1, ov e.2])) := fun b u hbk hbu => by
        have := s1 b u hbk hbu
        rw [upd_ne (ne_of_none this nT)]
        exact this
      have snoc := hds_take he
      have k1' : (upd H1 Tp (.tup [V.str e.1, ov e.2])) k = some (.lst ((hds (t.take i)).map V.str)) := by rw [upd_ne hkT]; exact k1
      cases ea : e.2 with
      | none =>
        rw [ea] at k1' sX
        refine ⟨_, rfl, rfl, _, rfl, iteT ?_⟩
        refine ⟨_, rfl, Or.inl ⟨rfl, _, Or.inl (Or.inl k1')⟩, _, rfl, k, _, _, rfl, rfl, k1', ?_, ?_⟩
        · simp only [List.length_map]
          refine small1000 ?_
          have h1 : (hds (t.take i)).length ≤ (t.take i).length := by
            unfold hds
            rw [List.length_map]
            exact List.length_filter_le _ _
          have h2 := ok.len
          simp at h1
          omega
        · refine ⟨_, _, rfl, SameX.upd sX, ?_⟩
          rw [upd_same, snoc, if_pos ea, List.map_append]
          rfl
      | some z =>
        rw [ea] at k1' sX
        refine ⟨_, rfl, rfl, _, rfl, iteF ?_⟩
        have hz : z ∈ keys t := tr.cl e.1 z (up_of_mem tr.nd (by rw [← ea]; exact List.mem_of_getElem? he))
        obtain ⟨a, ha⟩ := up_ex hz
        have hd2 : Rd (upd H1 Tp (.tup [.str e.1, ov (some z)])) d (.dK (kvT t)) := .inr ⟨od, by rw [upd_ne hdT]; exact s1 _ _ hdk h0⟩
        have hv : valV (kvT t) (Sum.inr z) = some (ov a) := by rw [val_kvT, ha]; rfl
        refine ⟨_, rfl, _, rfl, d, _, rfl, dget_v hd2 hv, _, rfl, iteF ?_⟩
        refine ⟨_, _, rfl, sX, ?_⟩
        rw [snoc, if_neg (by rw [ea]; intro z; cases z), List.append_nil]
        exact k1'
    · rintro σ H1 ⟨a0, b0, rfl, s1, k1⟩
      refine nx _ H1 (s1 _ _ hdk h0) fun H2 e2 e3 => ?_
      have hlen : (kvT t).length = t.length := kvT_len t
      rw [hlen, List.take_length, hds_one tr] at k1
      have k2 : H2 k = some (.lst [.str (headOf t)]) := by rw [e3 k hdk.symm]; exact k1
      refine ⟨_, rfl, k, _, rfl, .inl (SqL.of k2), rfl, _, rfl, iteF ?_⟩
      refine ⟨_, rfl, k, _, _, _, rfl, rfl, SqL.of k2, rfl, ?_⟩
      refine q H2 fun b o hbo => ?_
      by_cases hbd : b = d
      · subst hbd
        rw [e2, upd_ne hdk]
        exact hbo
      · have hbk : b ≠ k := ne_of_none hbo nk
        rw [e3 b hbd]
        exact s1 b o hbk (by rw [hb b hbd, upd_ne hbk]; exact hbo)

/-! ### tree._below_by -/
def spBelowBy : Sp := fun vs H Q _ => ∃ (d : Addr) (t : TD), vs = [.ref d] ∧ Rd H d (.dK (kvT t)) ∧ NmTD t ∧ (∀ p q, up t p = some (some q) → q ∈ keys t) ∧
  ∀ (D : Addr) (f : Str → Addr) (H' : Hp), Same H H' → H D = none → (∀ k ∈ keys t, H (f k) = none) → DL H' D (keys t) f (undr t) → Q (.ref D) H'
theorem sc_below_by : FnScope ["above_by", "post", "below_by", "above"] ["above_by"] (defScope s_below_by) := ⟨rfl, rfl, rfl, by decide +kernel, rfl, by decide +kernel, by decide +kernel⟩
theorem keys_get {t : TD} {i : Nat} {k : Key} {v : V} (h : (kvT t)[i]? = some (k, v)) : ∃ p, (keys t)[i]? = some p ∧ k = Sum.inr p := by
  obtain ⟨e, he, e1, _⟩ := kvT_get h
  refine ⟨e.1, ?_, e1⟩
  unfold keys
  rw [List.getElem?_map, he]
  rfl
theorem nodup_take_not {l : List Str} (nd : l.Nodup) {i : Nat} {x : Str} (h : l[i]? = some x) : x ∉ l.take i := by
  intro hm
  obtain ⟨h1, h2⟩ := List.getElem?_eq_some_iff.mp h
  obtain ⟨j, hj⟩ := List.getElem?_of_mem hm
  have hj2 : j < i := by
    have := (List.getElem?_eq_some_iff.mp hj).1
    rw [List.length_take] at this
    omega
  rw [List.getElem?_take_of_lt hj2] at hj
  have := idx_eq nd hj h
  omega
/-- of the first i posts in order those right below k -/
def underI (t : TD) (i : Nat) (k : Str) : List Str := ((srt (keys t)).take i).filter fun q => decide (up t q = some (some k))
theorem underI_succ {t : TD} {i : Nat} {p k : Str} (h : (srt (keys t))[i]? = some p) : underI t (i + 1) k = underI t i k ++ (if up t p = some (some k) then [p] else []) := by
  unfold underI
  rw [take_snoc h, List.filter_append]
  congr 1
  by_cases z : up t p = some (some k)
  · rw [if_pos z, List.filter_cons, if_pos (by simpa using z)]
    rfl
  · rw [if_neg z, List.filter_cons, if_neg (by simpa using z)]
    rfl
theorem underI_all (t : TD) (k : Str) : underI t (srt (keys t)).length k = undr t k := by
  unfold underI undr
  rw [List.take_length]
theorem underI_len (t : TD) (i : Nat) (k : Str) : (underI t i k).length ≤ t.length := by
  unfold underI
  refine Nat.le_trans (List.length_filter_le _ _) ?_
  rw [List.length_take, srt_len, keys_len]
  omega
theorem o_below_by (T : Txt K mg) : Def P w K mg base 1 "_below_by" ["above_by"] spBelowBy := by
  refine Def.of T.f_below_by T.at_below_by sc_below_by (fun _ _ _ _ _ _ us hl => match us, hl with | [_], _ => rfl) (fun vs H Q E h => ?_) (fun cdv A outer s H vs Q E hr h => ?_)
  · obtain ⟨s, t, rfl, _⟩ := h
    rfl
  · obtain ⟨d, t, rfl, hd, ok, cl, q⟩ := h
    have hu := hu_of hr
    refine ⟨_, PSs.nox (pss_cons (ps_lockR (ps_setDc (i := 2) (own := [("post", 1)]) (g := gName 1) (tt := tYes)  rfl sc_below_by.nd rfl rfl (sw_trueD rfl rfl rfl (by decide +kernel)) (pi_keys (pv 0)) (blkOk_by (N := ["above_by", "post", "below_by", "above"]) (sc := defScope s_below_by) (by decide +kernel)) (fun _ _ _ _ _ => (pg_name (i := 1) sc_below_by.nd rfl (Or.inl rfl))) (fun _ _ _ _ _ => pts_nil) (fun _ _ _ _ _ => (pv 1)) (fun _ _ _ _ _ => (pe_lst pa_nil))))
      (pss_cons (ps_for PassesOwn.never rfl (pi_list (pe_callB (call_sortedDA rfl) (by rfl) T.n_sorted (by decide +kernel) (pa_cons (pv 0) pa_nil))) (pg_name (i := 1) sc_below_by.nd rfl (Or.inl rfl)) (pss_cons (ps_set (i := 3) sc_below_by.nd rfl (Or.inl rfl) (pe_dget hu (pv 0) (pv 1) (fun _ _ => rfl)))
      (pss_one (ps_if (pt_cmpR op_notN (pv 3) pe_non (nomark _)) (pss_one (ps_expr (pe_bm PySem.F.plainAttrs_list PySem.F.slot_list_append PySem.F.type_list_append mt_append (pe_dget hu (pv 2) (pv 3) (fun _ _ => rfl)) (pa_cons (pv 1) pa_nil)))) pss_nil))))
      (pss_one (ps_ret (pv 2))))), ?_⟩
    refine rd_lockS hd trivial fun H0 od D' h0 hb nx rt => ?_
    refine ⟨_, rfl, d, od, rfl, .inl ⟨kvT t, h0, fun D hD => ?_⟩⟩
    have nD : D ≠ d := (ne_of_none h0 hD).symm
    have hDH : H D = none := by rw [← hb D nD]; exact hD
    refine dc_it walk_keys (fun i H1 => Same H0 H1 ∧ ∃ f : Str → Addr, (∀ k ∈ (keys t).take i, H0 (f k) = none) ∧ DL H1 D ((keys t).take i) f (fun _ => [])) ⟨Same.upd' hD, fun _ => 0, by intro k hk; simp at hk, ⟨upd_same, by intro k hk; simp at hk, by intro k hk; simp at hk⟩⟩ (fun i H1 _ ⟨s1, _⟩ => s1 _ _ h0) ?_ ?_
    · rintro i x H1 H2 hi ⟨s1, f, hf, dl⟩ ⟨rfl, k, v, hk, rfl⟩
      obtain ⟨p, hp, rfl⟩ := keys_get hk
      refine ⟨rfl, ?_⟩
      have hlen : ((keys t).take i).length ≤ t.length := by rw [List.length_take, keys_len]; omega
      refine ⟨_, rfl, (by show 0 ≤ sizeLine; decide), fun a na => ?_⟩
      have hnot := nodup_take_not ok.nd hp
      have hDa : D ≠ a := ne_of_none dl.dk na
      refine ⟨_, Sum.inr p, rfl, by rw [upd_ne hDa]; exact dl.dk, ?_, ?_, ?_⟩
      · rw [gkv_len]
        exact small1000 (by have := ok.len; omega)
      · exact Same.upd (Same.upd s1 (s1.free na)) hD
      · have := dl.new hnot na []
        rw [take_snoc hp]
        refine ⟨_, fun k hk => ?_, this.congr fun k _ => ?_⟩
        · by_cases z : k = p
          · rw [if_pos z]
            exact s1.free na
          · rw [if_neg z]
            rcases List.mem_append.mp hk with w | w
            · exact hf k w
            · exact absurd (by simpa using w) z
        · by_cases z : k = p
          · rw [if_pos z]
          · rw [if_neg z]
    · rintro H1 ⟨s1, f, hf, dl⟩
      have hl : (kvT t).length = (keys t).length := by rw [kvT_len, keys_len]
      rw [hl, List.take_length] at dl hf
      refine nx _ H1 (s1 _ _ h0) fun H2 e2 e3 => ?_
      have s2 : Same H H2 := same_unlock hb s1 e2 e3
      have hfd : ∀ k ∈ keys t, f k ≠ d := fun k hk z => by
        have h1 := hf k hk
        rw [z, h0] at h1
        cases h1
      have hfH : ∀ k ∈ keys t, H (f k) = none := fun k hk => by rw [← hb _ (hfd k hk)]; exact hf k hk
      have dl2 : DL H2 D (keys t) f (fun _ => []) := ⟨by rw [e3 D nD]; exact dl.dk, fun k hk => by rw [e3 _ (hfd k hk)]; exact dl.at_ k hk, dl.inj⟩
      have hd2 : Rd H2 d (.dK (kvT t)) := Same.rd s2 hd
      -- for post in sorted(above_by)
      refine ⟨_, rfl, d, kvT t, keys t, rfl, hd2, kvT_keys t, fun sp nsp => ⟨sp, rfl, ⟨_, SqL.of upd_same⟩, ?_⟩⟩
      have s3 : Same H (upd H2 sp (.lst ((srt (keys t)).map V.str))) := Same.upd s2 (s2.free nsp)
      have dl3 : DL (upd H2 sp (.lst ((srt (keys t)).map V.str))) D (keys t) f (fun _ => []) := dl2.same (Same.upd' nsp)
      have hsf : ∀ k ∈ keys t, f k ≠ sp := fun k hk => ne_of_none (dl2.at_ k hk) nsp
      refine for_it walk_list (fun i σ H3 => ∃ a b, σ = [some (.ref d), a, some (.ref D), b] ∧ Same H H3 ∧ H3 sp = some (.lst ((srt (keys t)).map V.str)) ∧ DL H3 D (keys t) f (underI t i)) ⟨none, none, rfl, s3, upd_same, dl3.congr fun k _ => rfl⟩ (fun i σ H3 _ ⟨_, _, _, _, h4, _⟩ => SqL.of h4) ?_ ?_
      · rintro i x σ H3 H4 hi ⟨a0, b0, rfl, s4, h4, dl4⟩ ⟨rfl, hx⟩
        obtain ⟨p, hp, rfl⟩ : ∃ p, (srt (keys t))[i]? = some p ∧ x = .str p := by
          rw [List.getElem?_map] at hx
          cases z : (srt (keys t))[i]? with
          | none => rw [z] at hx; cases hx
          | some p => rw [z] at hx; exact ⟨p, rfl, (Option.some.inj hx).symm⟩
        have hpk : p ∈ keys t := mem_srt.mp (List.mem_of_getElem? hp)
        obtain ⟨a, ha⟩ := up_ex hpk
        have hv : valV (kvT t) (Sum.inr p) = some (ov a) := by rw [val_kvT, ha]; rfl
        refine ⟨_, rfl, _, rfl, d, _, rfl, dget_v (Same.rd s4 hd) hv, ?_⟩
        cases a with
        | none =>
          refine ⟨_, rfl, rfl, _, rfl, iteF ?_⟩
          refine ⟨_, _, rfl, s4, h4, dl4.congr fun k _ => ?_⟩
          rw [underI_succ hp, if_neg (by rw [ha]; intro z; cases z), List.append_nil]
        | some z =>
          have hz := cl p z ha
          have hvz := val_gkv_in (g := fun k => V.ref (f k)) hz
          refine ⟨_, rfl, rfl, _, rfl, iteT ?_⟩
          refine ⟨_, rfl, _, rfl, D, _, rfl, dget_v (.inl dl4.dk) hvz, Or.inl ⟨rfl, _, Or.inl (Or.inl (dl4.at_ z hz))⟩, _, rfl, f z, _, _, rfl, rfl, dl4.at_ z hz, ?_, ?_⟩
          · rw [List.length_map]
            exact small1000 (by have := underI_len t i z; have := ok.len; omega)
          · have g := dl4.grow hz (underI t i z ++ [p])
            rw [List.map_append] at g
            refine ⟨_, _, rfl, Same.upd s4 (hfH z hz), by rw [upd_ne (hsf z hz).symm]; exact h4, g.congr fun k _ => ?_⟩
            rw [underI_succ hp]
            by_cases w : k = z
            · subst w
              rw [if_pos rfl, if_pos ha]
            · rw [if_neg w, if_neg (by rw [ha]; intro y; exact w (Option.some.inj (Option.some.inj y)).symm), List.append_nil]
      · rintro σ H3 ⟨a0, b0, rfl, s4, h4, dl4⟩
        rw [List.length_map] at dl4
        refine ⟨_, rfl, ?_⟩
        exact q D f H3 s4 hDH hfH (dl4.congr fun k _ => underI_all t k)
end
end K01
namespace K01
open PySem PySem.Spec PyProof.Rows L2 SP
section
variable {P : Program} {w : World} {K : PySem.W.Frag} {mg : Str → Option Value} {base : Heap}

/-! ### tree._downward -/
def spDownward : Sp := fun vs H Q _ => ∃ (p : Str) (D : Addr) (f : Str → Addr) (t : TD) (l : List Str), vs = [.str p, .ref D] ∧ DL H D (keys t) f (undr t) ∧ NmTD t ∧ Line t p l ∧
  ∀ (L : List Str) (a : Addr) (H' : Hp), Same H H' → H a = none → Down t p L → H' a = some (.lst (L.map V.str)) → Q (.ref a) H'
theorem sc_downward : FnScope ["post", "below_by", "found", "at"] ["post", "below_by"] (defScope s_downward) := ⟨rfl, rfl, rfl, by decide +kernel, rfl, by decide +kernel, by decide +kernel⟩
theorem undr_len (t : TD) (k : Str) : (undr t k).length ≤ t.length := by
  unfold undr
  refine Nat.le_trans (List.length_filter_le _ _) ?_
  rw [srt_len, keys_len]
  exact Nat.le_refl _
theorem o_downward (T : Txt K mg) : Def P w K mg base 1 "_downward" ["post", "below_by"] spDownward := by
  refine Def.of T.f_downward T.at_downward sc_downward (fun _ _ _ _ _ _ us hl => match us, hl with | [_, _], _ => rfl) (fun vs H Q E h => ?_) (fun cdv A outer s H vs Q E hr h => ?_)
  · obtain ⟨p, D, f, t, l, rfl, _⟩ := h
    rfl
  · obtain ⟨p, D, f, t, l, rfl, dl, ok, hp, q⟩ := h
    have hu := hu_of hr
    refine ⟨_, PSs.nox (pss_cons (ps_set (i := 2) sc_downward.nd rfl (Or.inl rfl) (pe_lst (pa_cons (pv 0) pa_nil)))
      (pss_cons (ps_set (i := 3) sc_downward.nd rfl (Or.inl rfl) pe_int)
      (pss_cons (ps_while PassesOwn.never (pt_cmpR op_lt (pv 3) (pe_callB (call_len_seq) (by rfl) T.n_len (by decide +kernel) (pa_cons (pv 2) pa_nil)) (nomark _)) (pss_cons (ps_expr (pe_bm PySem.F.plainAttrs_list PySem.F.slot_list_extend PySem.F.type_list_extend mt_extend (pv 2) (pa_cons (pe_dget hu (pv 1) (pe_ix ix_list (pv 2) (pv 3) (fun _ _ => rfl)) (fun _ _ => rfl)) pa_nil)))
      (pss_one (ps_aug (i := 3) sc_downward.nd rfl (Or.inl rfl) pe_int ip_add))))
      (pss_one (ps_ret (pv 2)))))), ?_⟩
    refine ⟨_, rfl, (by show 1 ≤ sizeLine; decide), fun a na => ?_⟩
    refine while_by (fun σ H' => ∃ (L : List Str) (i : Nat), σ = [some (.str p), some (.ref D), some (.ref a), some (.int (i : Int))] ∧ Same H H' ∧ H' a = some (.lst (L.map V.str)) ∧ Bfs t p L i)
      (fun σ _ => match σ with | [_, _, _, some (.int i)] => t.length + 1 - i.toNat | _ => 0) ⟨[p], 0, rfl, Same.upd' na, upd_same, .start hp⟩ ?_ ?_
    · rintro σ H' ⟨L, i, rfl, s1, h1, B⟩
      refine ⟨_, rfl, _, rfl, a, _, rfl, .inl (SqL.of h1), _, _, rfl, rfl, _, rfl, ?_⟩
      refine ite2 (fun c => ?_) (fun c => ?_)
      · have hi : i < L.length := by
          have := of_decide_eq_true c
          rw [List.length_map] at this
          omega
        have hx : L[i]? = some L[i] := List.getElem?_eq_getElem hi
        have hk : L[i] ∈ keys t := B.keys _ (List.getElem_mem hi)
        have dl1 := dl.same s1
        have hD : a ≠ f L[i] := (ne_of_none (dl.at_ _ hk) na).symm
        have len1 := B.len
        have len2 := (B.next ok.nd hp hx).len
        have hz := ok.len
        refine ⟨_, rfl, Or.inl ⟨rfl, _, SqL.of h1⟩, _, rfl, _, rfl, _, rfl, a, _, _, .str L[i], rfl, rfl, SqL.of h1, atI_nat (by simp [hx]), D, _, rfl, dget_v (.inl dl1.dk) (val_gkv_in hk), a, _, _, _, rfl, rfl, h1, dl1.at_ _ hk, ?_, ?_⟩
        · rw [List.length_map, List.length_map]
          rw [List.length_append] at len2
          exact Nat.le_of_lt (small1000 (by omega))
        · refine ⟨_, rfl, _, _, rfl, rfl, ⟨L ++ undr t L[i], i + 1, rfl, Same.upd s1 na, ?_, B.next ok.nd hp hx⟩, ?_⟩
          · rw [upd_same, List.map_append]
          · show t.length + 1 - ((i : Int) + 1).toNat < t.length + 1 - ((i : Int)).toNat
            omega
      · have hi : i = L.length := by
          have h2 : ¬ ((i : Int) < ((L.map V.str).length : Int)) := fun z => c (decide_eq_true z)
          rw [List.length_map] at h2
          have := B.le
          omega
        subst hi
        exact ⟨_, rfl, q L a H' s1 na ⟨B⟩ h1⟩
    · rintro σ H' Q1 Q2 h ⟨v, hv, v2, hv2, p1, ys, e1, e2, i, j, e3, e4, k, ek, q2⟩
      exact ⟨v, hv, v2, hv2, p1, ys, e1, e2, i, j, e3, e4, k, ek, h _ _ q2⟩

/-! ### tree._size_by -/
noncomputable def szV (t : TD) : Str → V := fun k => .int (sz t k : Int)
def spSizeBy : Sp := fun vs H Q _ => ∃ (a d : Addr) (t : TD) (L : List Str), vs = [.ref a, .ref d] ∧ H a = some (.lst (L.map V.str)) ∧ Rd H d (.dK (kvT t)) ∧ NmTD t ∧ IsTree t ∧ Down t (headOf t) L ∧
  ∀ (p : Addr) (H' : Hp), Same H H' → H p = none → H' p = some (.dK (gkv L (szV t))) → Q (.ref p) H'
theorem sc_size_by : FnScope ["downward", "above_by", "post", "size_by", "above"] ["downward", "above_by"] (defScope s_size_by) := ⟨rfl, rfl, rfl, by decide +kernel, rfl, by decide +kernel, by decide +kernel⟩
/-- behind i posts from the end -/
noncomputable def szI (t : TD) (L : List Str) (i : Nat) : Str → V := fun k => .int ((1 + below_sum t k (L.drop (L.length - i)) : Nat) : Int)
theorem line_head {t : TD} (T : IsTree t) {p : Str} (h : p ∈ keys t) : InBr t (headOf t) p := by
  have L := T.line h
  unfold InBr
  generalize SP.line t p = l at L
  induction L with
  | @head p e => rw [← T.head_uni e]; exact List.mem_cons_self
  | step e h2 ih => exact List.mem_cons_of_mem _ (ih h2.key)
theorem drop_more {L : List Str} {i : Nat} {x : Str} (hi : i < L.length) (hx : L[L.length - 1 - i]? = some x) : L.drop (L.length - (i + 1)) = x :: L.drop (L.length - i) := by
  have e1 : L.length - (i + 1) = L.length - 1 - i := by omega
  rw [e1]
  obtain ⟨h1, h2⟩ := List.getElem?_eq_some_iff.mp hx
  rw [List.drop_eq_getElem_cons h1, h2]
  have e2 : L.length - 1 - i + 1 = L.length - i := by omega
  rw [e2]
theorem not_drop {L : List Str} (nd : L.Nodup) {i : Nat} {x : Str} (hi : i < L.length) (hx : L[L.length - 1 - i]? = some x) : x ∉ L.drop (L.length - i) := by
  intro h
  obtain ⟨j, hj⟩ := List.getElem?_of_mem h
  rw [List.getElem?_drop] at hj
  have := idx_eq nd hx hj
  omega
theorem o_size_by (T : Txt K mg) : Def P w K mg base 1 "_size_by" ["downward", "above_by"] spSizeBy := by
  refine Def.of T.f_size_by T.at_size_by sc_size_by (fun _ _ _ _ _ _ us hl => match us, hl with | [_, _], _ => rfl) (fun vs H Q E h => ?_) (fun cdv A outer s H vs Q E hr h => ?_)
  · obtain ⟨p, D, t, l, rfl, _⟩ := h
    rfl
  · obtain ⟨a, d, t, L, rfl, ha, hd, ok, tr, dn, q⟩ := h
    have hu := hu_of hr
    refine ⟨_, PSs.nox (pss_cons (ps_setDc (i := 3) (own := [("post", 2)]) (g := gName 2) (tt := tYes)  rfl sc_size_by.nd rfl rfl (sw_trueD rfl rfl rfl (by decide +kernel)) (pi_list (pv 0)) (blkOk_by (N := ["downward", "above_by", "post", "size_by", "above"]) (sc := defScope s_size_by) (by decide +kernel)) (fun _ _ _ _ _ => (pg_name (i := 2) sc_size_by.nd rfl (Or.inl rfl))) (fun _ _ _ _ _ => pts_nil) (fun _ _ _ _ _ => (pv 2)) (fun _ _ _ _ _ => pe_int))
      (pss_cons (ps_for PassesOwn.never rfl (pi_reversed (by rfl) T.n_reversed (pa_cons (pv 0) pa_nil)) (pg_name (i := 2) sc_size_by.nd rfl (Or.inl rfl)) (pss_cons (ps_set (i := 4) sc_size_by.nd rfl (Or.inl rfl) (pe_dget hu (pv 1) (pv 2) (fun _ _ => rfl)))
      (pss_one (ps_if (pt_cmpR op_notN (pv 4) pe_non (nomark _)) (pss_one (ps_daug hu (pv 3) (pv 4) (pe_dget hu (pv 3) (pv 2) (fun _ _ => rfl)) in_add (fun _ _ _ => rfl))) pss_nil))))
      (pss_one (ps_ret (pv 3))))), ?_⟩
    have ndL := dn.b.nd
    have lenL := dn.b.len
    have hz := ok.len
    have get : ∀ {i : Nat} {x : V}, (L.map V.str)[i]? = some x → ∃ y, L[i]? = some y ∧ x = .str y := by
      intro i x hx
      rw [List.getElem?_map] at hx
      cases z : L[i]? with
      | none => rw [z] at hx; cases hx
      | some p => rw [z] at hx; exact ⟨p, rfl, (Option.some.inj hx).symm⟩
    refine ⟨_, rfl, a, rfl, ⟨_, SqL.of ha⟩, fun D hD => ?_⟩
    refine dc_it walk_list (fun i H1 => Same H H1 ∧ H1 D = some (.dK (gkv (L.take i) fun _ => .int 1))) ⟨Same.upd' hD, upd_same⟩ (fun i H1 _ ⟨s1, _⟩ => SqL.of (s1 _ _ ha)) ?_ ?_
    · rintro i x H1 H2 hi ⟨s1, d1⟩ ⟨rfl, hx⟩
      obtain ⟨y, hy, rfl⟩ := get hx
      refine ⟨rfl, ?_⟩
      refine ⟨_, rfl, _, Sum.inr y, rfl, d1, ?_, Same.upd s1 hD, ?_⟩
      · rw [gkv_len, List.length_take]
        exact small1000 (by omega)
      · rw [upd_same, take_snoc hy, put_gkv_new (nodup_take_not ndL hy)]
        congr 2
        refine gkv_congr fun k _ => ?_
        unfold setF
        split <;> rfl
    · rintro H1 ⟨s1, d1⟩
      rw [List.length_map, List.take_length] at d1
      refine ⟨_, rfl, a, _, rfl, SqL.of (s1 _ _ ha), ?_⟩
      refine for_it walk_rev (fun i σ H2 => ∃ b c, σ = [some (.ref a), some (.ref d), b, some (.ref D), c] ∧ Same H H2 ∧ H2 D = some (.dK (gkv L (szI t L i)))) ⟨none, none, rfl, s1, ?_⟩ (fun i σ H2 _ ⟨_, _, _, s2, _⟩ => SqL.of (s2 _ _ ha)) ?_ ?_
      · rw [d1]
        congr 2
        refine gkv_congr fun k _ => ?_
        unfold szI
        rw [Nat.sub_zero, List.drop_length, below_sum_nil]
        rfl
      · rintro i x σ H2 H3 hi ⟨b0, c0, rfl, s2, d2⟩ ⟨rfl, hx⟩
        rw [List.length_map] at hi hx
        obtain ⟨y, hy, rfl⟩ := get hx
        have hyL : y ∈ L := List.mem_of_getElem? hy
        have hyk := dn.b.keys y hyL
        obtain ⟨u, hup⟩ := up_ex hyk
        have hv : valV (kvT t) (Sum.inr y) = some (ov u) := by rw [val_kvT, hup]; rfl
        have more := drop_more hi hy
        have nin := not_drop ndL hi hy
        refine ⟨_, rfl, _, rfl, d, _, rfl, dget_v (Same.rd s2 hd) hv, ?_⟩
        cases u with
        | none =>
          refine ⟨_, rfl, rfl, _, rfl, iteF ?_⟩
          refine ⟨_, _, rfl, s2, ?_⟩
          rw [d2]
          congr 2
          refine gkv_congr fun k _ => ?_
          unfold szI
          rw [more, below_sum_cons tr.nd nin, if_neg (by rw [hup]; intro z; cases z), Nat.add_zero]
        | some z =>
          have hzk := tr.cl y z hup
          have hzL : z ∈ L := (dn.mem z).mpr (line_head tr hzk)
          have kids : ∀ c, up t c = some (some y) → c ∈ L.drop (L.length - i) := by
            intro c hc
            have hcL : c ∈ L := (dn.mem c).mpr (line_head tr (up_key hc))
            obtain ⟨j, hj⟩ := List.getElem?_of_mem hcL
            have cne : c ≠ headOf t := fun e => by rw [e, tr.head_up] at hc; cases hc
            obtain ⟨i2, q2, g1, g2, g3, g4⟩ := dn.b.par j c hj cne
            rw [hc] at g4
            cases g4
            have e := idx_eq ndL hy g3
            have hj2 : j < L.length := (List.getElem?_eq_some_iff.mp hj).1
            refine List.mem_of_getElem? (i := j - (L.length - i)) ?_
            rw [List.getElem?_drop]
            rw [show L.length - i + (j - (L.length - i)) = j by omega]
            exact hj
          have full : szI t L i y = .int (sz t y : Int) := by
            unfold szI
            rw [below_sum_all kids, ← sz_eq tr.nd (tr.line hyk)]
          refine ⟨_, rfl, rfl, _, rfl, iteT ?_⟩
          refine ⟨_, rfl, _, rfl, D, _, rfl, dget_v (.inl d2) (val_gkv_in hzL), _, rfl, _, rfl, D, _, rfl, dget_v (.inl d2) (val_gkv_in hyL), ?_⟩
          rw [full]
          refine ⟨_, _, rfl, rfl, _, dput_s d2 ?_, ?_⟩
          · rw [gkv_len]
            exact small1000 (by omega)
          · refine ⟨_, _, rfl, Same.upd s2 hD, ?_⟩
            rw [upd_same, put_gkv hzL]
            congr 2
            refine gkv_congr fun k _ => ?_
            unfold setF szI
            rw [more, below_sum_cons tr.nd nin]
            by_cases e : k = z
            · subst e
              rw [if_pos rfl, if_pos hup]
              congr 1
              omega
            · rw [if_neg e, if_neg (by rw [hup]; intro w; exact e (Option.some.inj (Option.some.inj w)).symm), Nat.add_zero]
      · rintro σ H2 ⟨b0, c0, rfl, s2, d2⟩
        rw [List.length_map] at d2
        refine ⟨_, rfl, ?_⟩
        refine q D H2 s2 hD ?_
        rw [d2]
        congr 2
        refine gkv_congr fun k hk => ?_
        unfold szI szV
        have hkk := dn.b.keys k hk
        rw [Nat.sub_self, List.drop_zero, below_sum_all (fun c hc => (dn.mem c).mpr (line_head tr (up_key hc))), ← sz_eq tr.nd (tr.line hkk)]
end
end K01
namespace K01
open PySem PySem.Spec PyProof.Rows L2 SP
section
variable {P : Program} {w : World} {K : PySem.W.Frag} {mg : Str → Option Value} {base : Heap}

/-! ### a Tree -/
abbrev CT (K : PySem.W.Frag) : Addr := He.ga K "Tree"
theorem clsT (T : Txt K mg) : ClsX K (CT K) := clsX_of T.e
def tF1 (da : Addr) : List (Str × V) := putF "_above" (.ref da) []
def tF2 (da : Addr) (h : Str) : List (Str × V) := putF "_head" (.str h) (tF1 da)
def tF3 (da : Addr) (h : Str) (db : Addr) : List (Str × V) := putF "_below" (.ref db) (tF2 da h)
def tF4 (da : Addr) (h : Str) (db ds : Addr) : List (Str × V) := putF "_size_by" (.ref ds) (tF3 da h db)
theorem k1 : ¬ (("_above" : Str) = "_head") := by decide +kernel
theorem k2 : ¬ (("_above" : Str) = "_below") := by decide +kernel
theorem k3 : ¬ (("_above" : Str) = "_size_by") := by decide +kernel
theorem k4 : ¬ (("_head" : Str) = "_below") := by decide +kernel
theorem k5 : ¬ (("_head" : Str) = "_size_by") := by decide +kernel
theorem k6 : ¬ (("_below" : Str) = "_size_by") := by decide +kernel
theorem f1a (da : Addr) : (tF1 da).lookup ("_above" : Str) = some (.ref da) := by unfold tF1; rw [lookup_putF, if_pos rfl]
theorem f2a (da : Addr) (h : Str) : (tF2 da h).lookup ("_above" : Str) = some (.ref da) := by unfold tF2; rw [lookup_putF, if_neg k1, f1a]
theorem f3a (da : Addr) (h : Str) (db : Addr) : (tF3 da h db).lookup ("_above" : Str) = some (.ref da) := by unfold tF3; rw [lookup_putF, if_neg k2, f2a]
theorem f4a (da : Addr) (h : Str) (db ds : Addr) : (tF4 da h db ds).lookup ("_above" : Str) = some (.ref da) := by unfold tF4; rw [lookup_putF, if_neg k3, f3a]
theorem f2h (da : Addr) (h : Str) : (tF2 da h).lookup ("_head" : Str) = some (.str h) := by unfold tF2; rw [lookup_putF, if_pos rfl]
theorem f3h (da : Addr) (h : Str) (db : Addr) : (tF3 da h db).lookup ("_head" : Str) = some (.str h) := by unfold tF3; rw [lookup_putF, if_neg k4, f2h]
theorem f4h (da : Addr) (h : Str) (db ds : Addr) : (tF4 da h db ds).lookup ("_head" : Str) = some (.str h) := by unfold tF4; rw [lookup_putF, if_neg k5, f3h]
theorem f3b (da : Addr) (h : Str) (db : Addr) : (tF3 da h db).lookup ("_below" : Str) = some (.ref db) := by unfold tF3; rw [lookup_putF, if_pos rfl]
theorem f4b (da : Addr) (h : Str) (db ds : Addr) : (tF4 da h db ds).lookup ("_below" : Str) = some (.ref db) := by unfold tF4; rw [lookup_putF, if_neg k6, f3b]
theorem f4s (da : Addr) (h : Str) (db ds : Addr) : (tF4 da h db ds).lookup ("_size_by" : Str) = some (.ref ds) := by unfold tF4; rw [lookup_putF, if_pos rfl]
theorem f4n (da : Addr) (h : Str) (db ds : Addr) {m : Str} (h1 : ¬ m = "_above") (h2 : ¬ m = "_head") (h3 : ¬ m = "_below") (h4 : ¬ m = "_size_by") : (tF4 da h db ds).lookup m = none := by
  unfold tF4 tF3 tF2 tF1
  rw [lookup_putF, if_neg h4, lookup_putF, if_neg h3, lookup_putF, if_neg h2, lookup_putF, if_neg h1]
  rfl
theorem tF_len (da : Addr) (h : Str) (db : Addr) : (tF1 da).length < 1000 ∧ (tF2 da h).length < 1000 ∧ (tF3 da h db).length < 1000 := by
  have l1 : (tF1 da).length ≤ 1 := length_putF _ _ []
  have l2 : (tF2 da h).length ≤ (tF1 da).length + 1 := length_putF _ _ _
  have l3 : (tF3 da h db).length ≤ (tF2 da h).length + 1 := length_putF _ _ _
  omega
structure TreeF (K : PySem.W.Frag) (H : Hp) (x : Addr) (t : TD) (dx da db ds : Addr) (f : Str → Addr) (L : List Str) : Prop where
  ob : H x = some (.ins (CT K) dx (tF4 da (headOf t) db ds))
  ab : H da = some (.dK (kvT t))
  bl : DL H db (keys t) f (undr t)
  sz : H ds = some (.dK (gkv L (szV t)))
  all : ∀ k ∈ keys t, k ∈ L
  tr : IsTree t
  nm : NmTD t
/-- a Tree of t stands at x -/
def TreeAt (K : PySem.W.Frag) (H : Hp) (x : Addr) (t : TD) : Prop := ∃ dx da db ds f L, TreeF K H x t dx da db ds f L
theorem TreeAt.same {H H' : Hp} {x : Addr} {t : TD} (h : TreeAt K H x t) (e : Same H H') : TreeAt K H' x t := by
  obtain ⟨dx, da, db, ds, f, L, F⟩ := h
  exact ⟨dx, da, db, ds, f, L, ⟨e _ _ F.ob, e _ _ F.ab, F.bl.same e, e _ _ F.sz, F.all, F.tr, F.nm⟩⟩
def spInit (K : PySem.W.Frag) : Sp := fun vs H Q _ => ∃ (x d dx : Addr) (t : TD), vs = [.ref x, .ref d] ∧ H x = some (.ins (CT K) dx []) ∧ Rd H d (.dK (kvT t)) ∧ NmTD t ∧ IsTree t ∧
  ∀ H' : Hp, SameX x H H' → (∀ H2 : Hp, (∀ b, H b = none ∨ b = x → H2 b = H' b) → TreeAt K H2 x t) → Q .non H'
theorem sc_Tree_init__ : FnScope ["self", "above_by", "downward"] ["self", "above_by"] (defScope s_Tree_init__) := ⟨rfl, rfl, rfl, by decide +kernel, rfl, by decide +kernel, by decide +kernel⟩
theorem o_Tree (T : Txt K mg) : CDef P w K mg base 3 "Tree" ["self", "above_by"] (spInit K) := by
  refine CDef.of T.f_Tree_init__ T.mk_Tree T.at_Tree sc_Tree_init__ (fun _ _ _ _ _ _ us hl => match us, hl with | [_, _], _ => rfl) (fun vs H Q E h => ?_) (fun cdv A outer s H vs Q E hr h => ?_)
  · obtain ⟨x, d, dx, t, rfl, _⟩ := h
    rfl
  · obtain ⟨x, d, dx, t, rfl, hx, hd, ok, tr, q⟩ := h
    refine ⟨_, PSs.nox (pss_cons (ps_fld (pv 0) (pe_callO (o_named T) (hr.mono (by decide)) rfl passL (pa_cons (pv 1) pa_nil)) rfl)
      (pss_cons (ps_fld (pv 0) (pe_callO (o_one_head T) (hr.mono (by decide)) rfl passL (pa_cons (pe_fld (pv 0) rfl) pa_nil)) rfl)
      (pss_cons (ps_fld (pv 0) (pe_callO (o_below_by T) (hr.mono (by decide)) rfl passL (pa_cons (pe_fld (pv 0) rfl) pa_nil)) rfl)
      (pss_cons (ps_set (i := 2) sc_Tree_init__.nd rfl (Or.inl rfl) (pe_callO (o_downward T) (hr.mono (by decide)) rfl passL (pa_cons (pe_fld (pv 0) rfl) (pa_cons (pe_fld (pv 0) rfl) pa_nil))))
      (pss_cons (ps_if (pt_cmpR op_lt (pe_callB (call_len_seq) (by rfl) T.n_len (by decide +kernel) (pa_cons (pv 2) pa_nil)) (pe_callB (call_lenD) (by rfl) T.n_len (by decide +kernel) (pa_cons (pe_fld (pv 0) rfl) pa_nil)) (nomark _)) (pss_one ps_never) pss_nil)
      (pss_one (ps_fld (pv 0) (pe_callO (o_size_by T) (hr.mono (by decide)) rfl passL (pa_cons (pv 2) (pa_cons (pe_fld (pv 0) rfl) pa_nil))) rfl))))))), ?_⟩
    -- self._above = _named(above_by)
    refine ⟨_, rfl, d, t, rfl, hd, ok, fun da H1 e1 na h1 => ?_⟩
    have nxa : da ≠ x := (ne_of_none hx na).symm
    refine ⟨_, rfl, x, CT K, dx, [], rfl, e1 _ _ hx, T.cl_Tree, T.na_Tree_above, (by show 0 < 1000; decide), ?_⟩
    have g1 : upd H1 x (.ins (CT K) dx (tF1 da)) x = some (.ins (CT K) dx (tF1 da)) := upd_same
    have g1a : upd H1 x (.ins (CT K) dx (tF1 da)) da = some (.dK (kvT t)) := by rw [upd_ne nxa]; exact h1
    have x1 : SameX x H (upd H1 x (.ins (CT K) dx (tF1 da))) := SameX.upd (SameX.of e1)
    -- self._head = _one_head(self._above)
    refine ⟨_, rfl, x, CT K, dx, tF1 da, _, rfl, g1, T.cl_Tree, T.na_Tree_above, f1a da, da, t, rfl, .inl g1a, ok, tr, fun H2 e2 => ?_⟩
    refine ⟨_, rfl, x, CT K, dx, tF1 da, rfl, e2 _ _ g1, T.cl_Tree, T.na_Tree_head, (tF_len da (headOf t) 0).1, ?_⟩
    have g2 : upd H2 x (.ins (CT K) dx (tF2 da (headOf t))) x = some (.ins (CT K) dx (tF2 da (headOf t))) := upd_same
    have g2a : upd H2 x (.ins (CT K) dx (tF2 da (headOf t))) da = some (.dK (kvT t)) := by rw [upd_ne nxa]; exact e2 _ _ g1a
    have x2 : SameX x H (upd H2 x (.ins (CT K) dx (tF2 da (headOf t)))) := SameX.upd (SameX.trans x1 (SameX.of e2))
    -- self._below = _below_by(self._above)
    refine ⟨_, rfl, x, CT K, dx, tF2 da (headOf t), _, rfl, g2, T.cl_Tree, T.na_Tree_above, f2a da _, da, t, rfl, .inl g2a, ok, tr.cl, fun db f H3 e3 ndb nf dl => ?_⟩
    refine ⟨_, rfl, x, CT K, dx, tF2 da (headOf t), rfl, e3 _ _ g2, T.cl_Tree, T.na_Tree_below, (tF_len da (headOf t) 0).2.1, ?_⟩
    have g3 : upd H3 x (.ins (CT K) dx (tF3 da (headOf t) db)) x = some (.ins (CT K) dx (tF3 da (headOf t) db)) := upd_same
    have g3a : upd H3 x (.ins (CT K) dx (tF3 da (headOf t) db)) da = some (.dK (kvT t)) := by rw [upd_ne nxa]; exact e3 _ _ g2a
    have nxb : db ≠ x := (ne_of_none g2 ndb).symm
    have nxf : ∀ k ∈ keys t, f k ≠ x := fun k hk => (ne_of_none g2 (nf k hk)).symm
    have dl3 : DL (upd H3 x (.ins (CT K) dx (tF3 da (headOf t) db))) db (keys t) f (undr t) := ⟨by rw [upd_ne nxb]; exact dl.dk, fun k hk => by rw [upd_ne (nxf k hk)]; exact dl.at_ k hk, dl.inj⟩
    have x3 : SameX x H (upd H3 x (.ins (CT K) dx (tF3 da (headOf t) db))) := SameX.upd (SameX.trans x2 (SameX.of e3))
    -- downward = _downward(self._head, self._below)
    have hline := tr.line (up_key tr.head_up)
    refine ⟨_, rfl, x, CT K, dx, _, _, rfl, g3, T.cl_Tree, T.na_Tree_head, f3h da _ db, _, rfl, x, CT K, dx, _, _, rfl, g3, T.cl_Tree, T.na_Tree_below, f3b da _ db, headOf t, db, f, t, _, rfl, dl3, ok, hline, fun L a H4 e4 na4 dn h4 => ?_⟩
    have g4 := e4 _ _ g3
    have g4a := e4 _ _ g3a
    have dl4 := dl3.same e4
    have all : ∀ k ∈ keys t, k ∈ L := fun k hk => (dn.mem k).mpr (line_head tr hk)
    -- if len(downward) < len(self._above)
    refine ⟨_, rfl, a, _, rfl, .inl (SqL.of h4), _, rfl, x, CT K, dx, _, _, rfl, g4, T.cl_Tree, T.na_Tree_above, f3a da _ db, da, kvT t, rfl, g4a, _, _, rfl, rfl, _, rfl, ?_⟩
    have hle : ¬ (((L.map V.str).length : Int) < ((kvT t).length : Int)) := by
      rw [List.length_map, kvT_len]
      have := nodup_le tr.nd all
      rw [keys_len] at this
      omega
    rw [decide_eq_false hle]
    refine iteF ?_
    -- self._size_by = _size_by(downward, self._above)
    refine ⟨_, rfl, _, rfl, x, CT K, dx, _, _, rfl, g4, T.cl_Tree, T.na_Tree_above, f3a da _ db, a, da, t, L, rfl, h4, .inl g4a, ok, tr, dn, fun ds H5 e5 nds h5 => ?_⟩
    have g5 := e5 _ _ g4
    refine ⟨_, rfl, x, CT K, dx, _, rfl, g5, T.cl_Tree, T.na_Tree_size_by, (tF_len da (headOf t) db).2.2, ?_⟩
    have nxs : ds ≠ x := (ne_of_none g4 nds).symm
    have nxb4 : db ≠ x := nxb
    have nb0 : H db = none := x2.free nxb ndb
    have nf0 : ∀ k ∈ keys t, H (f k) = none := fun k hk => x2.free (nxf k hk) (nf k hk)
    have ns0 : H ds = none := (SameX.trans x3 (SameX.of e4)).free nxs nds
    refine q _ (SameX.upd (SameX.trans (SameX.trans x3 (SameX.of e4)) (SameX.of e5))) fun Z ez => ⟨dx, da, db, ds, f, L, ⟨(ez x (.inr rfl)).trans upd_same, ?_, ?_, ?_, all, tr, ok⟩⟩
    · rw [ez _ (.inl na), upd_ne nxa]
      exact e5 _ _ g4a
    · have dl5 := dl4.same e5
      exact ⟨by rw [ez _ (.inl nb0), upd_ne nxb]; exact dl5.dk, fun k hk => by rw [ez _ (.inl (nf0 k hk)), upd_ne (nxf k hk)]; exact dl5.at_ k hk, dl5.inj⟩
    · rw [ez _ (.inl ns0), upd_ne nxs]
      exact h5
/-- Tree(d): a new tree, made of what is new -/
theorem mk_tree {H1 : Hp} {R : Addr → Hp → Prop} {E : XK} {d : Addr} {t : TD} (hd : Rd H1 d (.dK (kvT t))) (ok : NmTD t) (tr : IsTree t)
    (q : ∀ (x : Addr) (H' : Hp), H1 x = none → Same H1 H' → (∀ H2 : Hp, (∀ b, H1 b = none → H2 b = H' b) → TreeAt K H2 x t) → R x H') :
    ∀ x dx, H1 x = none → H1 dx = none → dx ≠ x → spInit K (.ref x :: ([.ref d] ++ [])) (upd (upd H1 dx (.own x)) x (.ins (CT K) dx [])) (fun v H2 => v = .non ∧ R x H2) E := by
  intro x dx hx hdx hne
  have e0 : Same H1 (upd (upd H1 dx (.own x)) x (.ins (CT K) dx [])) := Same.upd (Same.upd' hdx) hx
  refine ⟨x, d, dx, t, rfl, upd_same, Same.rd e0 hd, ok, tr, fun H' e tk => ⟨rfl, q x H' hx (fun b u hb => e b u (ne_of_none hb hx) (e0 b u hb)) fun Z ez => tk Z fun b hb => ?_⟩⟩
  refine ez b ?_
  rcases hb with hb | rfl
  · cases q : H1 b with
    | none => rfl
    | some u => rw [e0 b u q] at hb; cases hb
  · exact hx

/-! ### the methods -/
def spChecked (K : PySem.W.Frag) : Sp := fun vs H Q _ => ∃ (x : Addr) (p : Str) (t : TD), vs = [.ref x, .str p] ∧ TreeAt K H x t ∧ p ∈ keys t ∧ Q (.str p) H
theorem sc_Tree_checked : FnScope ["self", "post"] ["self", "post"] (defScope s_Tree_checked) := ⟨rfl, rfl, rfl, by decide +kernel, rfl, by decide +kernel, by decide +kernel⟩
theorem m_checked (T : Txt K mg) : MDef P w K mg base 1 "Tree" "_checked" ["self", "post"] (spChecked K) := by
  refine MDef.of T.f_Tree_checked T.mt_Tree_checked T.cl_Tree sc_Tree_checked (fun _ _ _ _ _ _ us hl => match us, hl with | [_, _], _ => rfl) (fun vs H Q E h => ?_) (fun cdv A outer s H vs Q E hr h => ?_)
  · obtain ⟨x, p, t, rfl, _⟩ := h
    rfl
  · obtain ⟨x, p, t, rfl, ⟨dx, da, db, ds, f, L, F⟩, hp, q⟩ := h
    have hu := hu_of hr
    refine ⟨_, PSs.nox (pss_cons (ps_if (PW.pt (pw_or (pt_not (pt_val (pe_callB (call_isi) (by rfl) T.n_isinstance (by decide +kernel) (pa_cons (pv 1) (pa_cons (pe_bty (n := "str") T.n_str (by decide +kernel)) pa_nil))))) (pw_or1 (pt_cmp (pc_dnotin hu (pv 1) (pe_fld (pv 0) rfl)))))) (pss_one ps_never) pss_nil)
      (pss_one (ps_ret (pv 1)))), ?_⟩
    obtain ⟨a, ha⟩ := up_ex hp
    have hv : valV (kvT t) (Sum.inr p) = some (ov a) := by rw [val_kvT, ha]; rfl
    refine ⟨_, rfl, _, _, _, _, true, rfl, .ty "str", .base (.str p), kit_ty (by decide +kernel), _, rfl, ?_⟩
    refine ⟨_, rfl, _, rfl, x, CT K, dx, _, _, rfl, F.ob, T.cl_Tree, T.na_Tree_above, f4a da _ db ds, da, _, rfl, dget_v (.inl F.ab) hv, _, rfl, iteF ?_⟩
    exact ⟨_, rfl, q⟩
theorem nm_meth {da : Addr} {h : Str} {db ds : Addr} : (tF4 da h db ds).lookup ("_checked" : Str) = none := f4n da h db ds (by decide +kernel) (by decide +kernel) (by decide +kernel) (by decide +kernel)
def spHead (K : PySem.W.Frag) : Sp := fun vs H Q _ => ∃ (x : Addr) (t : TD), vs = [.ref x] ∧ TreeAt K H x t ∧ Q (.str (headOf t)) H
theorem sc_Tree_head : FnScope ["self"] ["self"] (defScope s_Tree_head) := ⟨rfl, rfl, rfl, by decide +kernel, rfl, by decide +kernel, by decide +kernel⟩
theorem m_head (T : Txt K mg) : MDef P w K mg base 1 "Tree" "head" ["self"] (spHead K) := by
  refine MDef.of T.f_Tree_head T.mt_Tree_head T.cl_Tree sc_Tree_head (fun _ _ _ _ _ _ us hl => match us, hl with | [_], _ => rfl) (fun vs H Q E h => ?_) (fun cdv A outer s H vs Q E hr h => ?_)
  · obtain ⟨x, t, rfl, _⟩ := h
    rfl
  · obtain ⟨x, t, rfl, ⟨dx, da, db, ds, f, L, F⟩, q⟩ := h
    refine ⟨_, PSs.nox (pss_one (ps_ret (pe_fld (pv 0) rfl))), ?_⟩
    exact ⟨_, rfl, x, CT K, dx, _, _, rfl, F.ob, T.cl_Tree, T.na_Tree_head, f4h da _ db ds, q⟩
def spPosts (K : PySem.W.Frag) : Sp := fun vs H Q _ => ∃ (x : Addr) (t : TD), vs = [.ref x] ∧ TreeAt K H x t ∧ ∀ p, H p = none → Q (.ref p) (upd H p (.lst ((srt (keys t)).map V.str)))
theorem sc_Tree_posts : FnScope ["self"] ["self"] (defScope s_Tree_posts) := ⟨rfl, rfl, rfl, by decide +kernel, rfl, by decide +kernel, by decide +kernel⟩
theorem m_posts (T : Txt K mg) : MDef P w K mg base 1 "Tree" "posts" ["self"] (spPosts K) := by
  refine MDef.of T.f_Tree_posts T.mt_Tree_posts T.cl_Tree sc_Tree_posts (fun _ _ _ _ _ _ us hl => match us, hl with | [_], _ => rfl) (fun vs H Q E h => ?_) (fun cdv A outer s H vs Q E hr h => ?_)
  · obtain ⟨x, t, rfl, _⟩ := h
    rfl
  · obtain ⟨x, t, rfl, ⟨dx, da, db, ds, f, L, F⟩, q⟩ := h
    refine ⟨_, PSs.nox (pss_one (ps_ret (pe_callB (call_sortedDA rfl) (by rfl) T.n_sorted (by decide +kernel) (pa_cons (pe_fld (pv 0) rfl) pa_nil)))), ?_⟩
    exact ⟨_, rfl, x, CT K, dx, _, _, rfl, F.ob, T.cl_Tree, T.na_Tree_above, f4a da _ db ds, da, kvT t, keys t, rfl, .inl F.ab, kvT_keys t, q⟩
def spAbove (K : PySem.W.Frag) : Sp := fun vs H Q _ => ∃ (x : Addr) (p : Str) (t : TD) (a : Option Str), vs = [.ref x, .str p] ∧ TreeAt K H x t ∧ up t p = some a ∧ Q (ov a) H
theorem sc_Tree_above : FnScope ["self", "post"] ["self", "post"] (defScope s_Tree_above) := ⟨rfl, rfl, rfl, by decide +kernel, rfl, by decide +kernel, by decide +kernel⟩
theorem m_above (T : Txt K mg) : MDef P w K mg base 2 "Tree" "above" ["self", "post"] (spAbove K) := by
  refine MDef.of T.f_Tree_above T.mt_Tree_above T.cl_Tree sc_Tree_above (fun _ _ _ _ _ _ us hl => match us, hl with | [_, _], _ => rfl) (fun vs H Q E h => ?_) (fun cdv A outer s H vs Q E hr h => ?_)
  · obtain ⟨x, p, t, a, rfl, _⟩ := h
    rfl
  · obtain ⟨x, p, t, a, rfl, TA, hp, q⟩ := h
    obtain ⟨dx, da, db, ds, f, L, F⟩ := id TA
    have hu := hu_of hr
    refine ⟨_, PSs.nox (pss_one (ps_ret (pe_dget hu (pe_fld (pv 0) rfl) (pe_methO (pv 0) (m_checked T) (hr.mono (by decide)) passL (pa_cons (pv 1) pa_nil)) (fun _ _ => rfl)))), ?_⟩
    have hv : valV (kvT t) (Sum.inr p) = some (ov a) := by rw [val_kvT, hp]; rfl
    exact ⟨_, rfl, x, CT K, dx, _, _, rfl, F.ob, T.cl_Tree, T.na_Tree_above, f4a da _ db ds, _, rfl, x, dx, _, rfl, F.ob, nm_meth, _, rfl, x, p, t, rfl, TA, up_key hp, da, _, rfl, dget_v (.inl F.ab) hv, q⟩
def spBelow (K : PySem.W.Frag) : Sp := fun vs H Q _ => ∃ (x : Addr) (p : Str) (t : TD), vs = [.ref x, .str p] ∧ TreeAt K H x t ∧ p ∈ keys t ∧ ∀ l, H l = none → Q (.ref l) (upd H l (.lst ((undr t p).map V.str)))
theorem sc_Tree_below : FnScope ["self", "post"] ["self", "post"] (defScope s_Tree_below) := ⟨rfl, rfl, rfl, by decide +kernel, rfl, by decide +kernel, by decide +kernel⟩
theorem m_below (T : Txt K mg) : MDef P w K mg base 2 "Tree" "below" ["self", "post"] (spBelow K) := by
  refine MDef.of T.f_Tree_below T.mt_Tree_below T.cl_Tree sc_Tree_below (fun _ _ _ _ _ _ us hl => match us, hl with | [_, _], _ => rfl) (fun vs H Q E h => ?_) (fun cdv A outer s H vs Q E hr h => ?_)
  · obtain ⟨x, p, t, rfl, _⟩ := h
    rfl
  · obtain ⟨x, p, t, rfl, TA, hp, q⟩ := h
    obtain ⟨dx, da, db, ds, f, L, F⟩ := id TA
    have hu := hu_of hr
    refine ⟨_, PSs.nox (pss_one (ps_ret (pe_callTy (call_list_of) (by rfl) T.n_list (by decide +kernel) (pa_cons (pe_dget hu (pe_fld (pv 0) rfl) (pe_methO (pv 0) (m_checked T) (hr.mono (by decide)) passL (pa_cons (pv 1) pa_nil)) (fun _ _ => rfl)) pa_nil)))), ?_⟩
    exact ⟨_, rfl, x, CT K, dx, _, _, rfl, F.ob, T.cl_Tree, T.na_Tree_below, f4b da _ db ds, _, rfl, x, dx, _, rfl, F.ob, nm_meth, _, rfl, x, p, t, rfl, TA, hp, db, _, rfl, dget_v (.inl F.bl.dk) (val_gkv_in hp), f p, _, rfl, .inl (SqL.of (F.bl.at_ p hp)), q⟩
def spBranch (K : PySem.W.Frag) : Sp := fun vs H Q _ => ∃ (x : Addr) (p : Str) (t : TD), vs = [.ref x, .str p] ∧ TreeAt K H x t ∧ p ∈ keys t ∧ ∀ l H', Same H H' → H l = none → H' l = some (.lst ((branch t p).map V.str)) → Q (.ref l) H'
theorem sc_Tree_branch : FnScope ["self", "post"] ["self", "post"] (defScope s_Tree_branch) := ⟨rfl, rfl, rfl, by decide +kernel, rfl, by decide +kernel, by decide +kernel⟩
theorem m_branch (T : Txt K mg) : MDef P w K mg base 2 "Tree" "branch" ["self", "post"] (spBranch K) := by
  refine MDef.of T.f_Tree_branch T.mt_Tree_branch T.cl_Tree sc_Tree_branch (fun _ _ _ _ _ _ us hl => match us, hl with | [_, _], _ => rfl) (fun vs H Q E h => ?_) (fun cdv A outer s H vs Q E hr h => ?_)
  · obtain ⟨x, p, t, rfl, _⟩ := h
    rfl
  · obtain ⟨x, p, t, rfl, TA, hp, q⟩ := h
    obtain ⟨dx, da, db, ds, f, L, F⟩ := id TA
    refine ⟨_, PSs.nox (pss_one (ps_ret (pe_callB (cr_sortedSA) (by rfl) T.n_sorted (by decide +kernel) (pa_cons (pe_callO (o_downward T) (hr.mono (by decide)) rfl passL (pa_cons (pe_methO (pv 0) (m_checked T) (hr.mono (by decide)) passL (pa_cons (pv 1) pa_nil)) (pa_cons (pe_fld (pv 0) rfl) pa_nil))) pa_nil)))), ?_⟩
    refine ⟨_, rfl, x, dx, _, rfl, F.ob, nm_meth, _, rfl, x, p, t, rfl, TA, hp, _, rfl, x, CT K, dx, _, _, rfl, F.ob, T.cl_Tree, T.na_Tree_below, f4b da _ db ds, p, db, f, t, _, rfl, F.bl, F.nm, F.tr.line hp, fun L2 a H1 e1 na dn h1 => ?_⟩
    refine ⟨a, L2, rfl, SqL.of h1, fun l nl => ?_⟩
    rw [dn.srt F.tr.nd]
    exact q l _ (Same.upd e1 (e1.free nl)) (e1.free nl) upd_same
def spSize (K : PySem.W.Frag) : Sp := fun vs H Q _ => ∃ (x : Addr) (p : Str) (t : TD), vs = [.ref x, .str p] ∧ TreeAt K H x t ∧ p ∈ keys t ∧ Q (.int (sz t p : Int)) H
theorem sc_Tree_size : FnScope ["self", "post"] ["self", "post"] (defScope s_Tree_size) := ⟨rfl, rfl, rfl, by decide +kernel, rfl, by decide +kernel, by decide +kernel⟩
theorem m_size (T : Txt K mg) : MDef P w K mg base 2 "Tree" "size" ["self", "post"] (spSize K) := by
  refine MDef.of T.f_Tree_size T.mt_Tree_size T.cl_Tree sc_Tree_size (fun _ _ _ _ _ _ us hl => match us, hl with | [_, _], _ => rfl) (fun vs H Q E h => ?_) (fun cdv A outer s H vs Q E hr h => ?_)
  · obtain ⟨x, p, t, rfl, _⟩ := h
    rfl
  · obtain ⟨x, p, t, rfl, TA, hp, q⟩ := h
    obtain ⟨dx, da, db, ds, f, L, F⟩ := id TA
    have hu := hu_of hr
    refine ⟨_, PSs.nox (pss_one (ps_ret (pe_dget hu (pe_fld (pv 0) rfl) (pe_methO (pv 0) (m_checked T) (hr.mono (by decide)) passL (pa_cons (pv 1) pa_nil)) (fun _ _ => rfl)))), ?_⟩
    exact ⟨_, rfl, x, CT K, dx, _, _, rfl, F.ob, T.cl_Tree, T.na_Tree_size_by, f4s da _ db ds, _, rfl, x, dx, _, rfl, F.ob, nm_meth, _, rfl, x, p, t, rfl, TA, hp, ds, _, rfl, dget_v (.inl F.sz) (val_gkv_in (F.all p hp)), q⟩
/-- the own ==: another tree, or a thing of a built-in type -/
def spEqT (K : PySem.W.Frag) : Sp := fun vs H Q _ => ∃ (x : Addr) (t : TD) (y : V), vs = [.ref x, y] ∧ TreeAt K H x t ∧
  ((∃ x2 t2, y = .ref x2 ∧ TreeAt K H x2 t2 ∧ Q (.bl (eqKV (kvT t) (kvT t2))) H) ∨ ∃ ty ∈ builtTys, TyX K H y (.type ty) ∧ Q (.bl false) H)
theorem flat_kvT (t : TD) : ∀ p ∈ kvT t, flatV p.2 = true := by
  intro p hp
  obtain ⟨e, _, rfl⟩ := List.mem_map.mp hp
  show flatV (ov e.2) = true
  cases e.2 <;> rfl
theorem sc_Tree_eq__ : FnScope ["self", "other"] ["self", "other"] (defScope s_Tree_eq__) := ⟨rfl, rfl, rfl, by decide +kernel, rfl, by decide +kernel, by decide +kernel⟩
theorem m_eq__ (T : Txt K mg) : MDef P w K mg base 1 "Tree" "__eq__" ["self", "other"] (spEqT K) := by
  refine MDef.of T.f_Tree_eq__ T.mt_Tree_eq__ T.cl_Tree sc_Tree_eq__ (fun _ _ _ _ _ _ us hl => match us, hl with | [_, _], _ => rfl) (fun vs H Q E h => ?_) (fun cdv A outer s H vs Q E hr h => ?_)
  · obtain ⟨x, t, y, rfl, _⟩ := h
    rfl
  · obtain ⟨x, t, y, rfl, ⟨dx, da, db, ds, f, L, F⟩, q⟩ := h
    refine ⟨_, PSs.nox (pss_one (ps_ret (pe_and (pe_callB (call_isi) (by rfl) T.n_isinstance (by decide +kernel) (pa_cons (pv 1) (pa_cons (pe_globC T.at_Tree) pa_nil))) (pe_one (pe_cmpR (op_eqD2 hr.units0) (pe_fld (pv 0) rfl) (pe_fld (pv 1) rfl) (nomark _)))))), ?_⟩
    have X := clsT T
    rcases q with ⟨x2, t2, rfl, ⟨dx2, da2, db2, ds2, f2, L2, F2⟩, q⟩ | ⟨ty, hty, tx, q⟩
    · refine ⟨_, rfl, _, _, _, _, true, rfl, .own _, X.ty T.cl_Tree F2.ob, X.self, _, rfl, iteT ?_⟩
      refine ⟨_, rfl, x, CT K, dx, _, _, rfl, F.ob, T.cl_Tree, T.na_Tree_above, f4a da _ db ds, _, rfl, x2, CT K, dx2, _, _, rfl, F2.ob, T.cl_Tree, T.na_Tree_above, f4a da2 _ db2 ds2, da, da2, _, _, rfl, rfl, .inl F.ab, .inl F2.ab, flat_kvT t, flat_kvT t2, q⟩
    · exact ⟨_, rfl, _, _, _, _, false, rfl, .own _, tx, (X.tys ty hty).2, _, rfl, iteF q⟩
end
end K01
namespace K01
open PySem PySem.Spec PyProof.Rows L2 SP
section
variable {P : Program} {w : World} {K : PySem.W.Frag} {mg : Str → Option Value} {base : Heap}

/-! ### the law's own looks at a dict -/
theorem same_back {H H0 H1 H2 : Hp} {d : Addr} (h0 : ∀ b, b ≠ d → H0 b = H b) (e : Same H0 H1) (h2 : H2 d = H d) (h3 : ∀ b, b ≠ d → H2 b = H1 b) : Same H H2 := same_unlock h0 e h2 h3
theorem str_get {l : List Str} {i : Nat} {x : V} (hx : (l.map V.str)[i]? = some x) : ∃ y, l[i]? = some y ∧ x = .str y := by
  rw [List.getElem?_map] at hx
  cases z : l[i]? with
  | none => rw [z] at hx; cases hx
  | some p => rw [z] at hx; exact ⟨p, rfl, (Option.some.inj hx).symm⟩
theorem filter_take {l : List Str} (f : Str → Bool) {i : Nat} {x : Str} (h : l[i]? = some x) : (l.take (i + 1)).filter f = (l.take i).filter f ++ (if f x = true then [x] else []) := by
  rw [take_snoc h, List.filter_append]
  congr 1
  by_cases z : f x = true
  · rw [if_pos z, List.filter_cons, if_pos z]
    rfl
  · rw [if_neg z, List.filter_cons, if_neg z]
    rfl
def spLawHead : Sp := fun vs H Q _ => ∃ (d : Addr) (t : TD), vs = [.ref d] ∧ Rd H d (.dK (kvT t)) ∧ NmTD t ∧ IsTree t ∧ ∀ H' : Hp, Same H H' → Q (.str (headOf t)) H'
theorem keys_filter_head {t : TD} (T : IsTree t) : (keys t).filter (fun p => decide (up t p = some none)) = [headOf t] := by
  have nd : ((keys t).filter (fun p => decide (up t p = some none))).Nodup := T.nd.filter _
  refine List.perm_singleton.mp ((List.perm_ext_iff_of_nodup nd (by simp)).mpr fun x => ?_)
  rw [List.mem_filter, List.mem_singleton]
  simp only [decide_eq_true_eq]
  exact ⟨fun h => T.head_uni h.2, fun h => by subst h; exact ⟨up_key T.head_up, T.head_up⟩⟩
theorem sc_law_head : FnScope ["above", "post"] ["above"] (defScope s_law_head) := ⟨rfl, rfl, rfl, by decide +kernel, rfl, by decide +kernel, by decide +kernel⟩
theorem o_law_head (T : Txt K mg) : Def P w K mg base 1 "_law_head" ["above"] spLawHead := by
  refine Def.of T.f_law_head T.at_law_head sc_law_head (fun _ _ _ _ _ _ us hl => match us, hl with | [_], _ => rfl) (fun vs H Q E h => ?_) (fun cdv A outer s H vs Q E hr h => ?_)
  · obtain ⟨d, t, rfl, _⟩ := h
    rfl
  · obtain ⟨d, t, rfl, hd, ok, tr, q⟩ := h
    have hu := hu_of hr
    refine ⟨_, PSs.nox (pss_one (ps_ret (pe_ix ix_list (pe_lockR (pe_lc (own := [("post", 1)]) (g := gName 1)  rfl sc_law_head.nd (pi_keys (pv 0)) (blkOk_by (N := ["above", "post"]) (sc := defScope s_law_head) (by decide +kernel)) (fun _ _ _ _ _ => (pg_name (i := 1) sc_law_head.nd rfl (Or.inl rfl))) (fun _ _ _ _ _ => (pts_one (pt_cmpR op_isN (pe_dget hu (pv 0) (pv 1) (fun _ _ => rfl)) pe_non (nomark _)))) (fun _ _ _ _ _ => (pv 1)))) pe_int (fun _ _ => rfl)))), ?_⟩
    refine rd_lock hd trivial fun H0 od Q' h0 hb nx => ?_
    refine ⟨_, rfl, d, od, rfl, .inl ⟨kvT t, h0, fun D hD => ?_⟩⟩
    have nD : D ≠ d := (ne_of_none h0 hD).symm
    refine lc_it walk_keys (fun i H1 => Same H0 H1 ∧ H1 D = some (.lst ((((keys t).take i).filter fun p => decide (up t p = some none)).map V.str))) ⟨Same.upd' hD, upd_same⟩ (fun i H1 _ ⟨s1, _⟩ => s1 _ _ h0) ?_ ?_
    · rintro i x H1 H2 hi ⟨s1, d1⟩ ⟨rfl, k, v, hk, rfl⟩
      obtain ⟨p, hp, rfl⟩ := keys_get hk
      obtain ⟨a, ha⟩ := up_ex (List.mem_of_getElem? hp)
      have hv : valV (kvT t) (Sum.inr p) = some (ov a) := by rw [val_kvT, ha]; rfl
      refine ⟨rfl, ?_⟩
      refine ⟨_, rfl, _, rfl, d, _, rfl, dget_v (.inr ⟨od, s1 _ _ h0⟩) hv, rfl, _, rfl, ?_⟩
      have snoc := filter_take (fun p => decide (up t p = some none)) hp
      cases a with
      | none =>
        rw [if_pos (decide_eq_true ha)] at snoc
        refine iteT ⟨_, rfl, _, d1, ?_, Same.upd s1 hD, ?_⟩
        · rw [List.length_map]
          have h2 := List.length_filter_le (fun p => decide (up t p = some none)) ((keys t).take i)
          rw [List.length_take, keys_len] at h2
          exact small1000 (by have := ok.len; omega)
        · rw [upd_same, snoc, List.map_append]
          rfl
      | some z =>
        rw [if_neg (by rw [ha]; simp)] at snoc
        refine iteF ⟨s1, ?_⟩
        rw [d1, snoc, List.append_nil]
    · rintro H1 ⟨s1, d1⟩
      have hl : (kvT t).length = (keys t).length := by rw [kvT_len, keys_len]
      rw [hl, List.take_length, keys_filter_head tr] at d1
      refine nx _ H1 (s1 _ _ h0) fun H2 e2 e3 => ?_
      have d2 : H2 D = some (.lst [.str (headOf t)]) := by rw [e3 D nD]; exact d1
      exact ⟨D, _, _, _, rfl, rfl, SqL.of d2, rfl, q H2 (same_back hb s1 e2 e3)⟩

def spLawLine : Sp := fun vs H Q _ => ∃ (d : Addr) (t : TD) (p : Str) (l : List Str), vs = [.ref d, .str p] ∧ Rd H d (.dK (kvT t)) ∧ NmTD t ∧ Line t p l ∧
  ∀ (a : Addr) (H' : Hp), Same H H' → H a = none → H' a = some (.lst (l.map V.str)) → Q (.ref a) H'
theorem line_len {t : TD} {p : Str} {l : List Str} (h : Line t p l) : l.length ≤ t.length := by
  rw [← keys_len]
  exact nodup_le h.nodup h.keys
theorem sc_law_line : FnScope ["above", "post", "found"] ["above", "post"] (defScope s_law_line) := ⟨rfl, rfl, rfl, by decide +kernel, rfl, by decide +kernel, by decide +kernel⟩
theorem o_law_line (T : Txt K mg) : Def P w K mg base 1 "_law_line" ["above", "post"] spLawLine := by
  refine Def.of T.f_law_line T.at_law_line sc_law_line (fun _ _ _ _ _ _ us hl => match us, hl with | [_, _], _ => rfl) (fun vs H Q E h => ?_) (fun cdv A outer s H vs Q E hr h => ?_)
  · obtain ⟨d, t, p, l, rfl, _⟩ := h
    rfl
  · obtain ⟨d, t, p, l, rfl, hd, ok, hl, q⟩ := h
    have hu := hu_of hr
    refine ⟨_, PSs.nox (pss_cons (ps_set (i := 2) sc_law_line.nd rfl (Or.inl rfl) (pe_lst (pa_cons (pv 1) pa_nil)))
      (pss_cons (ps_while PassesOwn.never (pt_cmpR op_notN (pe_dget hu (pv 0) (pe_ix ix_list (pv 2) (pe_un un_neg pe_int) (fun _ _ => rfl)) (fun _ _ => rfl)) pe_non (nomark _)) (pss_one (ps_expr (pe_bm PySem.F.plainAttrs_list PySem.F.slot_list_append PySem.F.type_list_append mt_append (pv 2) (pa_cons (pe_dget hu (pv 0) (pe_ix ix_list (pv 2) (pe_un un_neg pe_int) (fun _ _ => rfl)) (fun _ _ => rfl)) pa_nil)))))
      (pss_one (ps_ret (pv 2))))), ?_⟩
    refine ⟨_, rfl, (by show 1 ≤ sizeLine; decide), fun a na => ?_⟩
    have hlen := line_len hl
    refine ⟨fun m σ H' => ∃ (b : List Str) (x : Str) (r : List Str), m = r.length ∧ σ = [some (.ref d), some (.str p), some (.ref a)] ∧ Same H H' ∧ H' a = some (.lst ((b ++ [x]).map V.str)) ∧ Line t x r ∧ l = b ++ r,
      ⟨_, [], p, l, rfl, rfl, Same.upd' na, upd_same, hl, rfl⟩, ?_⟩
    rintro m σ H' ⟨b, x, r, rfl, rfl, s1, h1, hr1, el⟩
    have last : atI ((b ++ [x]).map V.str) (-1) = some (.str x) := by
      rw [List.map_append]
      exact atI_last (b.map V.str) (.str x)
    obtain ⟨u, hup⟩ := up_ex hr1.key
    have hv : valV (kvT t) (Sum.inr x) = some (ov u) := by rw [val_kvT, hup]; rfl
    have get := dget_v (Same.rd s1 hd) hv
    refine ⟨_, rfl, _, rfl, _, rfl, a, _, _, _, rfl, rfl, SqL.of h1, last, d, _, rfl, get, rfl, _, rfl, ?_⟩
    cases u with
    | none =>
      refine iteF ?_
      cases hr1 with
      | step e _ => rw [hup] at e; cases e
      | head e =>
        rw [el] at q
        exact ⟨_, rfl, q a H' s1 na h1⟩
    | some z =>
      cases hr1 with
      | head e => rw [hup] at e; cases e
      | @step _ y r2 e h2 =>
        rw [hup] at e
        cases e
        refine iteT ⟨fun σ' H1 => ∃ (b2 : List Str) (x2 : Str), σ' = [some (.ref d), some (.str p), some (.ref a)] ∧ Same H H1 ∧ H1 a = some (.lst ((b2 ++ [x2]).map V.str)) ∧ Line t x2 r2 ∧ l = b2 ++ r2, ?_, ?_⟩
        · rintro σ' H1 ⟨b2, x2, e1, e2, e3, e4, e5⟩
          exact ⟨r2.length, by simp, b2, x2, r2, rfl, e1, e2, e3, e4, e5⟩
        · refine ⟨_, rfl, Or.inl ⟨rfl, _, SqL.of h1⟩, _, rfl, _, rfl, _, rfl, a, _, _, _, rfl, rfl, SqL.of h1, last, d, _, rfl, get, a, _, _, rfl, rfl, h1, ?_, ?_⟩
          · rw [List.length_map, List.length_append]
            rw [el, List.length_append, List.length_cons] at hlen
            exact small1000 (by have := ok.len; simp; omega)
          · refine ⟨b ++ [x], z, rfl, Same.upd s1 na, ?_, h2, by rw [el, List.append_assoc]; rfl⟩
            rw [upd_same, List.map_append (l₁ := b ++ [x])]
            rfl

def spLawUnder : Sp := fun vs H Q _ => ∃ (d : Addr) (t : TD) (p : Str), vs = [.ref d, .str p] ∧ Rd H d (.dK (kvT t)) ∧ NmTD t ∧
  ∀ (a : Addr) (H' : Hp), Same H H' → H a = none → H' a = some (.lst ((undr t p).map V.str)) → Q (.ref a) H'
theorem ov_str (a : Option Str) (p : Str) : decide (ov a = V.str p) = decide (a = some p) := by
  cases a with
  | none => rfl
  | some z =>
    show decide (V.str z = V.str p) = decide (some z = some p)
    by_cases h : z = p
    · subst h; simp
    · rw [decide_eq_false (fun e => h (V.str.inj e)), decide_eq_false (fun e => h (Option.some.inj e))]
theorem sc_law_under : FnScope ["above", "post", "other"] ["above", "post"] (defScope s_law_under) := ⟨rfl, rfl, rfl, by decide +kernel, rfl, by decide +kernel, by decide +kernel⟩
theorem o_law_under (T : Txt K mg) : Def P w K mg base 1 "_law_under" ["above", "post"] spLawUnder := by
  refine Def.of T.f_law_under T.at_law_under sc_law_under (fun _ _ _ _ _ _ us hl => match us, hl with | [_, _], _ => rfl) (fun vs H Q E h => ?_) (fun cdv A outer s H vs Q E hr h => ?_)
  · obtain ⟨d, t, p, rfl, _⟩ := h
    rfl
  · obtain ⟨d, t, p, rfl, hd, ok, q⟩ := h
    have hu := hu_of hr
    refine ⟨_, PSs.nox (pss_one (ps_ret (pe_callB (cr_sortedSA) (by rfl) T.n_sorted (by decide +kernel) (pa_cons (pe_lockR (pe_lc (own := [("other", 2)]) (g := gName 2)  rfl sc_law_under.nd (pi_keys (pv 0)) (blkOk_by (N := ["above", "post", "other"]) (sc := defScope s_law_under) (by decide +kernel)) (fun _ _ _ _ _ => (pg_name (i := 2) sc_law_under.nd rfl (Or.inl rfl))) (fun _ _ _ _ _ => (pts_one (pt_cmpR op_eq (pe_dget hu (pv 0) (pv 2) (fun _ _ => rfl)) (pv 1) (nomark _)))) (fun _ _ _ _ _ => (pv 2)))) pa_nil)))), ?_⟩
    refine rd_lock hd trivial fun H0 od Q' h0 hb nx => ?_
    refine ⟨_, rfl, d, od, rfl, .inl ⟨kvT t, h0, fun D hD => ?_⟩⟩
    have nD : D ≠ d := (ne_of_none h0 hD).symm
    refine lc_it walk_keys (fun i H1 => Same H0 H1 ∧ H1 D = some (.lst ((((keys t).take i).filter fun x => decide (up t x = some (some p))).map V.str))) ⟨Same.upd' hD, upd_same⟩ (fun i H1 _ ⟨s1, _⟩ => s1 _ _ h0) ?_ ?_
    · rintro i x H1 H2 hi ⟨s1, d1⟩ ⟨rfl, k, v, hk, rfl⟩
      obtain ⟨y, hy, rfl⟩ := keys_get hk
      obtain ⟨a, ha⟩ := up_ex (List.mem_of_getElem? hy)
      have hv : valV (kvT t) (Sum.inr y) = some (ov a) := by rw [val_kvT, ha]; rfl
      refine ⟨rfl, ?_⟩
      refine ⟨_, rfl, _, rfl, d, _, rfl, dget_v (.inr ⟨od, s1 _ _ h0⟩) hv, _, rfl, (by cases a <;> rfl), _, rfl, ?_⟩
      have snoc := filter_take (fun x => decide (up t x = some (some p))) hy
      rw [ov_str]
      by_cases c : a = some p
      · rw [if_pos (decide_eq_true (by rw [ha, c]))] at snoc
        rw [decide_eq_true c]
        refine iteT ⟨_, rfl, _, d1, ?_, Same.upd s1 hD, ?_⟩
        · rw [List.length_map]
          have h2 := List.length_filter_le (fun x => decide (up t x = some (some p))) ((keys t).take i)
          rw [List.length_take, keys_len] at h2
          exact small1000 (by have := ok.len; omega)
        · rw [upd_same, snoc, List.map_append]
          rfl
      · rw [if_neg (by rw [ha]; simpa using c)] at snoc
        rw [decide_eq_false c]
        refine iteF ⟨s1, ?_⟩
        rw [d1, snoc, List.append_nil]
    · rintro H1 ⟨s1, d1⟩
      have hl : (kvT t).length = (keys t).length := by rw [kvT_len, keys_len]
      rw [hl, List.take_length] at d1
      refine nx _ H1 (s1 _ _ h0) fun H2 e2 e3 => ?_
      have s2 := same_back hb s1 e2 e3
      refine ⟨D, _, rfl, SqL.of (by rw [e3 D nD]; exact d1), fun l nl => ?_⟩
      rw [srt_filter]
      exact q l _ (Same.upd s2 (s2.free nl)) (s2.free nl) upd_same
end
end K01
namespace K01
open PySem PySem.Spec PyProof.Rows L2 SP
/-! ### dict(pairs) -/
theorem merge_app {κ : Type} [DecidableEq κ] : ∀ (more acc : List (κ × V)), ((acc ++ more).map (·.1)).Nodup → more.foldl (fun a kv => putK a kv.1 kv.2) acc = acc ++ more
  | [], acc, _ => by simp
  | e :: more, acc, nd => by
    rw [List.foldl_cons]
    have hn : valV acc e.1 = none := by
      cases h : valV acc e.1 with
      | none => rfl
      | some v =>
        obtain ⟨q, hq, e1, _⟩ := valV_mem h
        rw [List.map_append] at nd
        exact absurd rfl ((List.nodup_append.mp nd).2.2 e.1 (List.mem_map.mpr ⟨q, hq, e1⟩) e.1 (List.mem_map.mpr ⟨e, List.mem_cons_self, rfl⟩))
    have e2 : putK acc e.1 e.2 = acc ++ [e] := putK_new _ hn
    rw [e2, merge_app more (acc ++ [e]) (by rw [List.append_assoc]; exact nd), List.append_assoc]
    rfl
theorem merge_nil {kvs : List (Key × V)} (nd : (kvs.map (·.1)).Nodup) : mergeK [] kvs = kvs := by
  unfold mergeK
  rw [merge_app kvs [] nd]
  rfl
theorem inr_nodup {ks : List Str} (nd : ks.Nodup) : (ks.map (Sum.inr : Str → Key)).Nodup := by
  refine List.nodup_iff_pairwise_ne.mpr (List.pairwise_map.mpr ?_)
  exact List.Pairwise.imp (fun h e => h (Sum.inr.inj e)) (List.nodup_iff_pairwise_ne.mp nd)
/-- pairs that lead from ks to g, each a tuple at tp k -/
theorem pairs_gkv {K : PySem.W.Frag} {H : Hp} (tp : Str → Addr) (g : Str → V) : ∀ ks : List Str, (∀ k ∈ ks, H (tp k) = some (.tup [.str k, g k])) → Paired (fun p (kv : Key × V) => SqT K H p [kV kv.1, kv.2]) (ks.map tp) (gkv ks g)
  | [], _ => .nil
  | k :: ks, h => .cons (SqT.of (h k List.mem_cons_self)) (pairs_gkv tp g ks fun j hj => h j (List.mem_cons_of_mem _ hj))
section
variable {P : Program} {w : World} {K : PySem.W.Frag} {mg : Str → Option Value} {base : Heap}
def spLawBranches : Sp := fun vs H Q _ => ∃ (d : Addr) (t : TD), vs = [.ref d] ∧ Rd H d (.dK (kvT t)) ∧ NmTD t ∧ IsTree t ∧
  ∀ (D : Addr) (f : Str → Addr) (H' : Hp), Same H H' → H D = none → (∀ k ∈ keys t, H (f k) = none) → DL H' D (keys t) f (branch t) → Q (.ref D) H'
noncomputable def brI (t : TD) (i : Nat) (k : Str) : List Str := open Classical in ((srt (keys t)).take i).filter fun q => decide (InBr t k q)
theorem brI_zero (t : TD) (k : Str) : brI t 0 k = [] := by unfold brI; simp
open Classical in
theorem brI_succ {t : TD} {i : Nat} {p k : Str} (h : (srt (keys t))[i]? = some p) : brI t (i + 1) k = brI t i k ++ (if InBr t k p then [p] else []) := by
  unfold brI
  rw [filter_take _ h]
  congr 1
  by_cases z : InBr t k p
  · rw [if_pos z, if_pos (decide_eq_true z)]
  · rw [if_neg z, if_neg (by simpa using z)]
theorem brI_all (t : TD) (k : Str) : brI t (srt (keys t)).length k = branch t k := by
  unfold brI branch
  rw [List.take_length, srt_filter]
theorem brI_len (t : TD) (i : Nat) (k : Str) : (brI t i k).length ≤ t.length := by
  unfold brI
  refine Nat.le_trans (List.length_filter_le _ _) ?_
  rw [List.length_take, srt_len, keys_len]
  omega
theorem sc_law_branches : FnScope ["above", "post", "found", "upper"] ["above"] (defScope s_law_branches) := ⟨rfl, rfl, rfl, by decide +kernel, rfl, by decide +kernel, by decide +kernel⟩
theorem o_law_branches (T : Txt K mg) : Def P w K mg base 2 "_law_branches" ["above"] spLawBranches := by
  refine Def.of T.f_law_branches T.at_law_branches sc_law_branches (fun _ _ _ _ _ _ us hl => match us, hl with | [_], _ => rfl) (fun vs H Q E h => ?_) (fun cdv A outer s H vs Q E hr h => ?_)
  · obtain ⟨d, t, rfl, _⟩ := h
    rfl
  · obtain ⟨d, t, rfl, hd, ok, tr, q⟩ := h
    have hu := hu_of hr
    refine ⟨_, PSs.nox (pss_cons (ps_set (i := 2) sc_law_branches.nd rfl (Or.inl rfl) (pe_callTy (call_dictP rfl) (by rfl) T.n_dict (by decide +kernel) (pa_cons (pe_lockR (pe_lc (own := [("post", 1)]) (g := gName 1) (tt := tYes)  rfl sc_law_branches.nd (pi_keys (pv 0)) (blkOk_by (N := ["above", "post", "found", "upper"]) (sc := defScope s_law_branches) (by decide +kernel)) (fun _ _ _ _ _ => (pg_name (i := 1) sc_law_branches.nd rfl (Or.inl rfl))) (fun _ _ _ _ _ => pts_nil) (fun _ _ _ _ _ => (pe_tup (pa_cons (pv 1) (pa_cons (pe_lst pa_nil) pa_nil)))))) pa_nil)))
      (pss_cons (ps_for PassesOwn.never rfl (pi_list (pe_callB (call_sortedDA rfl) (by rfl) T.n_sorted (by decide +kernel) (pa_cons (pv 0) pa_nil))) (pg_name (i := 1) sc_law_branches.nd rfl (Or.inl rfl)) (pss_one (ps_for PassesOwn.never rfl (pi_list (pe_callO (o_law_line T) (hr.mono (by decide)) rfl passL (pa_cons (pv 0) (pa_cons (pv 1) pa_nil)))) (pg_name (i := 3) sc_law_branches.nd rfl (Or.inl rfl)) (pss_one (ps_expr (pe_bm PySem.F.plainAttrs_list PySem.F.slot_list_append PySem.F.type_list_append mt_append (pe_dget hu (pv 2) (pv 3) (fun _ _ => rfl)) (pa_cons (pv 1) pa_nil)))))))
      (pss_one (ps_ret (pv 2))))), ?_⟩
    have hz := ok.len
    refine rd_lock hd trivial fun H0 od Q' h0 hb nx => ?_
    refine ⟨_, rfl, d, od, rfl, .inl ⟨kvT t, h0, fun D hD => ?_⟩⟩
    have nD : D ≠ d := (ne_of_none h0 hD).symm
    refine lc_it walk_keys (fun i H1 => Same H0 H1 ∧ ∃ f tp : Str → Addr, H1 D = some (.lst (((keys t).take i).map fun k => V.ref (tp k))) ∧ (∀ k ∈ (keys t).take i, H0 (f k) = none ∧ H0 (tp k) = none ∧ H1 (tp k) = some (.tup [.str k, .ref (f k)]) ∧ H1 (f k) = some (.lst [])) ∧ (∀ k ∈ (keys t).take i, ∀ j ∈ (keys t).take i, f k = f j → k = j))
      ⟨Same.upd' hD, fun _ => 0, fun _ => 0, upd_same, (by intro k hk; simp at hk), (by intro k hk; simp at hk)⟩ (fun i H1 _ ⟨s1, _⟩ => s1 _ _ h0) ?_ ?_
    · rintro i x H1 H2 hi ⟨s1, f, tp, d1, all, inj⟩ ⟨rfl, k, v, hk, rfl⟩
      obtain ⟨p, hp, rfl⟩ := keys_get hk
      have hnot := nodup_take_not ok.nd hp
      refine ⟨rfl, ?_⟩
      refine ⟨_, rfl, (by show 0 ≤ sizeLine; decide), fun a na => ⟨(by show 2 ≤ sizeLine; decide), fun b nb => ?_⟩⟩
      have nDa : D ≠ a := ne_of_none d1 na
      have nab : a ≠ b := ne_of_none upd_same nb
      have nDb : D ≠ b := ne_of_none (by rw [upd_ne nDa]; exact d1) nb
      have nb1 : H2 b = none := by
        have := nb
        rw [upd_ne nab.symm] at this
        exact this
      refine ⟨_, by rw [upd_ne nDb, upd_ne nDa]; exact d1, ?_, Same.upd (Same.upd (Same.upd s1 (s1.free na)) (s1.free nb1)) hD, fun j => if j = p then a else f j, fun j => if j = p then b else tp j, ?_, ?_, ?_⟩
      · rw [List.length_map, List.length_take, keys_len]
        exact small1000 (by omega)
      · rw [upd_same, take_snoc hp, List.map_append]
        congr 2
        congr 1
        · refine List.map_congr_left fun j hj => ?_
          have : j ≠ p := fun e => hnot (by rw [← e]; exact hj)
          show V.ref (tp j) = V.ref (if j = p then b else tp j)
          rw [if_neg this]
        · simp
      · intro j hj
        rw [take_snoc hp] at hj
        by_cases e : j = p
        · dsimp only
          rw [if_pos e, if_pos e, e]
          refine ⟨s1.free na, s1.free nb1, ?_, ?_⟩
          · rw [upd_ne nDb.symm, upd_same]
            rfl
          · rw [upd_ne nDa.symm, upd_ne nab, upd_same]
        · have hj' : j ∈ (keys t).take i := by
            rcases List.mem_append.mp hj with w | w
            · exact w
            · exact absurd (by simpa using w) e
          obtain ⟨g1, g2, g3, g4⟩ := all j hj'
          dsimp only
          rw [if_neg e, if_neg e]
          have n1 : tp j ≠ D := ne_of g3 d1 (by intro z; cases z)
          have n2 : f j ≠ D := fun z => by
            rw [z, d1] at g4
            have q1 := HO.lst.inj (Option.some.inj g4)
            have := congrArg List.length q1
            rw [List.length_map] at this
            exact absurd hj' (by rw [List.eq_nil_of_length_eq_zero this]; simp)
          refine ⟨g1, g2, ?_, ?_⟩
          · rw [upd_ne n1, upd_ne (ne_of_none g3 nb1), upd_ne (ne_of_none g3 na)]
            exact g3
          · rw [upd_ne n2, upd_ne (ne_of_none g4 nb1), upd_ne (ne_of_none g4 na)]
            exact g4
      · intro k hk j hj e
        rw [take_snoc hp] at hk hj
        have mk : ∀ k, k ∈ (keys t).take i ++ [p] → k ≠ p → k ∈ (keys t).take i := fun k hk ne => by
          rcases List.mem_append.mp hk with w | w
          · exact w
          · exact absurd (by simpa using w) ne
        replace e : (if k = p then a else f k) = (if j = p then a else f j) := e
        by_cases z : k = p
        · by_cases z2 : j = p
          · rw [z, z2]
          · rw [if_pos z, if_neg z2] at e
            exact absurd e.symm (ne_of_none (all j (mk j hj z2)).2.2.2 na)
        · by_cases z2 : j = p
          · rw [if_neg z, if_pos z2] at e
            exact absurd e (ne_of_none (all k (mk k hk z)).2.2.2 na)
          · rw [if_neg z, if_neg z2] at e
            exact inj k (mk k hk z) j (mk j hj z2) e
    · rintro H1 ⟨s1, f, tp, d1, all, inj⟩
      have hl : (kvT t).length = (keys t).length := by rw [kvT_len, keys_len]
      rw [hl, List.take_length] at d1 all inj
      refine nx _ H1 (s1 _ _ h0) fun H2 e2 e3 => ?_
      have s2 := same_back hb s1 e2 e3
      have d2 : H2 D = some (.lst (((keys t).map tp).map V.ref)) := by rw [e3 D nD, List.map_map]; exact d1
      have all2 : ∀ k ∈ keys t, H (f k) = none ∧ H2 (tp k) = some (.tup [.str k, .ref (f k)]) ∧ H2 (f k) = some (.lst []) := fun k hk => by
        obtain ⟨g1, g2, g3, g4⟩ := all k hk
        have n1 : f k ≠ d := fun z => by rw [z, h0] at g1; cases g1
        have n2 : tp k ≠ d := fun z => by rw [z, h0] at g2; cases g2
        exact ⟨by rw [← hb _ n1]; exact g1, by rw [e3 _ n2]; exact g3, by rw [e3 _ n1]; exact g4⟩
      refine ⟨D, (keys t).map tp, gkv (keys t) fun k => .ref (f k), rfl, SqL.of d2, pairs_gkv tp _ (keys t) fun k hk => (all2 k hk).2.1, fun G nG => ?_⟩
      rw [merge_nil (by rw [gkv_keys]; exact inr_nodup ok.nd)]
      have hGH : H G = none := s2.free nG
      have s3 : Same H (upd H2 G (.dK (gkv (keys t) fun k => .ref (f k)))) := Same.upd s2 hGH
      have dl3 : DL (upd H2 G (.dK (gkv (keys t) fun k => .ref (f k)))) G (keys t) f (fun _ => []) := ⟨upd_same, fun k hk => by rw [upd_ne (ne_of_none (all2 k hk).2.2 nG)]; exact (all2 k hk).2.2, inj⟩
      have hfH : ∀ k ∈ keys t, H (f k) = none := fun k hk => (all2 k hk).1
      -- for post in sorted(above)
      refine ⟨_, rfl, d, kvT t, keys t, rfl, Same.rd s3 hd, kvT_keys t, fun sp nsp => ⟨sp, rfl, ⟨_, SqL.of upd_same⟩, ?_⟩⟩
      have s4 := Same.upd (o := .lst ((srt (keys t)).map V.str)) s3 (s3.free nsp)
      have dl4 := dl3.same (Same.upd' (o := .lst ((srt (keys t)).map V.str)) nsp)
      have hsH : H sp = none := s3.free nsp
      refine for_it walk_list (fun i σ H3 => ∃ a b, σ = [some (.ref d), a, some (.ref G), b] ∧ Same H H3 ∧ H3 sp = some (.lst ((srt (keys t)).map V.str)) ∧ DL H3 G (keys t) f (brI t i) ∧ (∀ k ∈ keys t, f k ≠ sp)) ⟨_, _, rfl, s4, upd_same, dl4.congr fun k _ => (brI_zero t k).symm, fun k hk => ne_of_none (dl3.at_ k hk) nsp⟩ (fun i σ H3 _ ⟨_, _, _, _, h4, _⟩ => SqL.of h4) ?_ ?_
      · rintro i x σ H3 H4 hi ⟨a0, b0, rfl, s5, h5, dl5, nsf⟩ ⟨rfl, hx⟩
        obtain ⟨p, hp, rfl⟩ := str_get hx
        have hpk : p ∈ keys t := mem_srt.mp (List.mem_of_getElem? hp)
        have hline := tr.line hpk
        refine ⟨_, rfl, _, rfl, d, t, p, _, rfl, Same.rd s5 hd, ok, hline, fun la H5 e5 nla h6 => ⟨la, rfl, ⟨_, SqL.of h6⟩, ?_⟩⟩
        have nf : ∀ k ∈ keys t, f k ≠ la := fun k hk => ne_of_none (dl5.at_ k hk) nla
        refine for_it walk_list (fun j σ H6 => ∃ b, σ = [some (.ref d), some (.str p), some (.ref G), b] ∧ Same H H6 ∧ H6 sp = some (.lst ((srt (keys t)).map V.str)) ∧ H6 la = some (.lst ((line t p).map V.str)) ∧ DL H6 G (keys t) f (fun k => brI t i k ++ (if k ∈ (line t p).take j then [p] else [])))
          ⟨_, rfl, Same.trans s5 e5, e5 _ _ h5, h6, (dl5.same e5).congr fun k _ => by simp⟩ (fun j σ H6 _ ⟨_, _, _, _, h7, _⟩ => SqL.of h7) ?_ ?_
        · rintro j y σ H6 H7 hj ⟨b1, rfl, s7, g1, g2, dl7⟩ ⟨rfl, hy⟩
          obtain ⟨u, hu2, rfl⟩ := str_get hy
          have huk := hline.keys u (List.mem_of_getElem? hu2)
          have hun := nodup_take_not hline.nodup hu2
          have cur : (brI t i u ++ (if u ∈ (line t p).take j then [p] else [])) = brI t i u := by rw [if_neg hun, List.append_nil]
          have at7 := dl7.at_ u huk
          rw [cur] at at7
          refine ⟨_, rfl, _, rfl, G, _, rfl, dget_v (.inl dl7.dk) (val_gkv_in huk), Or.inl ⟨rfl, _, SqL.of at7⟩, _, rfl, f u, _, _, rfl, rfl, at7, ?_, ?_⟩
          · rw [List.length_map]
            exact small1000 (by have := brI_len t i u; omega)
          · have g := dl7.grow huk (brI t i u ++ [p])
            rw [List.map_append] at g
            refine ⟨_, rfl, Same.upd s7 (hfH u huk), by rw [upd_ne (nsf u huk).symm]; exact g1, by rw [upd_ne (nf u huk).symm]; exact g2, g.congr fun k hk => ?_⟩
            rw [take_snoc hu2]
            by_cases w : k = u
            · subst w
              rw [if_pos rfl, if_pos (List.mem_append_right _ List.mem_cons_self)]
            · rw [if_neg w]
              congr 1
              by_cases w2 : k ∈ (line t p).take j
              · rw [if_pos w2, if_pos (List.mem_append_left _ w2)]
              · rw [if_neg w2, if_neg]
                intro z
                rcases List.mem_append.mp z with z | z
                · exact w2 z
                · exact w (by simpa using z)
        · rintro σ H6 ⟨b1, rfl, s7, g1, g2, dl7⟩
          rw [List.length_map, List.take_length] at dl7
          refine ⟨_, _, rfl, s7, g1, dl7.congr fun k _ => ?_, nsf⟩
          rw [brI_succ hp]
          congr 1
          by_cases z : k ∈ line t p
          · rw [if_pos z, if_pos (show InBr t k p from z)]
          · rw [if_neg z, if_neg (show ¬ InBr t k p from z)]
      · rintro σ H3 ⟨a0, b0, rfl, s5, h5, dl5, nsf⟩
        rw [List.length_map] at dl5
        exact ⟨_, rfl, q G f H3 s5 hGH hfH (dl5.congr fun k _ => brI_all t k)⟩
end
end K01
namespace K01
open PySem PySem.Spec PyProof.Rows L2 SP
/-- a tree as the law draws it -/
structure Drawn (t : TD) (n : Nat) : Prop where
  tr : IsTree t
  nm : ∀ p ∈ keys t, NmOk p
  len : t.length = n
  le : n ≤ 100
theorem NmOk.line {p : Str} (h : NmOk p) : p.length ≤ sizeLine := by
  obtain ⟨l, rfl, _, h2, _⟩ := h.ex
  rw [sL_len]
  exact Nat.le_trans h2 (by decide)
theorem Drawn.nmTD {t : TD} {n : Nat} (D : Drawn t n) : NmTD t := by
  refine ⟨D.tr.nd, fun p a h => ?_, by have := D.len; have := D.le; omega⟩
  have hp : p ∈ keys t := List.mem_map.mpr ⟨_, h, rfl⟩
  refine ⟨(D.nm p hp).isNm, (D.nm p hp).line, fun q e => ?_⟩
  subst e
  have hq := D.tr.cl p q (up_of_mem D.tr.nd h)
  exact ⟨(D.nm q hq).isNm, (D.nm q hq).line⟩
theorem cutV_drop (xs : List V) (r : Nat) (h : r ≤ xs.length) : cutV xs (some (r : Int)) none = xs.drop r := by
  unfold cutV
  rw [HT.sIx_nat, HT.sIx_none, Nat.min_eq_left h]
  exact List.take_of_length_le (by rw [List.length_drop]; exact Nat.le_refl _)
theorem cutV_take (xs : List V) (r : Nat) (h : r ≤ xs.length) : cutV xs none (some (r : Int)) = xs.take r := by
  unfold cutV
  rw [HT.sIx_nat, HT.sIx_none, Nat.min_eq_left h]
  rfl

section
variable {P : Program} {w : World} {K : PySem.W.Frag} {mg : Str → Option Value} {base : Heap}
def spLawAbove : Sp := fun vs H Q _ => ∃ (s : Addr) (n : Nat), vs = [.ref s, .int (n : Int)] ∧ Src H s ∧ 0 < n ∧ n ≤ 100 ∧
  ∀ (t : TD) (p : Addr) (H' : Hp), Drawn t n → SameX s H H' → Src H' s → H p = none → p ≠ s → H' p = some (.dK (kvT t)) → Q (.ref p) H'
theorem sc_law_above : FnScope ["source", "many", "names", "shape", "found", "at", "upper", "order", "turn", "post"] ["source", "many"] (defScope s_law_above) := ⟨rfl, rfl, rfl, by decide +kernel, rfl, by decide +kernel, by decide +kernel⟩
theorem o_law_above (T : Txt K mg) : Def P w K mg base 4 "_law_above" ["source", "many"] spLawAbove := by
  refine Def.of T.f_law_above T.at_law_above sc_law_above (fun _ _ _ _ _ _ us hl => match us, hl with | [_, _], _ => rfl) (fun vs H Q E h => ?_) (fun cdv A outer s H vs Q E hr h => ?_)
  · obtain ⟨s, n, rfl, _⟩ := h
    rfl
  · obtain ⟨src, n, rfl, hs, h0, h1, q⟩ := h
    have hu := hu_of hr
    refine ⟨_, PSs.nox (pss_cons (ps_set (i := 2) sc_law_above.nd rfl (Or.inl rfl) (pe_callO (o_law_names T) (hr.mono (by decide)) rfl passL (pa_cons (pv 0) (pa_cons (pv 1) pa_nil))))
      (pss_cons (ps_set (i := 3) sc_law_above.nd rfl (Or.inl rfl) (pe_callO (o_law_next T) (hr.mono (by decide)) rfl passL (pa_cons (pv 0) (pa_cons pe_int pa_nil))))
      (pss_cons (ps_set (i := 4) sc_law_above.nd rfl (Or.inr rfl) (pe_disp (pps_cons (pe_ix ix_list (pv 2) pe_int (fun _ _ => rfl)) pe_non pps_nil) (by rfl) (by rfl) (fun z => by cases z) (by decide)))
      (pss_cons (ps_for PassesOwn.never rfl (pi_range2 (by rfl) T.n_range (pa_cons pe_int (pa_cons (pv 1) pa_nil))) (pg_name (i := 5) sc_law_above.nd rfl (Or.inl rfl)) (pss_cons (ps_set (i := 6) sc_law_above.nd rfl (Or.inl rfl) (pe_ix ix_list (pe_lst (pa_cons (pe_op op_sub (pv 5) pe_int) (pa_cons pe_int (pa_cons (pe_callO (o_law_next T) (hr.mono (by decide)) rfl passL (pa_cons (pv 0) (pa_cons (pv 5) pa_nil))) (pa_cons (pe_callB (call_max2 rfl) (by rfl) T.n_max (by decide +kernel) (pa_cons pe_int (pa_cons (pe_op op_sub (pe_op op_sub (pv 5) pe_int) (pe_callO (o_law_next T) (hr.mono (by decide)) rfl passL (pa_cons (pv 0) (pa_cons pe_int pa_nil)))) pa_nil))) pa_nil))))) (pv 3) (fun _ _ => rfl)))
      (pss_one (ps_dput hu (pv 4) (pe_ix ix_list (pv 2) (pv 5) (fun _ _ => rfl)) (pe_ix ix_list (pv 2) (pv 6) (fun _ _ => rfl)) rfl))))
      (pss_cons (ps_set (i := 7) sc_law_above.nd rfl (Or.inl rfl) (pe_callB (call_sortedDA rfl) (by rfl) T.n_sorted (by decide +kernel) (pa_cons (pv 4) pa_nil)))
      (pss_cons (ps_set (i := 8) sc_law_above.nd rfl (Or.inl rfl) (pe_callO (o_law_next T) (hr.mono (by decide)) rfl passL (pa_cons (pv 0) (pa_cons (pv 1) pa_nil))))
      (pss_one (ps_ret (pe_callTy (call_dictP rfl) (by rfl) T.n_dict (by decide +kernel) (pa_cons (pe_lc (own := [("post", 9)]) (g := gName 9) (tt := tYes)  rfl sc_law_above.nd (pi_list (pe_op op_cat (pe_slice sl_list (pv 7) (po_some (pv 8)) po_none) (pe_slice sl_list (pv 7) po_none (po_some (pv 8))))) (blkOk_by (N := ["source", "many", "names", "shape", "found", "at", "upper", "order", "turn", "post"]) (sc := defScope s_law_above) (by decide +kernel)) (fun _ _ _ _ _ => (pg_name (i := 9) sc_law_above.nd rfl (Or.inl rfl))) (fun _ _ _ _ _ => pts_nil) (fun _ _ _ _ _ => (pe_tup (pa_cons (pv 9) (pa_cons (pe_dget hu (pv 4) (pv 9) (fun _ _ => rfl)) pa_nil))))) pa_nil)))))))))), ?_⟩
    -- names = _law_names(source, many); shape = _law_next(source, 4)
    refine ⟨_, rfl, _, rfl, src, n, rfl, hs, h0, h1, fun xs pn H1 nk x1 s1 npn nps h2 => ?_⟩
    refine ⟨_, rfl, src, 4, rfl, s1, by decide, by decide, fun r H2 hr2 x2 s2 => ?_⟩
    have l2 : H2 pn = some (.lst (xs.map V.str)) := x2 _ _ nps h2
    have x12 : SameX src H H2 := x1.trans x2
    -- found = {names[0]: None}
    have n0 : 0 < xs.length := by rw [nk.len]; exact h0
    intro F nF
    have nFs : F ≠ src := s2.free nF
    have nFp : F ≠ pn := (ne_of_none l2 nF).symm
    have l2' : ∀ o, (upd H2 F o) pn = some (.lst (xs.map V.str)) := fun o => by rw [upd_ne nFp.symm]; exact l2
    refine ⟨_, rfl, pn, _, _, .str xs[0], rfl, rfl, SqL.of (l2' _), atI_nat (j := 0) (by simp [n0]), upd_same, [(Sum.inr xs[0], .non)], rfl, (by show 1 ≤ 15; decide), ?_⟩
    have fF : H F = none := x12.free nFs nF
    have x3 : SameX src H (upd (upd H2 F (.dK [])) F (.dK (kvT [(xs[0], none)]))) := (x12.updX fF).updX fF
    have s3 : Src (upd (upd H2 F (.dK [])) F (.dK (kvT [(xs[0], none)]))) src := (s2.upd nFs).upd nFs
    -- for at in range(1, many)
    refine ⟨_, rfl, 1, (n : Int), rfl, ⟨by omega, by omega, by omega, by omega⟩, ?_⟩
    have en : ((n : Int) - 1).toNat = n - 1 := by omega
    rw [en]
    refine for_range (lo := 1) (n := n - 1) (fun i σ H3 => ∃ a b, σ = [some (.ref src), some (.int (n : Int)), some (.ref pn), some (.int (r : Int)), some (.ref F), a, b, none, none, none] ∧ SameX src H H3 ∧ Src H3 src ∧ H3 pn = some (.lst (xs.map V.str)) ∧
        ∃ t : TD, H3 F = some (.dK (kvT t)) ∧ IsTree t ∧ keys t = xs.take (i + 1)) ⟨none, none, rfl, x3, s3, by rw [upd_ne nFp.symm]; exact l2' _, [(xs[0], none)], upd_same, IsTree.root _, ?_⟩ ?_ ?_
    · have e0 : xs.take (0 + 1) = [xs[0]] := by
        rw [take_snoc (List.getElem?_eq_getElem n0)]
        rfl
      rw [e0]
      rfl
    · rintro i σ H3 hi ⟨a0, b0, rfl, x4, s4, l4, t, f4, tr4, k4⟩
      have hat : (1 : Int) + (i : Int) = ((i + 1 : Nat) : Int) := by omega
      rw [hat]
      -- the four ways
      refine ⟨_, rfl, _, _, rfl, rfl, _, rfl, _, rfl, src, i + 1, rfl, s4, by omega, by omega, fun r2 H4 hr4 x5 s5 => ?_⟩
      refine ⟨_, rfl, _, _, rfl, rfl, _, rfl, src, 3, rfl, s5, by decide, by decide, fun r3 H5 hr5 x6 s6 => ⟨_, _, rfl, rfl, _, _, rfl, ?_⟩⟩
      refine ⟨(by show 4 ≤ sizeLine; decide), fun L nL => ?_⟩
      obtain ⟨v, av, u, rfl, hu4⟩ := pick4 (a := .int (((i + 1 : Nat) : Int) - 1)) (b := .int 0) (c := .int (r2 : Int)) (d := .int (if (((i + 1 : Nat) : Int) - 1 - (r3 : Int)) > 0 then (((i + 1 : Nat) : Int) - 1 - (r3 : Int)) else 0)) hr2
        (fun v => ∃ u : Nat, v = .int (u : Int) ∧ u < i + 1) ⟨i, by congr 1; omega, by omega⟩ ⟨0, rfl, by omega⟩ ⟨r2, rfl, hr4⟩ (by
          by_cases c : (((i + 1 : Nat) : Int) - 1 - (r3 : Int)) > 0
          · rw [if_pos c]
            exact ⟨i - r3, by congr 1; omega, by omega⟩
          · rw [if_neg c]
            exact ⟨0, rfl, by omega⟩)
      refine ⟨_, rfl, L, _, _, _, rfl, rfl, SqL.of upd_same, av, ?_⟩
      have x7 : SameX src H H5 := (x4.trans x5).trans x6
      have nLs : L ≠ src := s6.free nL
      have fL : H L = none := x7.free nLs nL
      have l5 : H5 pn = some (.lst (xs.map V.str)) := x6 _ _ nps (x5 _ _ nps l4)
      have f5 : H5 F = some (.dK (kvT t)) := x6 _ _ nFs (x5 _ _ nFs f4)
      have nLp : L ≠ pn := (ne_of_none l5 nL).symm
      have nLF : L ≠ F := (ne_of_none f5 nL).symm
      have hi1 : i + 1 < xs.length := by rw [nk.len]; omega
      have hul : u < xs.length := by omega
      have gi : xs[i + 1]? = some xs[i + 1] := List.getElem?_eq_getElem hi1
      have gu : xs[u]? = some xs[u] := List.getElem?_eq_getElem hul
      have l6 : ∀ o, (upd H5 L o) pn = some (.lst (xs.map V.str)) := fun o => by rw [upd_ne nLp.symm]; exact l5
      have f6 : ∀ o, (upd H5 L o) F = some (.dK (kvT t)) := fun o => by rw [upd_ne nLF.symm]; exact f5
      refine ⟨_, rfl, _, rfl, pn, _, _, .str xs[u], rfl, rfl, SqL.of (l6 _), atI_nat (by simp [gu]), _, rfl, _, rfl, _, rfl, pn, _, _, .str xs[i + 1], rfl, rfl, SqL.of (l6 _), atI_nat (by simp [gi]), F, _, rfl, dput_s (f6 _) ?_, ?_⟩
      · rw [kvT_len, ← keys_len, k4, List.length_take]
        exact small1000 (by have := nk.len; omega)
      · have hnew : xs[i + 1] ∉ keys t := by
          rw [k4]
          exact nodup_take_not nk.nd gi
        have hold : xs[u] ∈ keys t := by
          rw [k4]
          refine List.mem_of_getElem? (i := u) ?_
          rw [List.getElem?_take_of_lt (by omega)]
          exact gu
        have ek : putK (kvT t) (Sum.inr xs[i + 1]) (V.str xs[u]) = kvT (t ++ [(xs[i + 1], some xs[u])]) := by
          rw [putK_new _ (by rw [val_kvT, up_none.mpr hnew]; rfl)]
          unfold kvT
          rw [List.map_append]
          rfl
        rw [ek]
        refine ⟨_, _, rfl, (x7.updX fL).updX fF, (s6.upd nLs).upd nFs, by rw [upd_ne nFp.symm]; exact l6 _, _, upd_same, tr4.leaf hnew hold, ?_⟩
        rw [keys_app, k4, take_snoc gi]
        rfl
    · rintro σ H3 ⟨a0, b0, rfl, x4, s4, l4, t, f4, tr4, k4⟩
      have kall : keys t = xs := by
        rw [k4, List.take_of_length_le]
        rw [nk.len]
        omega
      -- order = sorted(found); turn = _law_next(source, many)
      refine ⟨_, rfl, F, kvT t, keys t, rfl, .inl f4, kvT_keys t, fun O nO => ?_⟩
      have nOs : O ≠ src := s4.free nO
      have fO : H O = none := x4.free nOs nO
      have nOF : O ≠ F := (ne_of_none f4 nO).symm
      have x5 := x4.updX (o := .lst ((srt (keys t)).map V.str)) fO
      have s5 := s4.upd (o := .lst ((srt (keys t)).map V.str)) nOs
      refine ⟨_, rfl, _, rfl, src, n, rfl, s5, h0, by omega, fun m H4 hm x6 s6 => ?_⟩
      have o4 : H4 O = some (.lst ((srt (keys t)).map V.str)) := x6 _ _ nOs upd_same
      have f5 : H4 F = some (.dK (kvT t)) := x6 _ _ nFs (by rw [upd_ne nOF.symm]; exact f4)
      have x7 : SameX src H H4 := x5.trans x6
      have hlen : ((srt (keys t)).map V.str).length = n := by rw [List.length_map, srt_len, kall, nk.len]
      -- order[turn:] + order[:turn]
      refine ⟨_, rfl, _, rfl, _, rfl, O, _, rfl, SqL.of o4, fun P1 nP1 => ?_⟩
      rw [cutV_drop _ _ (by omega)]
      have nP1s : P1 ≠ src := s6.free nP1
      have fP1 : H P1 = none := x7.free nP1s nP1
      have nP1O : P1 ≠ O := (ne_of_none o4 nP1).symm
      have nP1F : P1 ≠ F := (ne_of_none f5 nP1).symm
      refine ⟨_, rfl, _, rfl, _, rfl, O, _, rfl, SqL.of (by rw [upd_ne nP1O.symm]; exact o4), fun P2 nP2 => ?_⟩
      rw [cutV_take _ _ (by omega)]
      have nP21 : P2 ≠ P1 := (ne_of_none upd_same nP2).symm
      have nP2' : H4 P2 = none := by
        have := nP2
        rw [upd_ne nP21] at this
        exact this
      have nP2s : P2 ≠ src := s6.free nP2'
      have fP2 : H P2 = none := x7.free nP2s nP2'
      have nP2F : P2 ≠ F := (ne_of_none f5 nP2').symm
      refine ⟨P1, P2, _, _, rfl, rfl, by rw [upd_ne nP21.symm]; exact upd_same, upd_same, ?_, fun P3 nP3 => ?_⟩
      · rw [List.length_drop, List.length_take, hlen]
        exact Nat.le_of_lt (small1000 (by omega))
      have nP32 : P3 ≠ P2 := (ne_of_none upd_same nP3).symm
      have nP31 : P3 ≠ P1 := (ne_of_none (by rw [upd_ne nP21.symm]; exact upd_same) nP3).symm
      have nP3' : H4 P3 = none := by
        have := nP3
        rw [upd_ne nP32, upd_ne nP31] at this
        exact this
      have nP3s : P3 ≠ src := s6.free nP3'
      have fP3 : H P3 = none := x7.free nP3s nP3'
      have nP3F : P3 ≠ F := (ne_of_none f5 nP3').symm
      -- the keys in their new order
      have erot : (((srt (keys t)).map V.str).drop m ++ ((srt (keys t)).map V.str).take m) = ((srt (keys t)).drop m ++ (srt (keys t)).take m).map V.str := by
        rw [List.map_append, List.map_drop, List.map_take]
      rw [erot]
      generalize hrot : (srt (keys t)).drop m ++ (srt (keys t)).take m = rot
      have prot : rot.Perm (keys t) := by
        rw [← hrot]
        refine List.perm_append_comm.trans ?_
        rw [List.take_append_drop]
        exact srt_perm _
      have ndrot : rot.Nodup := prot.nodup_iff.mpr tr4.nd
      have lrot : rot.length ≤ 100 := by rw [prot.length_eq, kall, nk.len]; exact h1
      refine ⟨P3, rfl, ⟨_, SqL.of upd_same⟩, fun D nD => ?_⟩
      have x8 := (((x7.updX (o := .lst (((srt (keys t)).map V.str).drop m)) fP1).updX (o := .lst (((srt (keys t)).map V.str).take m)) fP2).updX (o := .lst (rot.map V.str)) fP3)
      have s8 := (((s6.upd (o := .lst (((srt (keys t)).map V.str).drop m)) nP1s).upd (o := .lst (((srt (keys t)).map V.str).take m)) nP2s).upd (o := .lst (rot.map V.str)) nP3s)
      generalize hG : upd (upd (upd H4 P1 (.lst (((srt (keys t)).map V.str).drop m))) P2 (.lst (((srt (keys t)).map V.str).take m))) P3 (.lst (rot.map V.str)) = G at nD x8 s8
      have g3 : G P3 = some (.lst (rot.map V.str)) := by rw [← hG]; exact upd_same
      have gF : G F = some (.dK (kvT t)) := by rw [← hG, upd_ne nP3F.symm, upd_ne nP2F.symm, upd_ne nP1F.symm]; exact f5
      have nDs : D ≠ src := s8.free nD
      have fD : H D = none := x8.free nDs nD
      refine lc_it walk_list (fun i H5 => Same G H5 ∧ ∃ tp : Str → Addr, H5 D = some (.lst ((rot.take i).map fun k => V.ref (tp k))) ∧ ∀ k ∈ rot.take i, H5 (tp k) = some (.tup [.str k, ov ((up t k).getD none)]))
        ⟨Same.upd' nD, fun _ => 0, upd_same, by intro k hk; simp at hk⟩ (fun i H5 _ ⟨e5, _⟩ => SqL.of (e5 _ _ g3)) ?_ ?_
      · rintro i x H5 H6 hi ⟨e5, tp, d5, all⟩ ⟨rfl, hx⟩
        obtain ⟨y, hy, rfl⟩ := str_get hx
        have hyk : y ∈ keys t := prot.mem_iff.mp (List.mem_of_getElem? hy)
        obtain ⟨a, ha⟩ := up_ex hyk
        have hv : valV (kvT t) (Sum.inr y) = some (ov a) := by rw [val_kvT, ha]; rfl
        have hnot := nodup_take_not ndrot hy
        refine ⟨rfl, ?_⟩
        refine ⟨_, rfl, _, rfl, _, rfl, F, _, rfl, dget_v (.inl (e5 _ _ gF)) hv, (by show 2 ≤ sizeLine; decide), fun b nb => ?_⟩
        have nDb : D ≠ b := ne_of_none d5 nb
        refine ⟨_, by rw [upd_ne nDb]; exact d5, ?_, Same.upd (Same.upd e5 (e5.free nb)) nD, fun j => if j = y then b else tp j, ?_, ?_⟩
        · rw [List.length_map, List.length_take]
          exact small1000 (by omega)
        · rw [upd_same, take_snoc hy, List.map_append]
          congr 2
          congr 1
          · refine List.map_congr_left fun j hj => ?_
            have : j ≠ y := fun e => hnot (by rw [← e]; exact hj)
            show V.ref (tp j) = V.ref (if j = y then b else tp j)
            rw [if_neg this]
          · simp
        · intro j hj
          rw [take_snoc hy] at hj
          by_cases e : j = y
          · dsimp only
            rw [if_pos e, e, upd_ne nDb.symm, upd_same, ha]
            rfl
          · have hj' : j ∈ rot.take i := by
              rcases List.mem_append.mp hj with w | w
              · exact w
              · exact absurd (by simpa using w) e
            have g := all j hj'
            dsimp only
            rw [if_neg e, upd_ne (ne_of g d5 (by intro z; cases z)), upd_ne (ne_of_none g nb)]
            exact g
      · rintro H5 ⟨e5, tp, d5, all⟩
        rw [List.length_map, List.take_length] at d5 all
        refine ⟨D, rot.map tp, gkv rot fun k => ov ((up t k).getD none), rfl, SqL.of (by rw [List.map_map]; exact d5), pairs_gkv tp _ rot all, fun Z nZ => ?_⟩
        rw [merge_nil (by rw [gkv_keys]; exact inr_nodup ndrot), ← kvT_reTD]
        have x9 : SameX src H H5 := x8.trans (SameX.of e5)
        have s9 : Src H5 src := by
          obtain ⟨a, b, c, g⟩ := s8
          exact ⟨a, b, c, e5 _ _ g⟩
        have nZs : Z ≠ src := s9.free nZ
        have fZ : H Z = none := x9.free nZs nZ
        have pm := reTD_perm tr4.nd prot
        refine q (reTD t rot) Z _ ⟨tr4.perm pm, fun p hp => ?_, ?_, h1⟩ (x9.updX fZ) (s9.upd nZs) fZ nZs upd_same
        · rw [reTD_keys] at hp
          have : p ∈ xs := by rw [← kall]; exact prot.mem_iff.mp hp
          exact nk.ok p this
        · rw [← keys_len, reTD_keys, prot.length_eq, kall, nk.len]
end
end K01
namespace K01
open PySem PySem.Spec PyProof.Rows L2 SP
/-! ### behind an if -/
theorem join {c : TT} {t u : TS} {D : Ends} {σ : L2.St} {H : Hp} (Pv : L2.St → Hp → Prop) (fin : ∀ σ' H', Pv σ' H' → D.nx σ' H') (go : (∀ σ' H', Pv σ' H' → D.nx σ' H') → tIfS c t u D σ H) : tIfS c t u D σ H := go fin
theorem joinS {c : TT} {t u v : TS} {D : Ends} {σ : L2.St} {H : Hp} (Pv : L2.St → Hp → Prop) (fin : ∀ σ' H', Pv σ' H' → v D σ' H') (go : (∀ σ' H', Pv σ' H' → v D σ' H') → tIfS c t u { D with nx := v D } σ H) : tSeq (tIfS c t u) v D σ H := go fin
theorem gN {i : Nat} {v : V} {σ : L2.St} {H : Hp} {Q : L2.St → Hp → Prop} (h : Q (σ.set i (some v)) H) : gName i v σ H Q := h
theorem inV_str (x : Str) (l : List Str) : inV (.str x) (l.map V.str) = decide (x ∈ l) := by
  unfold inV
  induction l with
  | nil => simp
  | cons y l ih =>
    rw [List.map_cons, List.any_cons, ih]
    have e : eqV (.str y) (.str x) = decide (x = y) := by
      show (y == x) = decide (x = y)
      by_cases h : x = y
      · subst h; simp
      · rw [decide_eq_false h]
        simpa using fun z => h z.symm
    rw [e]
    by_cases h : x = y
    · simp [h]
    · simp [h]
theorem flat_strs (l : List Str) : (l.map V.str).all flatV = true := List.all_eq_true.mpr fun v hv => by
  obtain ⟨x, _, rfl⟩ := List.mem_map.mp hv
  rfl
abbrev ZZ : Str := Str.ofString "zzzzzzzz"
theorem zz_nm : isNm ZZ = true := by decide +kernel
theorem zz_line : ZZ.length ≤ sizeLine := Nat.le_trans (by decide +kernel : ZZ.length ≤ 8) (by decide)
theorem zz_not : ¬ NmOk ZZ := fun h => by
  obtain ⟨l, e, _, _, _, h8⟩ := h.ex
  have e2 : ZZ = sL [122, 122, 122, 122, 122, 122, 122, 122] := by decide +kernel
  rw [e2] at e
  have := sL_inj e
  subst this
  have := h8 rfl
  cases this
theorem zz_key {t : TD} {n : Nat} (D : Drawn t n) : ZZ ∉ keys t := fun h => zz_not (D.nm _ h)
theorem NmOk.okS {x : Str} (h : NmOk x) : okS x = true := by
  obtain ⟨l, rfl, _, _, h3, _⟩ := h.ex
  refine okS_of fun c hc => ?_
  have hc' : c ∈ l := by simpa using hc
  have := h3 c hc'
  omega
theorem zz_ok : okS ZZ = true := by decide +kernel
/-- another tree than t -/
structure Oth (t t2 : TD) : Prop where
  tr : IsTree t2
  nm : NmTD t2
  ne : eqKV (kvT t2) (kvT t) = false
  ne' : eqKV (kvT t) (kvT t2) = false
theorem oth_of {t t2 : TD} (tr : IsTree t2) (nm : NmTD t2) (h : ∀ p a, up t2 p = some a → up t p = some a → False) : True := trivial
/-- a post that is just in one of them, or is otherwise -/
theorem eqKV_false {t t2 : TD} (nd : (keys t).Nodup) (nd2 : (keys t2).Nodup) (h : ∃ p, up t p ≠ up t2 p) : eqKV (kvT t) (kvT t2) = false := by
  cases e : eqKV (kvT t) (kvT t2) with
  | false => rfl
  | true =>
    obtain ⟨hl, hm⟩ := eqKV_iff.mp e
    obtain ⟨p, hp⟩ := h
    exfalso
    cases hu : up t p with
    | some a => exact hp (by rw [hu, hm p a (up_some_mem hu)])
    | none =>
      cases hu2 : up t2 p with
      | none => exact hp (by rw [hu, hu2])
      | some b =>
        have sub : ∀ x ∈ keys t, x ∈ (keys t2).erase p := fun x hx => by
          obtain ⟨a, ha⟩ := up_ex hx
          have h2 := up_key (hm x a (up_some_mem ha))
          refine (List.mem_erase_of_ne fun z => ?_).mpr h2
          rw [z, hu] at ha; cases ha
        have := nodup_le nd sub
        have hk2 := up_key hu2
        rw [List.length_erase_of_mem hk2, keys_len, keys_len] at this
        have := List.length_pos_of_mem hk2
        rw [keys_len] at this
        omega
theorem oth_mk {t t2 : TD} (T : IsTree t) (tr : IsTree t2) (nm : NmTD t2) (h : ∃ p, up t p ≠ up t2 p) : Oth t t2 := by
  obtain ⟨p, hp⟩ := h
  exact ⟨tr, nm, eqKV_false tr.nd T.nd ⟨p, fun e => hp e.symm⟩, eqKV_false T.nd tr.nd ⟨p, hp⟩⟩
theorem nmTD_of {t : TD} (T : IsTree t) (h : ∀ p ∈ keys t, isNm p = true ∧ p.length ≤ sizeLine) (hl : t.length ≤ 200) : NmTD t := by
  refine ⟨T.nd, fun p a hm => ?_, hl⟩
  have hp : p ∈ keys t := List.mem_map.mpr ⟨_, hm, rfl⟩
  refine ⟨(h p hp).1, (h p hp).2, fun q e => ?_⟩
  subst e
  exact h q (T.cl p q (up_of_mem T.nd hm))
theorem Drawn.isNm {t : TD} {n : Nat} (D : Drawn t n) : ∀ p ∈ keys t, isNm p = true ∧ p.length ≤ sizeLine := fun p hp => ⟨(D.nm p hp).isNm, (D.nm p hp).line⟩
/-- one post more -/
theorem oth_more {t : TD} {n : Nat} (D : Drawn t n) {q : Str} (hq : q ∈ keys t) : Oth t (t ++ [(ZZ, some q)]) := by
  have hz := zz_key D
  have tr := D.tr.leaf hz hq
  refine oth_mk D.tr tr (nmTD_of tr (fun p hp => ?_) ?_) ⟨ZZ, ?_⟩
  · rw [keys_app] at hp
    rcases List.mem_append.mp hp with hp | hp
    · exact D.isNm p hp
    · have : p = ZZ := by simpa [keys] using hp
      rw [this]
      exact ⟨zz_nm, zz_line⟩
  · rw [List.length_append]
    have := D.len; have := D.le
    simp; omega
  · rw [up_none.mpr hz, up_app_right hz, up_cons, if_pos rfl]
    intro e; cases e
theorem oth_move {t : TD} {n : Nat} (D : Drawn t n) {p q g : Str} (hp : up t p = some (some q)) (hg : g ∈ keys t) (hb : ¬ InBr t p g) (hne : up t p ≠ some (some g)) : Oth t (setUp t p (some g)) := by
  have tr := D.tr.move hp hg hb
  refine oth_mk D.tr tr (nmTD_of tr (fun x hx => ?_) ?_) ⟨p, ?_⟩
  · rw [setUp_keys] at hx
    exact D.isNm x hx
  · unfold setUp
    rw [List.length_map]
    have := D.len; have := D.le
    omega
  · rw [setUp_up, if_pos rfl, if_pos (up_key hp)]
    exact hne
theorem without_len (t : TD) (p : Str) : (without t p).length ≤ t.length := List.length_filter_le _ _
theorem oth_less {t : TD} {n : Nat} (D : Drawn t n) {p q : Str} (hp : up t p = some (some q)) (hb : ∀ x, InBr t p x → x = p) : Oth t (without t p) := by
  have tr := D.tr.less hp hb
  refine oth_mk D.tr tr (nmTD_of tr (fun x hx => ?_) ?_) ⟨p, ?_⟩
  · rw [without_keys] at hx
    exact D.isNm x (List.mem_filter.mp hx).1
  · have := without_len t p
    have := D.len; have := D.le
    omega
  · rw [without_up, if_pos rfl, hp]
    intro e; cases e
theorem oth_called {t : TD} {n : Nat} (D : Drawn t n) {p q : Str} (hp : up t p = some (some q)) (hb : ∀ x, InBr t p x → x = p) : Oth t (without t p ++ [(ZZ, some q)]) := by
  have hz : ZZ ∉ keys (without t p) := fun h => by
    rw [without_keys] at h
    exact zz_key D (List.mem_filter.mp h).1
  have hq : q ∈ keys (without t p) := by
    rw [without_keys, List.mem_filter]
    refine ⟨D.tr.cl p q hp, decide_eq_true fun e => ?_⟩
    subst e
    have L := D.tr.line (up_key hp)
    exact L.not_below hp L.mem_self
  have tr := (D.tr.less hp hb).leaf hz hq
  refine oth_mk D.tr tr (nmTD_of tr (fun x hx => ?_) ?_) ⟨ZZ, ?_⟩
  · rw [keys_app] at hx
    rcases List.mem_append.mp hx with hx | hx
    · rw [without_keys] at hx
      exact D.isNm x (List.mem_filter.mp hx).1
    · have : x = ZZ := by simpa [keys] using hx
      rw [this]
      exact ⟨zz_nm, zz_line⟩
  · rw [List.length_append]
    have := without_len t p
    have := D.len; have := D.le
    simp; omega
  · rw [up_none.mpr (zz_key D), up_app_right hz, up_cons, if_pos rfl]
    intro e; cases e
theorem putK_app {t : TD} {p : Str} (h : p ∉ keys t) (a : Option Str) : putK (kvT t) (Sum.inr p) (ov a) = kvT (t ++ [(p, a)]) := by
  rw [putK_new _ (by rw [val_kvT, up_none.mpr h]; rfl)]
  unfold kvT
  rw [List.map_append]
  rfl

section
variable {P : Program} {w : World} {K : PySem.W.Frag} {mg : Str → Option Value} {base : Heap}
def Others (H H' : Hp) (t : TD) (os : List Addr) : Prop := ∀ a ∈ os, ∃ t2, H a = none ∧ H' a = some (.dK (kvT t2)) ∧ Oth t t2
theorem Others.same {H H1 H2 : Hp} {t : TD} {os : List Addr} (h : Others H H1 t os) (e : ∀ b u, (∃ l, u = HO.dK l) → H1 b = some u → H2 b = some u) : Others H H2 t os := fun a ha => by
  obtain ⟨t2, h1, h2, h3⟩ := h a ha
  exact ⟨t2, h1, e _ _ ⟨_, rfl⟩ h2, h3⟩
def spLawOthers : Sp := fun vs H Q _ => ∃ (s d : Addr) (t : TD) (n : Nat), vs = [.ref s, .ref d] ∧ Src H s ∧ Rd H d (.dK (kvT t)) ∧ Drawn t n ∧
  ∀ (os : List Addr) (p : Addr) (H' : Hp), SameX s H H' → Src H' s → H p = none → H' p = some (.lst (os.map V.ref)) → Others H H' t os → os.length ≤ 4 → Q (.ref p) H'
noncomputable def goodB (t : TD) (p : Str) (g : Str) : Bool := decide (g ∉ branch t p) && decide (up t p ≠ some (some g))
theorem sc_law_others : FnScope ["source", "above", "posts", "post", "more", "found", "branches", "goals", "moved", "less", "called", "other"] ["source", "above"] (defScope s_law_others) := ⟨rfl, rfl, rfl, by decide +kernel, rfl, by decide +kernel, by decide +kernel⟩
theorem Src.same {H H1 : Hp} {s : Addr} (h : Src H s) (e : Same H H1) : Src H1 s := by
  obtain ⟨a, b, c, h⟩ := h
  exact ⟨a, b, c, e _ _ h⟩
theorem _root_.SP.SameX.rdS {H H1 : Hp} {s d : Addr} {kvs : List (Key × V)} (e : SameX s H H1) (hs : Src H s) (h : Rd H d (.dK kvs)) : Rd H1 d (.dK kvs) := by
  obtain ⟨a, b, c, hs⟩ := hs
  rcases h with h | ⟨v, h⟩
  · exact .inl (e _ _ (ne_of h hs (by intro z; cases z)) h)
  · exact .inr ⟨v, e _ _ (ne_of h hs (by intro z; cases z)) h⟩
theorem o_law_others (T : Txt K mg) : Def P w K mg base 3 "_law_others" ["source", "above"] spLawOthers := by
  refine Def.of T.f_law_others T.at_law_others sc_law_others (fun _ _ _ _ _ _ us hl => match us, hl with | [_, _], _ => rfl) (fun vs H Q E h => ?_) (fun cdv A outer s H vs Q E hr h => ?_)
  · obtain ⟨d, t, _, _, rfl, _⟩ := h
    rfl
  · obtain ⟨src, d, t, n, rfl, hs, hd, dr, q⟩ := h
    have hu := hu_of hr
    refine ⟨_, PSs.nox (pss_cons (ps_set (i := 2) sc_law_others.nd rfl (Or.inl rfl) (pe_callB (call_sortedDA rfl) (by rfl) T.n_sorted (by decide +kernel) (pa_cons (pv 1) pa_nil)))
      (pss_cons (ps_set (i := 3) sc_law_others.nd rfl (Or.inr rfl) (pe_ix ix_list (pv 2) (pe_callO (o_law_next T) (hr.mono (by decide)) rfl passL (pa_cons (pv 0) (pa_cons (pe_callB (call_len_seq) (by rfl) T.n_len (by decide +kernel) (pa_cons (pv 2) pa_nil)) pa_nil))) (fun _ _ => rfl)))
      (pss_cons (ps_set (i := 4) sc_law_others.nd rfl (Or.inl rfl) (pe_callTy (call_dictD) (by rfl) T.n_dict (by decide +kernel) (pa_cons (pv 1) pa_nil)))
      (pss_cons (ps_dput hu (pv 4) pe_str (pv 3) rfl)
      (pss_cons (ps_set (i := 5) sc_law_others.nd rfl (Or.inl rfl) (pe_lst (pa_cons (pv 4) pa_nil)))
      (pss_cons (ps_set (i := 6) sc_law_others.nd rfl (Or.inr rfl) (pe_callO (o_law_branches T) (hr.mono (by decide)) rfl passL (pa_cons (pv 1) pa_nil)))
      (pss_cons (ps_setLc (i := 7) (own := [("other", 11)]) (g := gName 11)  rfl sc_law_others.nd rfl rfl (sw_true rfl rfl rfl (by decide +kernel)) (pi_list (pv 2)) (blkOk_by (N := ["source", "above", "posts", "post", "more", "found", "branches", "goals", "moved", "less", "called", "other"]) (sc := defScope s_law_others) (by decide +kernel)) (fun _ _ _ _ _ => (pg_name (i := 11) sc_law_others.nd rfl (Or.inl rfl))) (fun _ _ _ _ _ => (pts_one (PW.pt (pw_and (pt_cmpR (op_notIn_seq : OpR _ _ (rIn K true)) (pv 11) (pe_dget hu (pv 6) (pv 3) (fun _ _ => rfl)) (by rfl)) (pw_and1 (pt_cmpR op_ne (pv 11) (pe_dget hu (pv 1) (pv 3) (fun _ _ => rfl)) (nomark _))))))) (fun _ _ _ _ _ => (pv 11)))
      (pss_cons (ps_if (PW.pt (pw_and (pt_cmpR (op_neLS hr.units) (pv 7) (pe_lst pa_nil) (nomark _)) (pw_and1 (pt_cmpR op_notN (pe_dget hu (pv 1) (pv 3) (fun _ _ => rfl)) pe_non (nomark _))))) (pss_cons (ps_set (i := 8) sc_law_others.nd rfl (Or.inl rfl) (pe_callTy (call_dictD) (by rfl) T.n_dict (by decide +kernel) (pa_cons (pv 1) pa_nil)))
      (pss_cons (ps_dput hu (pv 8) (pv 3) (pe_ix ix_list (pv 7) (pe_callO (o_law_next T) (hr.mono (by decide)) rfl passL (pa_cons (pv 0) (pa_cons (pe_callB (call_len_seq) (by rfl) T.n_len (by decide +kernel) (pa_cons (pv 7) pa_nil)) pa_nil))) (fun _ _ => rfl)) rfl)
      (pss_one (ps_expr (pe_bm PySem.F.plainAttrs_list PySem.F.slot_list_append PySem.F.type_list_append mt_append (pv 5) (pa_cons (pv 8) pa_nil)))))) pss_nil)
      (pss_cons (ps_if (PW.pt (pw_and (pt_cmpR (op_eqLS hr.units) (pe_dget hu (pv 6) (pv 3) (fun _ _ => rfl)) (pe_lst (pa_cons (pv 3) pa_nil)) (nomark _)) (pw_and1 (pt_cmpR op_notN (pe_dget hu (pv 1) (pv 3) (fun _ _ => rfl)) pe_non (nomark _))))) (pss_cons (ps_set (i := 9) sc_law_others.nd rfl (Or.inl rfl) (pe_callTy (call_dictD) (by rfl) T.n_dict (by decide +kernel) (pa_cons (pv 1) pa_nil)))
      (pss_cons (ps_expr (pe_dpop1 (pv 9) (pv 3) ⟨rfl, rfl, rfl, rfl⟩))
      (pss_cons (ps_set (i := 10) sc_law_others.nd rfl (Or.inl rfl) (pe_callTy (call_dictD) (by rfl) T.n_dict (by decide +kernel) (pa_cons (pv 9) pa_nil)))
      (pss_cons (ps_dput hu (pv 10) pe_str (pe_dget hu (pv 1) (pv 3) (fun _ _ => rfl)) rfl)
      (pss_one (ps_set (i := 5) sc_law_others.nd rfl (Or.inl rfl) (pe_op op_cat (pv 5) (pe_lst (pa_cons (pv 9) (pa_cons (pv 10) pa_nil)))))))))) pss_nil)
      (pss_one (ps_ret (pv 5)))))))))))), ?_⟩
    have tr := dr.tr
    have ok := dr.nmTD
    have hz := ok.len
    have npos : 0 < (keys t).length := List.length_pos_of_mem (up_key tr.head_up)
    have nlen : (keys t).length ≤ 200 := by rw [keys_len]; exact hz
    -- posts = sorted(above)
    refine ⟨_, rfl, d, kvT t, keys t, rfl, hd, kvT_keys t, fun Pp nP => ?_⟩
    have nPs : Pp ≠ src := hs.free nP
    have x1 : SameX src H (upd H Pp (.lst ((srt (keys t)).map V.str))) := (SameX.refl _ _).updX nP
    have s1 : Src (upd H Pp (.lst ((srt (keys t)).map V.str))) src := hs.upd nPs
    -- post = posts[_law_next(source, len(posts))]
    refine ⟨_, rfl, _, rfl, _, rfl, Pp, _, rfl, .inl (SqL.of upd_same), src, ((srt (keys t)).map V.str).length, rfl, s1, ?_, ?_, fun r H2 hr2 x2 s2 => ?_⟩
    · rw [List.length_map, srt_len]; exact npos
    · rw [List.length_map, srt_len]; omega
    rw [List.length_map] at hr2
    obtain ⟨p, hp⟩ : ∃ p, (srt (keys t))[r]? = some p := ⟨_, List.getElem?_eq_getElem hr2⟩
    have hpk : p ∈ keys t := mem_srt.mp (List.mem_of_getElem? hp)
    have hP2 : H2 Pp = some (.lst ((srt (keys t)).map V.str)) := x2 _ _ nPs upd_same
    refine ⟨Pp, _, _, .str p, rfl, rfl, SqL.of hP2, atI_nat (by simp [hp]), ?_⟩
    have x12 := x1.trans x2
    have hd2 := x12.rdS hs hd
    -- more = dict(above); more['zzzzzzzz'] = post
    refine ⟨_, rfl, d, kvT t, rfl, hd2, fun M nM => ?_⟩
    have nMs : M ≠ src := s2.free nM
    have fM : H M = none := x12.free nMs nM
    refine ⟨_, rfl, _, rfl, M, _, rfl, dput_s upd_same (by rw [kvT_len]; exact small1000 (by omega)), ?_⟩
    rw [show putK (kvT t) (Sum.inr ZZ) (V.str p) = kvT (t ++ [(ZZ, some p)]) from putK_app (zz_key dr) (some p)]
    have x4 := (x12.updX (o := .dK (kvT t)) fM).updX (o := .dK (kvT (t ++ [(ZZ, some p)]))) fM
    have s4 := (s2.upd (o := .dK (kvT t)) nMs).upd (o := .dK (kvT (t ++ [(ZZ, some p)]))) nMs
    have hP4 : (upd (upd H2 M (.dK (kvT t))) M (.dK (kvT (t ++ [(ZZ, some p)])))) Pp = some (.lst ((srt (keys t)).map V.str)) := by
      rw [upd_ne (ne_of_none hP2 nM), upd_ne (ne_of_none hP2 nM)]
      exact hP2
    have m4 : (upd (upd H2 M (.dK (kvT t))) M (.dK (kvT (t ++ [(ZZ, some p)])))) M = some (.dK (kvT (t ++ [(ZZ, some p)]))) := upd_same
    generalize upd (upd H2 M (.dK (kvT t))) M (.dK (kvT (t ++ [(ZZ, some p)]))) = H4 at x4 s4 hP4 m4 ⊢
    -- found = [more]
    refine ⟨_, rfl, (by show 1 ≤ sizeLine; decide), fun F nF => ?_⟩
    have nFs : F ≠ src := s4.free nF
    have fF : H F = none := x4.free nFs nF
    have x5 := x4.updX (o := .lst [.ref M]) fF
    have s5 := s4.upd (o := .lst [.ref M]) nFs
    have hP5 : (upd H4 F (.lst [.ref M])) Pp = some (.lst ((srt (keys t)).map V.str)) := by rw [upd_ne (ne_of_none hP4 nF)]; exact hP4
    have m5 : (upd H4 F (.lst [.ref M])) M = some (.dK (kvT (t ++ [(ZZ, some p)]))) := by rw [upd_ne (ne_of_none m4 nF)]; exact m4
    have f5 : (upd H4 F (.lst [.ref M])) F = some (.lst [.ref M]) := upd_same
    generalize upd H4 F (.lst [.ref M]) = H5 at x5 s5 hP5 m5 f5 ⊢
    -- branches = _law_branches(above)
    refine ⟨_, rfl, d, t, rfl, x5.rdS hs hd, ok, tr, fun B f H6 e6 nB nf dl => ?_⟩
    have x6 := x5.trans (SameX.of e6)
    have s6 : Src H6 src := s5.same e6
    have hP6 := e6 _ _ hP5
    have m6 := e6 _ _ m5
    have f6 := e6 _ _ f5
    have hd6 := x6.rdS hs hd
    obtain ⟨a, ha⟩ := up_ex hpk
    have hv : valV (kvT t) (Sum.inr p) = some (ov a) := by rw [val_kvT, ha]; rfl
    have hbr : valV (gkv (keys t) fun k => V.ref (f k)) (Sum.inr p) = some (.ref (f p)) := val_gkv_in (g := fun k => V.ref (f k)) hpk
    -- goals = [..]
    refine ⟨_, rfl, Pp, rfl, ⟨_, SqL.of hP6⟩, fun G nG => ?_⟩
    refine lc_it walk_list (fun i H7 => Same H6 H7 ∧ H7 G = some (.lst ((((srt (keys t)).take i).filter (goodB t p)).map V.str))) ⟨Same.upd' nG, upd_same⟩ (fun i H7 _ ⟨e7, _⟩ => SqL.of (e7 _ _ hP6)) ?_ ?_
    · rintro i x H7 H8 hi ⟨e7, g7⟩ ⟨rfl, hx⟩
      obtain ⟨y, hy, rfl⟩ := str_get hx
      have dl7 := dl.same e7
      refine ⟨rfl, ?_⟩
      have snoc := filter_take (goodB t p) hy
      refine ⟨_, rfl, _, rfl, _, rfl, B, _, rfl, dget_v (.inl dl7.dk) hbr, f p, _, rfl, .inl (SqL.of (dl7.at_ p hpk)), rfl, flat_strs _, _, rfl, ?_⟩
      show (if (if true = true then !inV (V.str y) ((branch t p).map V.str) else inV (V.str y) ((branch t p).map V.str)) = true then _ else _)
      rw [if_pos rfl, inV_str]
      by_cases c : y ∈ branch t p
      · rw [decide_eq_true c]
        have g0 : ¬ goodB t p y = true := by
          unfold goodB
          rw [decide_eq_false (fun z => z c)]
          simp
        rw [if_neg g0, List.append_nil] at snoc
        refine iteF ?_
        exact iteF ⟨e7, by rw [g7, snoc]⟩
      · rw [decide_eq_false c]
        refine iteT ?_
        refine ⟨_, rfl, _, rfl, _, rfl, d, _, rfl, dget_v (Same.rd e7 hd6) hv, (by cases a <;> rfl), _, rfl, ?_⟩
        have ed : decide (V.str y = ov a) = decide (a = some y) := by
          rw [← ov_str]
          exact decide_eq_decide.mpr ⟨fun z => z.symm, fun z => z.symm⟩
        rw [ed]
        by_cases c2 : a = some y
        · rw [decide_eq_true c2]
          have g0 : ¬ goodB t p y = true := by
            unfold goodB
            rw [ha, decide_eq_false (p := some a ≠ some (some y)) (fun z => z (by rw [c2]))]
            simp
          rw [if_neg g0, List.append_nil] at snoc
          exact iteF ⟨e7, by rw [g7, snoc]⟩
        · rw [decide_eq_false c2]
          have g0 : goodB t p y = true := by
            unfold goodB
            rw [ha, decide_eq_true c, decide_eq_true (p := some a ≠ some (some y)) (fun z => c2 (Option.some.inj z))]
            rfl
          rw [if_pos g0] at snoc
          refine iteT ⟨_, rfl, _, g7, ?_, Same.upd e7 nG, ?_⟩
          · rw [List.length_map]
            have h2 := List.length_filter_le (goodB t p) ((srt (keys t)).take i)
            rw [List.length_take, srt_len] at h2
            exact small1000 (by omega)
          · rw [upd_same, snoc, List.map_append]
            rfl
    rintro H7 ⟨e7, g7⟩
    rw [List.length_map, List.take_length] at g7
    have x7 := x6.trans (SameX.of e7)
    have s7 : Src H7 src := s6.same e7
    have m7 := e7 _ _ m6
    have f7 := e7 _ _ f6
    have dl7 := dl.same e7
    have hgood : ∀ g ∈ (srt (keys t)).filter (goodB t p), g ∈ keys t ∧ ¬ InBr t p g ∧ up t p ≠ some (some g) := fun g hg => by
      obtain ⟨h1, h2⟩ := List.mem_filter.mp hg
      unfold goodB at h2
      rw [Bool.and_eq_true] at h2
      exact ⟨mem_srt.mp h1, fun z => of_decide_eq_true h2.1 (mem_branch.mpr z), of_decide_eq_true h2.2⟩
    have glen : ((srt (keys t)).filter (goodB t p)).length ≤ 200 := by
      have h2 := List.length_filter_le (goodB t p) (srt (keys t))
      rw [srt_len] at h2
      omega
    have gok : ∀ z ∈ (srt (keys t)).filter (goodB t p), okS z = true := fun z hz => (dr.nm z (hgood z hz).1).okS
    generalize (srt (keys t)).filter (goodB t p) = gs at g7 hgood glen gok
    have oth0 : Others H H7 t [M] := fun a ha => by
      have : a = M := by simpa using ha
      subst this
      exact ⟨_, fM, m7, oth_more dr hpk⟩
    -- if goals != [] and above[post] is not None
    unfold gName
    dsimp only
    refine joinS (fun σ H8 => ∃ (os : List Addr) (v : Option V), σ = [some (.ref src), some (.ref d), some (.ref Pp), some (.str p), some (.ref M), some (.ref F), some (.ref B), some (.ref G), v, none, none, none] ∧
      SameX src H H8 ∧ Src H8 src ∧ H8 F = some (.lst (os.map V.ref)) ∧ Others H H8 t os ∧ os.length ≤ 2 ∧ DL H8 B (keys t) f (branch t)) ?_ (fun fin => ?_)
    · -- behind it
      rintro σ H8 ⟨os, v, rfl, x8, s8, f8, o8, l8, dl8⟩
      have hd8 := x8.rdS hs hd
      refine joinS (fun σ H9 => ∃ (F2 : Addr) (os : List Addr), σ[5]? = some (some (.ref F2)) ∧ SameX src H H9 ∧ Src H9 src ∧ H F2 = none ∧ H9 F2 = some (.lst (os.map V.ref)) ∧ Others H H9 t os ∧ os.length ≤ 4) ?_ (fun fin => ?_)
      · rintro σ H9 ⟨F2, os2, h1, h2, h3, h4, h5, h6, h7⟩
        exact ⟨_, h1, q os2 F2 H9 h2 h3 h4 h5 h6 h7⟩
      · -- if branches[post] == [post] and above[post] is not None
        have hd8' := hd8
        refine ⟨_, rfl, _, rfl, B, _, rfl, dget_v (.inl dl8.dk) hbr, _, rfl, (by show 1 ≤ sizeLine; decide), fun Y nY => ?_⟩
        have nYs : Y ≠ src := s8.free nY
        have fY : H Y = none := x8.free nYs nY
        have x9 := x8.updX (o := .lst [.str p]) fY
        have s9 := s8.upd (o := .lst [.str p]) nYs
        have f9 : (upd H8 Y (.lst [.str p])) F = some (.lst (os.map V.ref)) := by rw [upd_ne (ne_of_none f8 nY)]; exact f8
        have dl9 : DL (upd H8 Y (.lst [.str p])) B (keys t) f (branch t) := dl8.same (Same.upd' nY)
        have o9 : Others H (upd H8 Y (.lst [.str p])) t os := o8.same fun b u _ hb => Same.upd' nY b u hb
        have hd9 := x9.rdS hs hd
        have bok : ∀ z ∈ branch t p, okS z = true := fun z hz => (dr.nm z (line_ex (mem_branch.mp hz)).key).okS
        have pok : ∀ z ∈ [p], okS z = true := fun z hz => by
          have : z = p := by simpa using hz
          rw [this]
          exact (dr.nm p hpk).okS
        have here : ∀ v2, (fun σ H9 => ∃ (F2 : Addr) (os : List Addr), σ[5]? = some (some (V.ref F2)) ∧ SameX src H H9 ∧ Src H9 src ∧ H F2 = none ∧ H9 F2 = some (.lst (os.map V.ref)) ∧ Others H H9 t os ∧ os.length ≤ 4) [some (V.ref src), some (.ref d), some (.ref Pp), some (.str p), some (.ref M), some (.ref F), some (.ref B), some (.ref G), v, v2, none, none] (upd H8 Y (.lst [.str p])) := fun v2 => ⟨F, os, rfl, x9, s9, fF, f9, o9, by omega⟩
        refine ⟨f p, Y, branch t p, [p], rfl, rfl, SqL.of (dl9.at_ p hpk), SqL.of upd_same, bok, pok, _, rfl, ?_⟩
        show (if decide (branch t p = [p]) = true then _ else _)
        by_cases c : branch t p = [p]
        · rw [decide_eq_true c]
          refine iteT ?_
          refine ⟨_, rfl, _, rfl, d, _, rfl, dget_v hd9 hv, rfl, _, rfl, ?_⟩
          cases a with
          | none => exact iteF (fin _ _ (here none))
          | some z =>
            refine iteT ?_
            have leaf : ∀ x, InBr t p x → x = p := fun x hx => by
              have := mem_branch.mpr hx
              rw [c] at this
              simpa using this
            -- less = dict(above)
            refine ⟨_, rfl, d, kvT t, rfl, hd9, fun E1 nE => ?_⟩
            have nEs : E1 ≠ src := s9.free nE
            have fE : H E1 = none := x9.free nEs nE
            have x10 := x9.updX (o := .dK (kvT t)) fE
            have s10 := s9.upd (o := .dK (kvT t)) nEs
            -- less.pop(post)
            refine ⟨_, rfl, E1, rfl, .inl ⟨_, .inl upd_same⟩, _, rfl, kvT t, Sum.inr p, _, upd_same, rfl, hv, ?_⟩
            rw [kvT_without]
            have x11 := x10.updX (o := .dK (kvT (without t p))) fE
            have s11 := s10.upd (o := .dK (kvT (without t p))) nEs
            have e11 : (upd (upd (upd H8 Y (.lst [.str p])) E1 (.dK (kvT t))) E1 (.dK (kvT (without t p)))) E1 = some (.dK (kvT (without t p))) := upd_same
            have f11 : (upd (upd (upd H8 Y (.lst [.str p])) E1 (.dK (kvT t))) E1 (.dK (kvT (without t p)))) F = some (.lst (os.map V.ref)) := by
              rw [upd_ne (ne_of_none f9 nE), upd_ne (ne_of_none f9 nE)]; exact f9
            have o11 : Others H (upd (upd (upd H8 Y (.lst [.str p])) E1 (.dK (kvT t))) E1 (.dK (kvT (without t p)))) t os := o9.same fun b u _ hb => by
              rw [upd_ne (ne_of_none hb nE), upd_ne (ne_of_none hb nE)]; exact hb
            have hd11 := x11.rdS hs hd
            generalize upd (upd (upd H8 Y (.lst [.str p])) E1 (.dK (kvT t))) E1 (.dK (kvT (without t p))) = H11 at x11 s11 e11 f11 o11 hd11 ⊢
            -- called = dict(less)
            refine ⟨_, rfl, E1, kvT (without t p), rfl, .inl e11, fun C1 nC => ?_⟩
            have nCs : C1 ≠ src := s11.free nC
            have fC : H C1 = none := x11.free nCs nC
            have x12 := x11.updX (o := .dK (kvT (without t p))) fC
            have s12 := s11.upd (o := .dK (kvT (without t p))) nCs
            have hd12 := x12.rdS hs hd
            have zn : ZZ ∉ keys (without t p) := fun h => by
              rw [without_keys] at h
              exact zz_key dr (List.mem_filter.mp h).1
            -- called['zzzzzzzz'] = above[post]
            refine ⟨_, rfl, _, rfl, d, _, rfl, dget_v hd12 hv, _, rfl, C1, _, rfl, dput_s upd_same (by rw [kvT_len]; exact small1000 (by have := without_len t p; omega)), ?_⟩
            rw [show putK (kvT (without t p)) (Sum.inr ZZ) (ov (some z)) = kvT (without t p ++ [(ZZ, some z)]) from putK_app zn (some z)]
            have x13 := x12.updX (o := .dK (kvT (without t p ++ [(ZZ, some z)]))) fC
            have s13 := s12.upd (o := .dK (kvT (without t p ++ [(ZZ, some z)]))) nCs
            have c13 : (upd (upd H11 C1 (.dK (kvT (without t p)))) C1 (.dK (kvT (without t p ++ [(ZZ, some z)])))) C1 = some (.dK (kvT (without t p ++ [(ZZ, some z)]))) := upd_same
            have up13 : ∀ b u, H11 b = some u → (upd (upd H11 C1 (.dK (kvT (without t p)))) C1 (.dK (kvT (without t p ++ [(ZZ, some z)])))) b = some u := fun b u hb => by
              rw [upd_ne (ne_of_none hb nC), upd_ne (ne_of_none hb nC)]; exact hb
            have e13 := up13 _ _ e11
            have f13 := up13 _ _ f11
            have o13 : Others H _ t os := o11.same fun b u _ hb => up13 b u hb
            generalize upd (upd H11 C1 (.dK (kvT (without t p)))) C1 (.dK (kvT (without t p ++ [(ZZ, some z)]))) = H13 at x13 s13 c13 e13 f13 o13 ⊢
            -- found = found + [less, called]
            refine ⟨_, rfl, _, rfl, _, rfl, (by show 2 ≤ sizeLine; decide), fun L2 nL => ?_⟩
            have nLs : L2 ≠ src := s13.free nL
            have fL : H L2 = none := x13.free nLs nL
            refine ⟨F, L2, os.map V.ref, [.ref E1, .ref C1], rfl, rfl, by rw [upd_ne (ne_of_none f13 nL)]; exact f13, upd_same, ?_, fun R2 nR => ?_⟩
            · rw [List.length_map]
              exact Nat.le_of_lt (small1000 (by simp; omega))
            · have s14 := s13.upd (o := .lst [.ref E1, .ref C1]) nLs
              have x14 := x13.updX (o := .lst [.ref E1, .ref C1]) fL
              have nRs : R2 ≠ src := s14.free nR
              have fR : H R2 = none := x14.free nRs nR
              have up14 : ∀ b u, H13 b = some u → (upd (upd H13 L2 (.lst [.ref E1, .ref C1])) R2 (.lst (os.map V.ref ++ [.ref E1, .ref C1]))) b = some u := fun b u hb => by
                have h1 : (upd H13 L2 (.lst [.ref E1, .ref C1])) b = some u := by rw [upd_ne (ne_of_none hb nL)]; exact hb
                rw [upd_ne (ne_of_none h1 nR)]; exact h1
              refine fin _ _ ⟨R2, os ++ [E1, C1], rfl, x14.updX fR, s14.upd nRs, fR, ?_, ?_, ?_⟩
              · rw [upd_same, List.map_append]
                rfl
              · intro a ha
                rcases List.mem_append.mp ha with ha | ha
                · obtain ⟨t2, h1, h2, h3⟩ := o13 a ha
                  exact ⟨t2, h1, up14 _ _ h2, h3⟩
                · rcases List.mem_cons.mp ha with rfl | ha
                  · exact ⟨_, fE, up14 _ _ e13, oth_less dr ‹_› leaf⟩
                  · have : a = C1 := by simpa using ha
                    subst this
                    exact ⟨_, fC, up14 _ _ c13, oth_called dr ‹_› leaf⟩
              · simp; omega
        · rw [decide_eq_false c]
          refine iteF ?_
          exact iteF (fin _ _ (here none))
    · -- goals != []
      refine ⟨_, rfl, (by show 0 ≤ sizeLine; decide), fun Y nY => ?_⟩
      have nYs : Y ≠ src := s7.free nY
      have fY : H Y = none := x7.free nYs nY
      have x8 := x7.updX (o := .lst []) fY
      have s8 := s7.upd (o := .lst []) nYs
      have f8 : (upd H7 Y (.lst [])) F = some (.lst [.ref M]) := by rw [upd_ne (ne_of_none f7 nY)]; exact f7
      have g8 : (upd H7 Y (.lst [])) G = some (.lst (gs.map V.str)) := by rw [upd_ne (ne_of_none g7 nY)]; exact g7
      have dl8 : DL (upd H7 Y (.lst [])) B (keys t) f (branch t) := dl7.same (Same.upd' nY)
      have o8 : Others H (upd H7 Y (.lst [])) t [M] := oth0.same fun b u _ hb => Same.upd' nY b u hb
      have hd8 := x8.rdS hs hd
      refine ⟨G, Y, gs, [], rfl, rfl, SqL.of g8, SqL.of upd_same, gok, (by intro z hz; cases hz), _, rfl, ?_⟩
      show (if (!decide (gs = [])) = true then _ else _)
      have keep : (fun σ H8 => ∃ (os : List Addr) (v : Option V), σ = [some (V.ref src), some (.ref d), some (.ref Pp), some (.str p), some (.ref M), some (.ref F), some (.ref B), some (.ref G), v, none, none, none] ∧
        SameX src H H8 ∧ Src H8 src ∧ H8 F = some (.lst (os.map V.ref)) ∧ Others H H8 t os ∧ os.length ≤ 2 ∧ DL H8 B (keys t) f (branch t)) [some (V.ref src), some (.ref d), some (.ref Pp), some (.str p), some (.ref M), some (.ref F), some (.ref B), some (.ref G), none, none, none, none] (upd H7 Y (.lst [])) :=
        ⟨[M], none, rfl, x8, s8, f8, o8, by simp, dl8⟩
      by_cases c : gs = []
      · rw [decide_eq_true c]
        refine iteF ?_
        exact iteF (fin _ _ keep)
      · rw [decide_eq_false c]
        refine iteT ?_
        refine ⟨_, rfl, _, rfl, d, _, rfl, dget_v hd8 hv, rfl, _, rfl, ?_⟩
        cases a with
        | none => exact iteF (fin _ _ keep)
        | some z =>
          refine iteT ?_
          -- moved = dict(above)
          refine ⟨_, rfl, d, kvT t, rfl, hd8, fun V1 nV => ?_⟩
          have nVs : V1 ≠ src := s8.free nV
          have fV : H V1 = none := x8.free nVs nV
          have x9 := x8.updX (o := .dK (kvT t)) fV
          have s9 := s8.upd (o := .dK (kvT t)) nVs
          have up9 : ∀ b u, (upd H7 Y (.lst [])) b = some u → (upd (upd H7 Y (.lst [])) V1 (.dK (kvT t))) b = some u := fun b u hb => by
            rw [upd_ne (ne_of_none hb nV)]; exact hb
          have g9 := up9 _ _ g8
          have f9 := up9 _ _ f8
          have dl9 : DL (upd (upd H7 Y (.lst [])) V1 (.dK (kvT t))) B (keys t) f (branch t) := dl8.same up9
          have o9 : Others H _ t [M] := o8.same fun b u _ hb => up9 b u hb
          have v9 : (upd (upd H7 Y (.lst [])) V1 (.dK (kvT t))) V1 = some (.dK (kvT t)) := upd_same
          generalize upd (upd H7 Y (.lst [])) V1 (.dK (kvT t)) = H9 at x9 s9 g9 f9 dl9 o9 v9 ⊢
          -- moved[post] = goals[_law_next(source, len(goals))]
          have nV9 : V1 ≠ src := nVs
          refine ⟨_, rfl, _, rfl, _, rfl, G, _, rfl, .inl (SqL.of g9), src, (gs.map V.str).length, rfl, s9, ?_, ?_, fun r3 H10 hr3 y3 z3 => ?_⟩
          · rw [List.length_map]; exact List.length_pos_iff.mpr c
          · rw [List.length_map]; omega
          rw [List.length_map] at hr3
          obtain ⟨g, hg⟩ : ∃ g, gs[r3]? = some g := ⟨_, List.getElem?_eq_getElem hr3⟩
          obtain ⟨hg1, hg2, hg3⟩ := hgood g (List.mem_of_getElem? hg)
          obtain ⟨sa, sb, sc, s9'⟩ := id s9
          have gne : G ≠ src := ne_of g9 s9' (by
            intro w
            have w2 := HO.lst.inj w
            cases hgs : gs with
            | nil => exact c hgs
            | cons q0 q1 =>
              rw [hgs] at w2
              cases w2)
          have fne : F ≠ src := nFs
          have g10 := y3 _ _ gne g9
          have f10 := y3 _ _ fne f9
          have v10 := y3 _ _ nVs v9
          have dkne : ∀ b l, H9 b = some (HO.dK l) → b ≠ src := fun b l hb => ne_of hb s9' (by intro w; cases w)
          have stne : ∀ b (l : List Str), H9 b = some (HO.lst (l.map V.str)) → b ≠ src := fun b l hb => ne_of hb s9' (by
            intro w
            have w2 := HO.lst.inj w
            cases l with
            | nil => cases w2
            | cons q0 q1 => cases w2)
          have dl10 : DL H10 B (keys t) f (branch t) := ⟨y3 _ _ (dkne _ _ dl9.dk) dl9.dk, fun k hk => y3 _ _ (stne _ _ (dl9.at_ k hk)) (dl9.at_ k hk), dl9.inj⟩
          have o10 : Others H H10 t [M] := o9.same fun b u hu hb => by
            obtain ⟨l, rfl⟩ := hu
            exact y3 _ _ (dkne _ _ hb) hb
          have x10 := x9.trans y3
          refine ⟨G, _, _, .str g, rfl, rfl, SqL.of g10, atI_nat (by simp [hg]), _, rfl, _, rfl, V1, _, rfl, dput_s v10 (by rw [kvT_len]; exact small1000 (by omega)), ?_⟩
          rw [show putK (kvT t) (Sum.inr p) (V.str g) = kvT (setUp t p (some g)) from kvT_setUp (some g) hpk]
          -- found.append(moved)
          have x11 := x10.updX (o := .dK (kvT (setUp t p (some g)))) fV
          have s11 := z3.upd (o := .dK (kvT (setUp t p (some g)))) nVs
          have f11 : (upd H10 V1 (.dK (kvT (setUp t p (some g))))) F = some (.lst [.ref M]) := by
            rw [upd_ne (ne_of f10 v10 (by intro w; cases w))]; exact f10
          have mne : M ≠ V1 := fun w => by
            obtain ⟨_, _, h2, _⟩ := o8 M (by simp)
            rw [w, nV] at h2
            cases h2
          have dl11 : DL (upd H10 V1 (.dK (kvT (setUp t p (some g))))) B (keys t) f (branch t) := by
            have bne : B ≠ V1 := ne_of_none dl8.dk nV
            exact ⟨by rw [upd_ne bne]; exact dl10.dk, fun k hk => by rw [upd_ne (ne_of_none (dl8.at_ k hk) nV)]; exact dl10.at_ k hk, dl10.inj⟩
          refine ⟨_, rfl, Or.inl ⟨rfl, _, SqL.of f11⟩, _, rfl, F, _, _, rfl, rfl, f11, (by show 1 < sizeLine; decide), ?_⟩
          refine fin _ _ ⟨[M, V1], some (.ref V1), rfl, x11.updX fF, s11.upd nFs, upd_same, ?_, by simp, ?_⟩
          · intro b hb
            rcases List.mem_cons.mp hb with rfl | hb
            · obtain ⟨t2, h1, h2, h3⟩ := o10 b (by simp)
              refine ⟨t2, h1, ?_, h3⟩
              rw [upd_ne (ne_of h2 f10 (by intro w; cases w)), upd_ne mne]
              exact h2
            · have : b = V1 := by simpa using hb
              subst this
              refine ⟨_, fV, ?_, oth_move dr ‹_› hg1 hg2 (by assumption)⟩
              rw [upd_ne (ne_of v10 f10 (by intro w; cases w)), upd_same]
          · have bF : B ≠ F := ne_of dl11.dk f11 (by intro w; cases w)
            refine ⟨by rw [upd_ne bF]; exact dl11.dk, fun k hk => ?_, dl11.inj⟩
            have kF : f k ≠ F := fun w => by
              have h1 := dl9.at_ k hk
              rw [w, f9] at h1
              have h2 := HO.lst.inj (Option.some.inj h1)
              cases hb : branch t k with
              | nil => rw [hb] at h2; cases h2
              | cons q0 q1 => rw [hb] at h2; cases h2
            rw [upd_ne kF]
            exact dl11.at_ k hk
end
end K01
namespace K01
open PySem PySem.Spec PyProof.Rows L2 SP
theorem paired_app {α β : Type} {F : α → β → Prop} {xs xs' : List α} {ys ys' : List β} (h : Paired F xs ys) (h' : Paired F xs' ys') : Paired F (xs ++ xs') (ys ++ ys') := by
  induction h with
  | nil => exact h'
  | cons a b ih => exact .cons a ih
theorem paired_rev {α β : Type} {F : α → β → Prop} {xs : List α} {ys : List β} (h : Paired F xs ys) : Paired F xs.reverse ys.reverse := by
  induction h with
  | nil => exact .nil
  | cons a b ih =>
    rw [List.reverse_cons, List.reverse_cons]
    exact paired_app ih (.cons a .nil)
theorem paired_imp {α β : Type} {F G : α → β → Prop} (g : ∀ a b, F a b → G a b) {xs : List α} {ys : List β} (h : Paired F xs ys) : Paired G xs ys := by
  induction h with
  | nil => exact .nil
  | cons a b ih => exact .cons (g _ _ a) ih
theorem eqKV_self {t : TD} (nd : (keys t).Nodup) : eqKV (kvT t) (kvT t) = true := eqKV_iff.mpr ⟨rfl, fun _ _ h => up_of_mem nd h⟩
theorem eqKV_perm {t t2 : TD} (nd : (keys t).Nodup) (h : t.Perm t2) : eqKV (kvT t) (kvT t2) = true := eqKV_iff.mpr ⟨h.length_eq, fun p a hm => by rw [up_perm nd h]; exact up_of_mem nd hm⟩
theorem scal_ov (a : Option Str) : scal (ov a) (ov a) = true := by cases a <;> rfl
theorem NmTD.perm {t t2 : TD} (h : NmTD t) (p : t.Perm t2) (nd : (keys t2).Nodup) : NmTD t2 := ⟨nd, fun q a m => h.nm q a (p.mem_iff.mpr m), by rw [← p.length_eq]; exact h.len⟩
section
variable {P : Program} {w : World} {K : PySem.W.Frag} {mg : Str → Option Value} {base : Heap}
/-- a Tree that stands whatever becomes of three things -/
def TreeX (K : PySem.W.Frag) (H : Hp) (x : Addr) (t : TD) (a b c : Addr) : Prop := ∀ H2 : Hp, (∀ z u, z ≠ a → z ≠ b → z ≠ c → H z = some u → H2 z = some u) → TreeAt K H2 x t
theorem TreeX.of {H1 H' : Hp} {x a b c : Addr} {t : TD} (ha : H1 a ≠ none) (hb : H1 b ≠ none) (hc : H1 c ≠ none) (tk : ∀ H2 : Hp, (∀ z, H1 z = none → H2 z = H' z) → TreeAt K H2 x t) : TreeX K H' x t a b c := fun H2 e => by
  have g := tk (fun z => if z = a ∨ z = b ∨ z = c then none else H' z) fun z hz => by
    have h1 : z ≠ a := fun q => ha (by rw [← q]; exact hz)
    have h2 : z ≠ b := fun q => hb (by rw [← q]; exact hz)
    have h3 : z ≠ c := fun q => hc (by rw [← q]; exact hz)
    rw [if_neg (by rintro (q | q | q) <;> contradiction)]
  refine g.same fun z u hz => ?_
  replace hz : (if z = a ∨ z = b ∨ z = c then none else H' z) = some u := hz
  by_cases q : z = a ∨ z = b ∨ z = c
  · rw [if_pos q] at hz; cases hz
  · rw [if_neg q] at hz
    exact e z u (fun w => q (.inl w)) (fun w => q (.inr (.inl w))) (fun w => q (.inr (.inr w))) hz
theorem TreeX.same {H H' : Hp} {x a b c : Addr} {t : TD} (h : TreeX K H x t a b c) (e : Same H H') : TreeX K H' x t a b c := fun H2 g => h H2 fun z u h1 h2 h3 q => g z u h1 h2 h3 (e z u q)
theorem TreeX.sameC {H H' : Hp} {x a b c : Addr} {t : TD} (h : TreeX K H x t a b c) (e : SameX c H H') : TreeX K H' x t a b c := fun H2 g => h H2 fun z u h1 h2 h3 q => g z u h1 h2 h3 (e z u h3 q)
theorem TreeX.now {H : Hp} {x a b c : Addr} {t : TD} (h : TreeX K H x t a b c) : TreeAt K H x t := h H fun _ _ _ _ _ q => q
theorem nmP {da : Addr} {h : Str} {db ds : Addr} : (tF4 da h db ds).lookup ("posts" : Str) = none := f4n da h db ds (by decide +kernel) (by decide +kernel) (by decide +kernel) (by decide +kernel)
theorem nmH {da : Addr} {h : Str} {db ds : Addr} : (tF4 da h db ds).lookup ("head" : Str) = none := f4n da h db ds (by decide +kernel) (by decide +kernel) (by decide +kernel) (by decide +kernel)
theorem nmA {da : Addr} {h : Str} {db ds : Addr} : (tF4 da h db ds).lookup ("above" : Str) = none := f4n da h db ds (by decide +kernel) (by decide +kernel) (by decide +kernel) (by decide +kernel)
theorem nmBe {da : Addr} {h : Str} {db ds : Addr} : (tF4 da h db ds).lookup ("below" : Str) = none := f4n da h db ds (by decide +kernel) (by decide +kernel) (by decide +kernel) (by decide +kernel)
theorem nmBr {da : Addr} {h : Str} {db ds : Addr} : (tF4 da h db ds).lookup ("branch" : Str) = none := f4n da h db ds (by decide +kernel) (by decide +kernel) (by decide +kernel) (by decide +kernel)
theorem nmS {da : Addr} {h : Str} {db ds : Addr} : (tF4 da h db ds).lookup ("size" : Str) = none := f4n da h db ds (by decide +kernel) (by decide +kernel) (by decide +kernel) (by decide +kernel)
/-- the instance at a Tree's place -/
theorem TreeAt.ins {H : Hp} {x : Addr} {t : TD} (h : TreeAt K H x t) : ∃ dx da db ds, H x = some (.ins (CT K) dx (tF4 da (headOf t) db ds)) := by
  obtain ⟨dx, da, db, ds, f, L, F⟩ := h
  exact ⟨_, _, _, _, F.ob⟩
def spLawRight : Sp := fun vs H Q _ => ∃ (s d : Addr) (t : TD) (n : Nat), vs = [.ref s, .ref d] ∧ Src H s ∧ d ≠ s ∧ H d = some (.dK (kvT t)) ∧ Drawn t n ∧ ∀ H', SameX s H H' → Q (.bl true) H'
theorem sc_law_right : FnScope ["source", "above", "given", "tree", "branches", "turn", "told", "post", "below", "branch", "twin", "other", "odd"] ["source", "above"] (defScope s_law_right) := ⟨rfl, rfl, rfl, by decide +kernel, rfl, by decide +kernel, by decide +kernel⟩
theorem o_law_right (T : Txt K mg) : Def P w K mg base 5 "_law_right" ["source", "above"] spLawRight := by
  refine Def.of T.f_law_right T.at_law_right sc_law_right (fun _ _ _ _ _ _ us hl => match us, hl with | [_, _], _ => rfl) (fun vs H Q E h => ?_) (fun cdv A outer s H vs Q E hr h => ?_)
  · obtain ⟨d, t, _, _, rfl, _⟩ := h
    rfl
  · obtain ⟨src, d, t, n, rfl, hs, nds, hd, dr, q⟩ := h
    have hu := hu_of hr
    have X := clsT T
    refine ⟨_, PSs.nox (pss_cons (ps_set (i := 2) sc_law_right.nd rfl (Or.inl rfl) (pe_callTy (call_dictD) (by rfl) T.n_dict (by decide +kernel) (pa_cons (pv 1) pa_nil)))
      (pss_cons (ps_set (i := 3) sc_law_right.nd rfl (Or.inr rfl) (pe_makeO (o_Tree T) (hr.mono (by decide)) rfl passL (pa_cons (pv 2) pa_nil)))
      (pss_cons (ps_if (pt_cmpR (op_neD2 hr.units0) (pv 2) (pv 1) (nomark _)) (pss_one (ps_ret pe_bl)) pss_nil)
      (pss_cons (ps_expr (pe_dclear (pv 2)))
      (pss_cons (ps_set (i := 4) sc_law_right.nd rfl (Or.inl rfl) (pe_callO (o_law_branches T) (hr.mono (by decide)) rfl passL (pa_cons (pv 1) pa_nil)))
      (pss_cons (ps_for PassesOwn.never rfl (pi_range1 (by rfl) T.n_range (pa_cons pe_int pa_nil)) (pg_name (i := 5) sc_law_right.nd rfl (Or.inl rfl)) (pss_cons (ps_set (i := 6) sc_law_right.nd rfl (Or.inl rfl) (pe_methO0 (pv 3) (m_posts T) (hr.mono (by decide)) passL))
      (pss_cons (ps_if (PW.pt (pw_or (pt_cmpR op_ne (pe_methO0 (pv 3) (m_head T) (hr.mono (by decide)) passL) (pe_callO (o_law_head T) (hr.mono (by decide)) rfl passL (pa_cons (pv 1) pa_nil)) (nomark _)) (pw_or1 (pt_cmpR (op_neLS hr.units) (pv 6) (pe_callB (call_sortedDA rfl) (by rfl) T.n_sorted (by decide +kernel) (pa_cons (pv 1) pa_nil)) (nomark _))))) (pss_one (ps_ret pe_bl)) pss_nil)
      (pss_cons (ps_expr (pe_bm0 PySem.F.plainAttrs_list PySem.F.slot_list_reverse PySem.F.type_list_reverse mt_reverse (pv 6)))
      (pss_cons (ps_expr (pe_bm PySem.F.plainAttrs_list PySem.F.slot_list_append PySem.F.type_list_append mt_append (pv 6) (pa_cons pe_str pa_nil)))
      (pss_one (ps_lockR (ps_for PassesOwn.never rfl (pi_keys (pv 1)) (pg_name (i := 7) sc_law_right.nd rfl (Or.inl rfl)) (pss_cons (ps_par (i := 8) (j := 9) (by rfl) sc_law_right.nd rfl rfl (by decide) rfl rfl (pa_cons (pe_methO (pv 3) (m_below T) (hr.mono (by decide)) passL (pa_cons (pv 7) pa_nil)) (pa_cons (pe_methO (pv 3) (m_branch T) (hr.mono (by decide)) passL (pa_cons (pv 7) pa_nil)) pa_nil)) (by rfl))
      (pss_cons (ps_if (PW.pt (pw_or (pt_cmpR op_ne (pe_methO (pv 3) (m_above T) (hr.mono (by decide)) passL (pa_cons (pv 7) pa_nil)) (pe_dget hu (pv 1) (pv 7) (fun _ _ => rfl)) (nomark _)) (pw_or (pt_cmpR (op_neLS hr.units) (pv 8) (pe_callO (o_law_under T) (hr.mono (by decide)) rfl passL (pa_cons (pv 1) (pa_cons (pv 7) pa_nil))) (nomark _)) (pw_or1 (pt_cmpR (op_neLS hr.units) (pv 9) (pe_dget hu (pv 4) (pv 7) (fun _ _ => rfl)) (nomark _)))))) (pss_one (ps_ret pe_bl)) pss_nil)
      (pss_cons (ps_if (PW.pt (pw_or (pt_cmpR op_ne (pe_methO (pv 3) (m_size T) (hr.mono (by decide)) passL (pa_cons (pv 7) pa_nil)) (pe_callB (call_len_seq) (by rfl) T.n_len (by decide +kernel) (pa_cons (pv 9) pa_nil)) (nomark _)) (pw_or1 (pt_val (pe_callB (call_isi) (by rfl) T.n_isinstance (by decide +kernel) (pa_cons (pe_methO (pv 3) (m_size T) (hr.mono (by decide)) passL (pa_cons (pv 7) pa_nil)) (pa_cons (pe_bty (n := "bool") T.n_bool (by decide +kernel)) pa_nil))))))) (pss_one (ps_ret pe_bl)) pss_nil)
      (pss_cons (ps_expr (pe_bm PySem.F.plainAttrs_list PySem.F.slot_list_append PySem.F.type_list_append mt_append (pv 8) (pa_cons pe_str pa_nil)))
      (pss_one (ps_expr (pe_bm0 PySem.F.plainAttrs_list PySem.F.slot_list_clear PySem.F.type_list_clear mt_clear (pv 9))))))))))))))))
      (pss_cons (ps_set (i := 10) sc_law_right.nd rfl (Or.inl rfl) (pe_makeO (o_Tree T) (hr.mono (by decide)) rfl passL (pa_cons (pe_callTy (call_dictP rfl) (by rfl) T.n_dict (by decide +kernel) (pa_cons (pe_slRev (LiI.pe_listItems rfl (pv 1) rfl T.n_list (by decide +kernel)) (pe_un un_neg pe_int)) pa_nil)) pa_nil)))
      (pss_cons (ps_if (PW.pt (pw_or (pt_not (pt_cmpR (op_eqO (m_eq__ T) (hr.mono (by decide)) passL) (pv 3) (pv 10) (nomark _))) (pw_or1 (pt_not (pt_cmpR (op_eqO (m_eq__ T) (hr.mono (by decide)) passL) (pv 10) (pv 3) (nomark _)))))) (pss_one (ps_ret pe_bl)) pss_nil)
      (pss_cons (ps_if (pt_cmpR (op_neLS hr.units) (pe_lc (own := [("odd", 12)]) (g := gName 12)  rfl sc_law_right.nd (pi_list (pe_lst (pa_cons (pv 1) (pa_cons pe_non (pa_cons (pe_callB (call_sortedDA rfl) (by rfl) T.n_sorted (by decide +kernel) (pa_cons (pv 1) pa_nil)) (pa_cons pe_str pa_nil)))))) (blkOk_by (N := ["source", "above", "given", "tree", "branches", "turn", "told", "post", "below", "branch", "twin", "other", "odd"]) (sc := defScope s_law_right) (by decide +kernel)) (fun _ _ _ _ _ => (pg_name (i := 12) sc_law_right.nd rfl (Or.inl rfl))) (fun _ _ _ _ _ => (pts_one (pt_cmpR (op_eqO (m_eq__ T) (hr.mono (by decide)) passL : OpR _ _ (rEqOwn K (CT K) (spEqT K) E0)) (pv 3) (pv 12) (nomark _)))) (fun _ _ _ _ _ => (pv 12))) (pe_lst pa_nil) (nomark _)) (pss_one (ps_ret pe_bl)) pss_nil)
      (pss_cons (ps_for PassesOwn.never rfl (pi_list (pe_callO (o_law_others T) (hr.mono (by decide)) rfl passL (pa_cons (pv 0) (pa_cons (pv 1) pa_nil)))) (pg_name (i := 11) sc_law_right.nd rfl (Or.inl rfl)) (pss_one (ps_if (PW.pt (pw_or (pt_cmpR (op_eqO (m_eq__ T) (hr.mono (by decide)) passL) (pe_makeO (o_Tree T) (hr.mono (by decide)) rfl passL (pa_cons (pv 11) pa_nil)) (pv 3) (nomark _)) (pw_or (pt_cmpR (op_eqO (m_eq__ T) (hr.mono (by decide)) passL) (pv 3) (pe_makeO (o_Tree T) (hr.mono (by decide)) rfl passL (pa_cons (pv 11) pa_nil)) (nomark _)) (pw_or1 (pt_not (pt_cmpR (op_eqO (m_eq__ T) (hr.mono (by decide)) passL) (pe_makeO (o_Tree T) (hr.mono (by decide)) rfl passL (pa_cons (pv 11) pa_nil)) (pe_makeO (o_Tree T) (hr.mono (by decide)) rfl passL (pa_cons (pe_callTy (call_dictD) (by rfl) T.n_dict (by decide +kernel) (pa_cons (pv 11) pa_nil)) pa_nil)) (nomark _))))))) (pss_one (ps_ret pe_bl)) pss_nil)))
      (pss_one (ps_ret pe_bl)))))))))))), ?_⟩
    have tr := dr.tr
    have ok := dr.nmTD
    have hz := ok.len
    have klen : (keys t).length ≤ 200 := by rw [keys_len]; exact hz
    have hdn : H d ≠ none := by rw [hd]; intro z; cases z
    have hsn : H src ≠ none := by
      obtain ⟨a, b, c, h⟩ := hs
      rw [h]; intro z; cases z
    -- given = dict(above)
    refine ⟨_, rfl, d, kvT t, rfl, .inl hd, fun G nG => ?_⟩
    have e1 : Same H (upd H G (.dK (kvT t))) := Same.upd' nG
    have g1 : (upd H G (.dK (kvT t))) G = some (.dK (kvT t)) := upd_same
    generalize upd H G (.dK (kvT t)) = H1 at e1 g1 ⊢
    -- tree = Tree(given)
    refine ⟨_, rfl, mk_tree (.inl g1) ok tr fun x H2 nx e2 tk => ?_⟩
    have tx2 : TreeX K H2 x t d G src := TreeX.of (by rw [e1 _ _ hd]; intro z; cases z) (by rw [g1]; intro z; cases z) (fun z => hsn (e1.free z)) tk
    have g2 := e2 _ _ g1
    have e12 := e1.trans e2
    -- if given != above
    refine ⟨_, rfl, _, rfl, G, d, kvT t, kvT t, rfl, rfl, .inl g2, .inl (e12 _ _ hd), flat_kvT t, flat_kvT t, _, rfl, ?_⟩
    show (if (!eqKV (kvT t) (kvT t)) = true then _ else _)
    rw [eqKV_self tr.nd]
    refine iteF ?_
    -- given.clear()
    refine ⟨_, rfl, .inr (.inr (.inl ⟨rfl, .inl ⟨_, g2⟩⟩)), G, kvT t, rfl, rfl, g2, ?_⟩
    have e3 : Same H (upd H2 G (.dK [])) := Same.upd e12 nG
    have tx3 : TreeX K (upd H2 G (.dK [])) x t d G src := fun Z g => tx2 Z fun z u h1 h2 h3 hz => g z u h1 h2 h3 (by rw [upd_ne h2]; exact hz)
    generalize upd H2 G (.dK []) = H3 at e3 tx3 ⊢
    -- branches = _law_branches(above)
    refine ⟨_, rfl, d, t, rfl, .inl (e3 _ _ hd), ok, tr, fun B f H4 e4 nB nf dl4 => ?_⟩
    have nBd : B ≠ d := (ne_of_none (e3 _ _ hd) nB).symm
    have nfd : ∀ k ∈ keys t, f k ≠ d := fun k hk => (ne_of_none (e3 _ _ hd) (nf k hk)).symm
    have hd4 := e4 _ _ (e3 _ _ hd)
    have tx4 := tx3.same e4
    have eH4 := e3.trans e4
    -- for turn in range(2)
    refine ⟨2, rfl, by decide, by decide, ?_⟩
    refine for_range (lo := 0) (n := 2) (fun _ σ H' => ∃ a b c e g, σ = [some (.ref src), some (.ref d), some (.ref G), some (.ref x), some (.ref B), a, b, c, e, g, none, none, none] ∧ Same H4 H') ⟨_, _, _, _, _, rfl, Same.refl _⟩ ?_ ?_
    · rintro i σ H5 hi ⟨a, b, c, e, g, rfl, e5⟩
      have tx5 := tx4.same e5
      have hd5 := e5 _ _ hd4
      -- told = tree.posts()
      obtain ⟨dx, da, db, ds, ob⟩ := tx5.now.ins
      refine ⟨_, rfl, x, dx, _, rfl, ob, nmP, x, t, rfl, tx5.now, fun o no => ?_⟩
      have e6 : Same H4 (upd H5 o (.lst ((srt (keys t)).map V.str))) := Same.upd2 e5 no
      have o6 : (upd H5 o (.lst ((srt (keys t)).map V.str))) o = some (.lst ((srt (keys t)).map V.str)) := upd_same
      generalize upd H5 o (.lst ((srt (keys t)).map V.str)) = H6 at e6 o6 ⊢
      have tx6 := tx4.same e6
      obtain ⟨dx6, da6, db6, ds6, ob6⟩ := tx6.now.ins
      have no4 : H4 o = none := e5.free no
      -- tree.head() != _law_head(above)
      refine ⟨_, rfl, x, dx6, _, rfl, ob6, nmH, x, t, rfl, tx6.now, _, rfl, d, t, rfl, .inl (e6 _ _ hd4), ok, tr, fun H7 e7 => ?_⟩
      have e47 := e6.trans e7
      refine ⟨rfl, _, rfl, ?_⟩
      show (if (!decide (V.str (headOf t) = V.str (headOf t))) = true then _ else _)
      rw [decide_eq_true rfl]
      refine iteF ?_
      -- told != sorted(above)
      refine ⟨_, rfl, _, rfl, d, kvT t, keys t, rfl, .inl (e47 _ _ hd4), kvT_keys t, fun s ns => ?_⟩
      have o7 := e7 _ _ o6
      have ok1 : ∀ z ∈ srt (keys t), okS z = true := fun z hz => (dr.nm z (mem_srt.mp hz)).okS
      have o8 : (upd H7 s (.lst ((srt (keys t)).map V.str))) o = some (.lst ((srt (keys t)).map V.str)) := by rw [upd_ne (ne_of_none o7 ns)]; exact o7
      have s8 : (upd H7 s (.lst ((srt (keys t)).map V.str))) s = some (.lst ((srt (keys t)).map V.str)) := upd_same
      have e8 : Same H4 (upd H7 s (.lst ((srt (keys t)).map V.str))) := Same.upd2 e47 ns
      generalize upd H7 s (.lst ((srt (keys t)).map V.str)) = H8 at e8 o8 s8 ⊢
      refine ⟨o, s, srt (keys t), srt (keys t), rfl, rfl, SqL.of o8, SqL.of s8, ok1, ok1, _, rfl, ?_⟩
      show (if (!decide (srt (keys t) = srt (keys t))) = true then _ else _)
      rw [decide_eq_true rfl]
      refine iteF ?_
      -- told.reverse(); told.append('zzzzzzzz')
      refine ⟨_, rfl, .inl ⟨rfl, _, SqL.of o8⟩, o, _, rfl, rfl, o8, ?_⟩
      refine ⟨_, rfl, .inl ⟨rfl, _, SqL.of upd_same⟩, o, _, _, rfl, rfl, upd_same, ?_, ?_⟩
      · rw [List.length_reverse, List.length_map, srt_len]
        exact small1000 (by omega)
      have e9 : Same H4 (upd (upd H8 o (.lst ((srt (keys t)).map V.str).reverse)) o (.lst (((srt (keys t)).map V.str).reverse ++ [.str ZZ]))) := Same.upd (Same.upd e8 no4) no4
      show (_ ∨ _)
      generalize upd (upd H8 o (.lst ((srt (keys t)).map V.str).reverse)) o (.lst (((srt (keys t)).map V.str).reverse ++ [.str ZZ])) = H9 at e9 ⊢
      -- for post in above
      refine rd_lockS (.inl (e9 _ _ hd4)) trivial fun H0 od D' h0 hb nx rt => ?_
      refine ⟨_, rfl, d, od, rfl, .inl ⟨kvT t, h0, ?_⟩⟩
      have tx9 := tx4.same e9
      have tx0 : TreeX K H0 x t d G src := fun Z g => tx9 Z fun z u h1 h2 h3 hz => g z u h1 h2 h3 (by rw [hb z h1]; exact hz)
      have dl9 := dl4.same e9
      have dl0 : DL H0 B (keys t) f (branch t) := ⟨by rw [hb _ nBd]; exact dl9.dk, fun k hk => by rw [hb _ (nfd k hk)]; exact dl9.at_ k hk, dl9.inj⟩
      refine for_it walk_keys (fun _ σ H' => ∃ a b c, σ = [some (.ref src), some (.ref d), some (.ref G), some (.ref x), some (.ref B), some (.int ((0 : Int) + (i : Int))), some (.ref o), a, b, c, none, none, none] ∧ Same H0 H') ⟨_, _, _, rfl, Same.refl _⟩ (fun i σ H' _ ⟨_, _, _, _, e⟩ => e _ _ h0) ?_ ?_
      · rintro i2 k2 σ Ha Hb hi2 ⟨a, b, c, rfl, ea⟩ ⟨rfl, k, v, hk, rfl⟩
        obtain ⟨p, hp, rfl⟩ := keys_get hk
        have hpk : p ∈ keys t := List.mem_of_getElem? hp
        obtain ⟨av, hav⟩ := up_ex hpk
        have hv : valV (kvT t) (Sum.inr p) = some (ov av) := by rw [val_kvT, hav]; rfl
        have hbr : valV (gkv (keys t) fun k => V.ref (f k)) (Sum.inr p) = some (.ref (f p)) := val_gkv_in (g := fun k => V.ref (f k)) hpk
        have rd : ∀ {Z}, Same H0 Z → Rd Z d (.dK (kvT t)) := fun e => .inr ⟨od, e _ _ h0⟩
        have tx : ∀ {Z}, Same H0 Z → TreeAt K Z x t := fun e => (tx0.same e).now
        -- below, branch = tree.below(post), tree.branch(post)
        obtain ⟨y1, y2, y3, y4, oba⟩ := (tx ea).ins
        refine ⟨_, rfl, x, y1, _, rfl, oba, nmBe, _, rfl, x, p, t, rfl, tx ea, hpk, fun l nl => ?_⟩
        have ea1 : Same H0 (upd Hb l (.lst ((undr t p).map V.str))) := Same.upd2 ea nl
        have l1 : (upd Hb l (.lst ((undr t p).map V.str))) l = some (.lst ((undr t p).map V.str)) := upd_same
        have nl0 := ea.free nl
        generalize upd Hb l (.lst ((undr t p).map V.str)) = Hc at ea1 l1 ⊢
        obtain ⟨z1, z2, z3, z4, obc⟩ := (tx ea1).ins
        refine ⟨_, rfl, x, z1, _, rfl, obc, nmBr, _, rfl, x, p, t, rfl, tx ea1, hpk, fun m Hd ed nm hm => ⟨_, _, rfl, ?_⟩⟩
        have nm0 := ea1.free nm
        have ea2 := ea1.trans ed
        have l2 := ed _ _ l1
        -- tree.above(post) != above[post]
        obtain ⟨w1, w2, w3, w4, obd⟩ := (tx ea2).ins
        refine ⟨_, rfl, x, w1, _, rfl, obd, nmA, _, rfl, x, p, t, av, rfl, tx ea2, hav, _, rfl, _, rfl, d, _, rfl, dget_v (rd ea2) hv, scal_ov av, _, rfl, ?_⟩
        show (if (!decide (ov av = ov av)) = true then _ else _)
        rw [decide_eq_true rfl]
        refine iteF ?_
        -- below != _law_under(above, post)
        refine ⟨_, rfl, _, rfl, _, rfl, d, t, p, rfl, rd ea2, ok, fun u He ee nu hu3 => ?_⟩
        have ea3 := ea2.trans ee
        have okU : ∀ z ∈ undr t p, okS z = true := fun z hz => (dr.nm z (up_key (mem_undr.mp hz))).okS
        have okB : ∀ z ∈ branch t p, okS z = true := fun z hz => (dr.nm z (line_ex (mem_branch.mp hz)).key).okS
        refine ⟨l, u, undr t p, undr t p, rfl, rfl, SqL.of (ee _ _ l2), SqL.of hu3, okU, okU, _, rfl, ?_⟩
        show (if (!decide (undr t p = undr t p)) = true then _ else _)
        rw [decide_eq_true rfl]
        refine iteF ?_
        -- branch != branches[post]
        have m3 := ee _ _ hm
        have l3 := ee _ _ l2
        refine ⟨_, rfl, _, rfl, _, rfl, B, _, rfl, dget_v (.inl (ea3 _ _ dl0.dk)) hbr, m, f p, branch t p, branch t p, rfl, rfl, SqL.of m3, SqL.of (ea3 _ _ (dl0.at_ p hpk)), okB, okB, _, rfl, ?_⟩
        show (if (!decide (branch t p = branch t p)) = true then _ else _)
        rw [decide_eq_true rfl]
        refine iteF ?_
        -- tree.size(post) != len(branch)
        obtain ⟨v1, v2, v3, v4, obe⟩ := (tx ea3).ins
        refine ⟨_, rfl, x, v1, _, rfl, obe, nmS, _, rfl, x, p, t, rfl, tx ea3, hpk, _, rfl, m, _, rfl, .inl (SqL.of m3), rfl, _, rfl, ?_⟩
        show (if (!decide (V.int (sz t p : Int) = V.int (((branch t p).map V.str).length : Int))) = true then _ else _)
        rw [decide_eq_true (by rw [List.length_map]; rfl)]
        refine iteF ?_
        refine ⟨_, rfl, x, v1, _, rfl, obe, nmS, _, rfl, x, p, t, rfl, tx ea3, hpk, _, _, _, _, false, rfl, .ty "bool", .base (.int _), kit_ty (by decide +kernel), _, rfl, ?_⟩
        refine iteF ?_
        -- below.append('zzzzzzzz'); branch.clear()
        refine ⟨_, rfl, .inl ⟨rfl, _, SqL.of l3⟩, l, _, _, rfl, rfl, l3, ?_, ?_⟩
        · rw [List.length_map]
          exact small1000 (by have := undr_len t p; omega)
        have lm : m ≠ l := (ne_of_none l1 nm).symm
        have m4 : (upd He l (.lst ((undr t p).map V.str ++ [.str ZZ]))) m = some (.lst ((branch t p).map V.str)) := by rw [upd_ne lm]; exact m3
        refine ⟨_, rfl, .inl ⟨rfl, _, SqL.of m4⟩, m, _, rfl, rfl, m4, ?_⟩
        exact ⟨_, _, _, rfl, Same.upd (Same.upd ea3 nl0) nm0⟩
      · rintro σ Hz ⟨a, b, c, rfl, ez⟩
        refine nx _ _ (ez _ _ h0) fun H2 h2 h3 => ?_
        exact ⟨_, _, _, _, _, rfl, e9.trans (same_unlock hb ez h2 h3)⟩
    · rintro σ H5 ⟨a, b, c, e, g, rfl, e5⟩
      have hd5 := e5 _ _ hd4
      have tx5 := tx4.same e5
      -- twin = Tree(dict(list(above.items())[::-1]))
      refine ⟨_, rfl, d, kvT t, rfl, hd5, fun H6 o ts e6 no nts nin ho pr => ⟨_, rfl, rfl, o, _, rfl, SqL.of ho, fun o2 no2 => ?_⟩⟩
      have e6' : Same H5 H6 := e6
      have e7 : Same H6 (upd H6 o2 (.lst (ts.map V.ref).reverse)) := Same.upd' no2
      have o7 : (upd H6 o2 (.lst (ts.map V.ref).reverse)) o2 = some (.lst (ts.map V.ref).reverse) := upd_same
      generalize upd H6 o2 (.lst (ts.map V.ref).reverse) = H7 at e7 o7 ⊢
      have erev : (kvT t).reverse = kvT t.reverse := List.map_reverse.symm
      have prm : t.Perm t.reverse := (List.reverse_perm t).symm
      have trR := tr.perm prm
      have okR := ok.perm prm trR.nd
      refine ⟨o2, ts.reverse, (kvT t).reverse, rfl, SqL.of (by rw [o7, List.map_reverse]), paired_rev (paired_imp (fun a b h => SqT.of (e7 _ _ h)) pr), fun D nD => ?_⟩
      rw [erev, merge_nil (by rw [kvT_keys]; exact inr_nodup trR.nd)]
      have e8 : Same H7 (upd H7 D (.dK (kvT t.reverse))) := Same.upd' nD
      have d8 : (upd H7 D (.dK (kvT t.reverse))) D = some (.dK (kvT t.reverse)) := upd_same
      generalize upd H7 D (.dK (kvT t.reverse)) = H8 at e8 d8 ⊢
      refine mk_tree (.inl d8) okR trR fun y H9 ny e9 ty => ?_
      have e59 : Same H5 H9 := ((e6'.trans e7).trans e8).trans e9
      have tx9 := tx5.same e59
      have ty9 : TreeAt K H9 y t.reverse := ty H9 fun _ _ => rfl
      have hd9 := e59 _ _ hd5
      -- if not tree == twin or not twin == tree
      obtain ⟨x1, x2, x3, x4, obx⟩ := tx9.now.ins
      obtain ⟨y1, y2, y3, y4, oby⟩ := ty9.ins
      refine ⟨_, rfl, _, rfl, x, x1, _, .ref (CT K), rfl, obx, X.ty T.cl_Tree oby, X.first, x, t, _, rfl, tx9.now, .inl ⟨y, t.reverse, rfl, ty9, _, rfl, _, rfl, ?_⟩⟩
      show (if (!eqKV (kvT t) (kvT t.reverse)) = true then _ else _)
      rw [eqKV_perm tr.nd prm]
      refine iteF ?_
      refine ⟨_, rfl, _, rfl, y, y1, _, .ref (CT K), rfl, oby, X.ty T.cl_Tree obx, X.first, y, t.reverse, _, rfl, ty9, .inl ⟨x, t, rfl, tx9.now, _, rfl, _, rfl, ?_⟩⟩
      show (if (!eqKV (kvT t.reverse) (kvT t)) = true then _ else _)
      rw [eqKV_perm trR.nd prm.symm]
      refine iteF ?_
      -- [odd for odd in [above, None, sorted(above), 'a'] if tree == odd] != []
      refine ⟨_, rfl, _, rfl, d, kvT t, keys t, rfl, .inl hd9, kvT_keys t, fun s ns => ?_⟩
      have ea : Same H9 (upd H9 s (.lst ((srt (keys t)).map V.str))) := Same.upd' ns
      have sa : (upd H9 s (.lst ((srt (keys t)).map V.str))) s = some (.lst ((srt (keys t)).map V.str)) := upd_same
      generalize upd H9 s (.lst ((srt (keys t)).map V.str)) = Ha at ea sa ⊢
      refine ⟨(by show 4 ≤ sizeLine; decide), fun L nL => ⟨L, rfl, ⟨_, SqL.of upd_same⟩, fun O nO => ?_⟩⟩
      have eb : Same Ha (upd Ha L (.lst [.ref d, .non, .ref s, .str (Str.ofString "a")])) := Same.upd' nL
      have Lb : (upd Ha L (.lst [.ref d, .non, .ref s, .str (Str.ofString "a")])) L = some (.lst [.ref d, .non, .ref s, .str (Str.ofString "a")]) := upd_same
      generalize upd Ha L (.lst [.ref d, .non, .ref s, .str (Str.ofString "a")]) = Hb at eb Lb nO ⊢
      have e9b := ea.trans eb
      refine lc_it walk_list (fun _ H' => Same Hb H' ∧ H' O = some (.lst [])) ⟨Same.upd' nO, upd_same⟩ (fun i H' _ ⟨e', _⟩ => SqL.of (e' _ _ Lb)) ?_ ?_
      · rintro i v H7 H8 hi ⟨e7, o7⟩ ⟨rfl, hx⟩
        have tyv : ∃ ty ∈ builtTys, TyX K H8 v (.type ty) := by
          have hm : v ∈ [V.ref d, .non, .ref s, .str (Str.ofString "a")] := List.mem_of_getElem? hx
          simp only [List.mem_cons, List.not_mem_nil, or_false] at hm
          rcases hm with rfl | rfl | rfl | rfl
          · exact ⟨"dict", by decide, .base (.dK (e7 _ _ (e9b _ _ hd9)))⟩
          · exact ⟨"NoneType", by decide, .base .non⟩
          · exact ⟨"list", by decide, .base (.lst (e7 _ _ (eb _ _ sa)))⟩
          · exact ⟨"str", by decide, .base (.str _)⟩
        obtain ⟨ty, hty, tyv⟩ := tyv
        have tx8 := tx9.same (e9b.trans e7)
        obtain ⟨z1, z2, z3, z4, obz⟩ := tx8.now.ins
        refine ⟨rfl, ?_⟩
        exact ⟨_, rfl, _, rfl, x, z1, _, .type ty, rfl, obz, tyv, (X.tys ty hty).1, x, t, _, rfl, tx8.now, .inr ⟨ty, hty, tyv, _, rfl, _, rfl, iteF ⟨e7, o7⟩⟩⟩
      rintro Hc ⟨ec, oc⟩
      refine ⟨(by show 0 ≤ sizeLine; decide), fun N nN => ?_⟩
      have ed : Same Hc (upd Hc N (.lst [])) := Same.upd' nN
      refine ⟨O, N, [], [], rfl, rfl, SqL.of (ed _ _ oc), SqL.of upd_same, (by intro z hz; cases hz), (by intro z hz; cases hz), _, rfl, iteF ?_⟩
      generalize upd Hc N (.lst []) = Hd at ed ⊢
      have e9d : Same H9 Hd := (e9b.trans ec).trans ed
      have eHd : Same H Hd := ((eH4.trans e5).trans e59).trans e9d
      have txd := tx9.same e9d
      -- for other in _law_others(source, above)
      refine ⟨_, rfl, _, rfl, src, d, t, n, rfl, hs.same eHd, .inl (e9d _ _ hd9), dr, fun os Os He xe se nOs hOs oth l4 => ?_⟩
      have txe := txd.sameC xe
      refine ⟨Os, rfl, ⟨_, SqL.of hOs⟩, ?_⟩
      refine for_it walk_list (fun _ σ H' => ∃ a b c e g z, σ = [some (.ref src), some (.ref d), some (.ref G), some (.ref x), some (.ref B), a, b, c, e, g, some (.ref y), z, none] ∧ Same He H') ⟨_, _, _, _, _, _, rfl, Same.refl _⟩ (fun i σ H' _ ⟨_, _, _, _, _, _, _, e⟩ => SqL.of (e _ _ hOs)) ?_ ?_
      · rintro i v σ Hf Hg hi ⟨a, b, c, e, g, z, rfl, ef⟩ ⟨rfl, hx⟩
        obtain ⟨od, hod, rfl⟩ : ∃ od ∈ os, v = .ref od := by
          have hm := List.mem_of_getElem? hx
          obtain ⟨od, h1, h2⟩ := List.mem_map.mp hm
          exact ⟨od, h1, h2.symm⟩
        obtain ⟨t2, _, h2, ho⟩ := oth od hod
        have h2g := ef _ _ h2
        have tx : ∀ {Z}, Same Hg Z → TreeAt K Z x t := fun e => ((txe.same ef).same e).now
        -- Tree(other) == tree
        refine ⟨_, rfl, mk_tree (.inl h2g) ho.nm ho.tr fun p1 Hh np1 eh tk1 => ⟨_, rfl, ?_⟩⟩
        have t1 : TreeAt K Hh p1 t2 := tk1 Hh fun _ _ => rfl
        obtain ⟨q1, q2, q3, q4, obp⟩ := t1.ins
        obtain ⟨u1, u2, u3, u4, obu⟩ := (tx eh).ins
        refine ⟨p1, q1, _, .ref (CT K), rfl, obp, X.ty T.cl_Tree obu, X.first, p1, t2, _, rfl, t1, .inl ⟨x, t, rfl, tx eh, _, rfl, _, rfl, ?_⟩⟩
        rw [ho.ne]
        refine iteF ?_
        -- tree == Tree(other)
        refine ⟨_, rfl, _, rfl, mk_tree (.inl (eh _ _ h2g)) ho.nm ho.tr fun p2 Hi np2 ei tk2 => ?_⟩
        have ehi := eh.trans ei
        have t2' : TreeAt K Hi p2 t2 := tk2 Hi fun _ _ => rfl
        obtain ⟨r1, r2, r3, r4, obr⟩ := t2'.ins
        obtain ⟨k1, k2, k3, k4, obk⟩ := (tx ehi).ins
        refine ⟨x, k1, _, .ref (CT K), rfl, obk, X.ty T.cl_Tree obr, X.first, x, t, _, rfl, tx ehi, .inl ⟨p2, t2, rfl, t2', _, rfl, _, rfl, ?_⟩⟩
        rw [ho.ne']
        refine iteF ?_
        -- not Tree(other) == Tree(dict(other))
        refine ⟨_, rfl, mk_tree (.inl (ehi _ _ h2g)) ho.nm ho.tr fun p3 Hj np3 ej tk3 => ⟨_, rfl, od, kvT t2, rfl, .inl (ej _ _ (ehi _ _ h2g)), fun p4 np4 => ?_⟩⟩
        have t3 : TreeAt K Hj p3 t2 := tk3 Hj fun _ _ => rfl
        have ek : Same Hj (upd Hj p4 (.dK (kvT t2))) := Same.upd' np4
        refine mk_tree (.inl upd_same) ho.nm ho.tr fun p5 Hk np5 el tk5 => ?_
        have t5 : TreeAt K Hk p5 t2 := tk5 Hk fun _ _ => rfl
        have t3' := t3.same (ek.trans el)
        obtain ⟨m1, m2, m3, m4, obm⟩ := t3'.ins
        obtain ⟨n1, n2, n3, n4, obn⟩ := t5.ins
        refine ⟨p3, m1, _, .ref (CT K), rfl, obm, X.ty T.cl_Tree obn, X.first, p3, t2, _, rfl, t3', .inl ⟨p5, t2, rfl, t5, _, rfl, _, rfl, ?_⟩⟩
        show (if (!eqKV (kvT t2) (kvT t2)) = true then _ else _)
        rw [eqKV_self ho.tr.nd]
        refine iteF ?_
        exact ⟨_, _, _, _, _, _, rfl, ((ef.trans ehi).trans (ej.trans ek)).trans el⟩
      · rintro σ Hz ⟨a, b, c, e, g, z, rfl, ez⟩
        exact q _ (((SameX.of eHd).trans xe).trans (SameX.of ez))
end
end K01
namespace K01
open PySem PySem.Spec PyProof.Rows L2 SP
theorem sqL_same {K : PySem.W.Frag} {H H1 : Hp} {a : Addr} {xs : List V} (e : Same H H1) (h : SqL K H a xs) : SqL K H1 a xs := by
  rcases h with (h | ⟨o, h⟩) | h
  · exact .inl (.inl (e _ _ h))
  · exact .inl (.inr ⟨o, e _ _ h⟩)
  · exact .inr h
section
variable {P : Program} {w : World} {K : PySem.W.Frag} {mg : Str → Option Value} {base : Heap}
def spLaw (K : PySem.W.Frag) : Sp := fun vs H Q _ => ∃ (a : Addr) (ns : List Int), vs = [.ref a] ∧ ns.length ≤ 63 ∧ SqL K H a (ns.map V.int) ∧ ∀ H', Q (.bl true) H'
theorem sc_law : FnScope ["script", "k", "source", "many"] ["script"] (defScope s_law) := ⟨rfl, rfl, rfl, by decide +kernel, rfl, by decide +kernel, by decide +kernel⟩
theorem len_law (vs : List V) (H : Hp) (Q : VK) (E : XK) (h : spLaw K vs H Q E) : vs.length = ["script"].length := by
  obtain ⟨a, ns, rfl, _⟩ := h
  rfl
theorem body_law (T : Txt K mg) : BodyOk P w K mg base ["script", "k", "source", "many"] "law" (defBody s_law) (defScope s_law) (He.ga K "law") 5 (spLaw K) := by
  refine fun cdv A outer s H vs Q E hr h => ?_
  · obtain ⟨a, ns, rfl, hl, hS, q⟩ := h
    have hu := hu_of hr
    refine ⟨_, PSs.nox (pss_cons (ps_for PassesOwn.never rfl (pi_range1 (by rfl) T.n_range (pa_cons (pe_callB (call_max2 rfl) (by rfl) T.n_max (by decide +kernel) (pa_cons pe_int (pa_cons (pe_callB (call_min2 rfl) (by rfl) T.n_min (by decide +kernel) (pa_cons pe_int (pa_cons (pe_callB (call_len_seq) (by rfl) T.n_len (by decide +kernel) (pa_cons (pv 0) pa_nil)) pa_nil))) pa_nil))) pa_nil)) (pg_name (i := 1) sc_law.nd rfl (Or.inl rfl)) (pss_cons (ps_set (i := 2) sc_law.nd rfl (Or.inl rfl) (pe_callO (o_law_source T) (hr.mono (by decide)) rfl passL (pa_cons (pv 0) (pa_cons (pv 1) pa_nil))))
      (pss_cons (ps_set (i := 3) sc_law.nd rfl (Or.inl rfl) (pe_op op_add pe_int (pe_ix ix_list (pe_lst (pa_cons (pe_callO (o_law_next T) (hr.mono (by decide)) rfl passL (pa_cons (pv 2) (pa_cons pe_int pa_nil))) (pa_cons (pe_callO (o_law_next T) (hr.mono (by decide)) rfl passL (pa_cons (pv 2) (pa_cons pe_int pa_nil))) pa_nil))) (pe_callTy (call_int1) (by rfl) T.n_int (by decide +kernel) (pa_cons (pe_cmpR op_eq (pe_callO (o_law_next T) (hr.mono (by decide)) rfl passL (pa_cons (pv 2) (pa_cons pe_int pa_nil))) pe_int (nomark _)) pa_nil)) (fun _ _ => rfl))))
      (pss_one (ps_if (pt_not (pt_val (pe_callO (o_law_right T) (hr.mono (by decide)) rfl passL (pa_cons (pv 2) (pa_cons (pe_callO (o_law_above T) (hr.mono (by decide)) rfl passL (pa_cons (pv 2) (pa_cons (pv 3) pa_nil))) pa_nil))))) (pss_one (ps_ret pe_bl)) pss_nil)))))
      (pss_one (ps_ret pe_bl))), ?_⟩
    have hl' : ((ns.map V.int).length : Int) ≤ 63 := by rw [List.length_map]; omega
    refine ⟨_, rfl, a, _, rfl, .inl hS, _, _, rfl, _, _, rfl, _, rfl, ?_, ?_, ?_⟩
    · split
      · split <;> omega
      · omega
    · split
      · split <;> omega
      · omega
    refine for_range (lo := 0) (fun _ σ H' => ∃ b c d, σ = [some (.ref a), b, c, d] ∧ Same H H') ⟨_, _, _, rfl, Same.refl _⟩ ?_ ?_
    · rintro i σ H1 hi ⟨b, c, d, rfl, e1⟩
      rw [Int.zero_add]
      -- source = _law_source(script, k)
      refine ⟨_, rfl, _, rfl, a, ns, i, rfl, sqL_same e1 hS, fun z p H2 e2 np hp => ?_⟩
      have s2 : Src H2 p := ⟨z, z, 0, hp⟩
      have x2 : SameX p H1 H2 := SameX.of e2
      -- many = 1 + [..][..]
      refine ⟨_, rfl, p, 12, rfl, s2, by decide, by decide, fun r1 H3 hr1 x3 s3 => ?_⟩
      refine ⟨_, rfl, p, 99, rfl, s3, by decide, by decide, fun r2 H4 hr2 x4 s4 => ?_⟩
      refine ⟨(by show 2 ≤ sizeLine; decide), fun L nL => ?_⟩
      have nLp : L ≠ p := s4.free nL
      have fL : H1 L = none := ((x2.trans x3).trans x4).free nLp nL
      have x5 : SameX p H1 (upd H4 L (.lst [.int (r1 : Int), .int (r2 : Int)])) := ((x2.trans x3).trans x4).updX fL
      have s5 : Src (upd H4 L (.lst [.int (r1 : Int), .int (r2 : Int)])) p := s4.upd nLp
      have l5 : (upd H4 L (.lst [.int (r1 : Int), .int (r2 : Int)])) L = some (.lst [.int (r1 : Int), .int (r2 : Int)]) := upd_same
      generalize upd H4 L (.lst [.int (r1 : Int), .int (r2 : Int)]) = H5 at x5 s5 l5 ⊢
      refine ⟨_, rfl, p, 4, rfl, s5, by decide, by decide, fun r3 H6 hr3 x6 s6 => ?_⟩
      have l6 := x6 _ _ nLp l5
      have x16 := x5.trans x6
      have pick : ∃ r : Nat, r < 99 ∧ atI [V.int (r1 : Int), V.int (r2 : Int)] (if decide (V.int (r3 : Int) = V.int 0) = true then 1 else 0) = some (V.int (r : Int)) := by
        by_cases c : V.int (r3 : Int) = V.int 0
        · rw [decide_eq_true c, if_pos rfl]
          exact ⟨r2, hr2, rfl⟩
        · rw [decide_eq_false c]
          exact ⟨r1, by omega, rfl⟩
      obtain ⟨r, hr0, pk⟩ := pick
      refine ⟨rfl, .inr ⟨_, rfl, L, _, _, .int (r : Int), rfl, rfl, SqL.of l6, pk, _, _, rfl, rfl, ?_⟩⟩
      -- if not _law_right(source, _law_above(source, many))
      refine ⟨_, rfl, _, rfl, _, rfl, p, 1 + r, (by rw [show ((1 + r : Nat) : Int) = (1 : Int) + (r : Int) by omega]; rfl), s6, by omega, by omega, fun t d7 H7 dr x7 s7 n7 nd hd => ?_⟩
      refine ⟨p, d7, t, 1 + r, rfl, s7, nd, hd, dr, fun H8 x8 => ⟨_, rfl, ?_⟩⟩
      refine iteF ?_
      exact ⟨_, _, _, rfl, e1.trans (SameX.same ((x16.trans x7).trans x8) np)⟩
    · rintro σ H1 ⟨b, c, d, rfl, e1⟩
      exact q _
end
/-- the law at a heap: what the walk asks -/
theorem facts {P : Program} {w : World} {K : PySem.W.Frag} {h : Heap} {mg : Str → Option Value} {f : Addr} (X : K.In h) (G : h.Ns mainGlobals mg) (hf : mg ("law" : Str) = some (.ref f)) (c : He.SaysD fa fn K) (e : exB K = true) :
    ∃ fd : FuncData, (∀ (s : Shared) (v : Value), BindsTo s fd ⟨[v], []⟩ [("script", v)]) ∧
      ∀ base : Heap, K.In base → base.Ns mainGlobals mg → FnOk P w K mg base (L2.CX P w) 6 f fd ["script"] (spLaw K) := by
  have T : Txt K mg := ⟨c, e, h, X, G⟩
  have e1 := hf.symm.trans T.at_law
  cases e1
  obtain ⟨fd, F⟩ := T.f_law
  exact ⟨fd, fun s v => FunD.bindsA (ps := ["script"]) F (fun _ _ _ _ _ _ us hl => match us, hl with | [_], _ => rfl) s [v] rfl, fun base Xb Gb => F.ok sc_law len_law (body_law T)⟩
end K01
namespace K01
open PySem PySem.Spec PyProof.Rows L2 SP
/-- the walk, where the defs' errors are told by the world's own words -/
theorem walkX {l : PySem.W.OpenLaw} {n k : Nat} {q : Program} {loose : List Str} {XP : (Str → Option Value) → Heap → Prop} {YP : World → Heap → Prop} {d : DefRec} {x : Str}
    (hn : l.most = some n) (hz : n ≤ sizeLine) (hdf : d.params.defaults = []) (hr : Room k callerA)
    (F : ∀ (w : World) (mg : Str → Option Value) (f : Addr) (h : Heap), YP w h → h.Ns mainGlobals mg → mg d.name = some (.ref f) → ∃ (K : PySem.W.Frag) (fd : FuncData) (sp : Sp), K.In h ∧
      (∀ (s : Shared) (u : Value), BindsTo s fd ⟨[u], []⟩ [(x, u)]) ∧ (∀ (H : Hp) (a : Addr) (ns : List Int), ns.length ≤ n → SqL K H a (ns.map V.int) → sp [.ref a] H (fun v _ => v = .bl true) fun _ _ _ => False) ∧
      ∀ base : Heap, K.In base → base.Ns mainGlobals mg → FnOk l.prog w K mg base (L2.CX l.prog w) k f fd [x] sp) :
    PySem.W.WalkO q loose XP YP l.row.toRowW d [] (fun f vs => PySem.call f vs) := by
  refine Att.attach_call hn hdf fun w s0 s1 mg mb f o pm cd doc a vs ns G Y ho hd hcd hmg hobj hints hlen hg => ?_
  obtain ⟨K, fd, sp, KX, hb, hsp, hF⟩ := F w mg f _ Y G.T.g hmg
  refine law_call KX G.T.g G.T.b G.T.builtins G.T.nolimit hg hobj hints (Nat.le_trans hlen hz) hr hF hb (fun H _ hS => hsp H a ns hlen hS) ?_
  rintro H e s' ⟨_, _, _, _, _, _, _, _, _, _, _, _, z⟩
  exact z
end K01
open PySem PySem.W PySem.Calls PyProof.Rows
theorem PySem.Challenge.cw_stepposts_k01_trees_told_holds : PySem.Challenge.rw_stepposts_k01_trees_told.Holds := by
  w_on; o_law
  refine HandSHeadRun.head_any (r := OpenLaw.row PySem.Challenge.rw_stepposts_k01_trees_told) (q := view (OpenLaw.row PySem.Challenge.rw_stepposts_k01_trees_told).prog [K01.lawAt]) (H := K01.hk) (ob := K01.ob) (M := 3000) (loose := K01.names)
    (d := HandSHeadRun.topDef (OpenLaw.row PySem.Challenge.rw_stepposts_k01_trees_told).prog K01.lawAt) (kwd := []) K01.ob_eq (by kernel_rfl) (fun s => by kernel_rfl) K01.run (by kernel_rfl) (by kernel_rfl) (by kernel_rfl) (by rfl)
    (by first | assumption | decide +kernel) (by decide +kernel) ⟨rfl, rfl, rfl, rfl, rfl, by decide +kernel⟩ ?hw ?hc
  case hw => w_witness2
  case hc =>
    refine K01.walkX (l := PySem.Challenge.rw_stepposts_k01_trees_told) (n := 63) (k := 6) (x := "script") rfl (by decide) (by kernel_rfl) ⟨rfl, by decide, by decide⟩ ?F
    intro w mg f h Y G hmg0
    obtain ⟨K, KX, c, e⟩ := Y
    have en : (HandSHeadRun.topDef (OpenLaw.row PySem.Challenge.rw_stepposts_k01_trees_told).prog K01.lawAt).name = ("law" : PySem.Str) := by kernel_rfl
    have hmg : mg ("law" : PySem.Str) = some (.ref f) := by rw [← en]; exact hmg0
    obtain ⟨fd, hb, hF⟩ := K01.facts (P := (PySem.Challenge.rw_stepposts_k01_trees_told).prog) (w := w) KX G hmg c e
    exact ⟨K, fd, K01.spLaw K, KX, hb, fun H a ns hl hS => ⟨a, ns, rfl, hl, hS, fun _ => rfl⟩, hF⟩
