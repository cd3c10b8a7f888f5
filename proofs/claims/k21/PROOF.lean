import PyProof.Rows.All
import Wide.All
import OpenK.AllK
import Wide.FinOn
import HandS.Base
import HandS.Call
import HandS.CallLocal
import HandS.Conv
import HandS.Defaults
import HandS.EndTab
import HandS.Ends
import HandS.ExcInit
import HandS.ExcIs
import HandS.ExcValue
import HandS.FStr
import HandS.ForExc
import HandS.ForMost
import HandS.Gcd
import HandS.Head0
import HandS.Head1
import HandS.Head2
import HandS.Head3
import HandS.HeadEnd
import HandS.HeadHook1
import HandS.HeadHook2
import HandS.HeadHook3
import HandS.HeadHook4
import HandS.HeadWalk
import HandS.IsInst
import HandS.Lambda
import HandS.LawCells
import HandS.More
import HandS.Nested
import HandS.RaiseMore
import HandS.Rev
import HandS.SetFor
import HandS.Small
import HandS.Strs
import HandS.Style
import HandS.TryOnly
import HandS.TupAny
import HandS.TupMul
import HandS.Walk
import HandS.Wide
import HandS.Words
import HandS.WordsExc
import HandS.Zip0
import KE.KExcIs
import KE.KExcSuper
import PyProof.EqAt
import PyProof.FactsAll.tuple_2
import PyProof.ListMulRoad
import PySem.Challenge.RW_meankept_k21_numbers_and_errors
set_option Elab.async false
set_option linter.all false
set_option maxRecDepth 100000
set_option maxHeartbeats 4000000
/-! XA: tuple * int in all cases, tuple.count, unions of operators by kind. -/
namespace XA
open PySem PySem.Spec PyProof.Rows L2
theorem tuple_mul1 (l : Addr) (items : Array Value) (n : Nat) (dd : Option Addr) (sl : Array (Option Value)) (x : Int) (u : Tok) (c0 : (decide (x < -(2 ^ 63)) || decide (x ≥ 2 ^ 63)) = false) (c1 : (items.isEmpty || x == 1) = true) :
    Meets (Builtin.«tuple.__mul__» ⟨[.ref l, .int x u], []⟩) (fun _ R s => s.heap.get? l = some { cls := .type "tuple", dict := dd, data := .seq items n, slots := sl } ∧
      R (.ok (.ret (Value.ref l))) s) :=
  .of_wp fun prog w A R s h => by
    obtain ⟨hp, g, d, tk, os⟩ := s
    obtain ⟨hl, h⟩ := h
    have f1 := AutoSeq1.idx_int
    wp_walk using wpAny_loadPart' hl
    repeat (first
      | (refine wpAny_ite_false (decide_eq_false (by rw [c0]; exact Bool.false_ne_true)) ?_; wp_walk using wpAny_loadPart' hl)
      | (refine wpAny_ite_true (decide_eq_true (by rw [c1])) ?_; wp_walk using wpAny_loadPart' hl))
    all_goals first | exact ⟨_, rfl, h⟩ | exact h | skip
theorem tuple_mul0 (l : Addr) (items : Array Value) (n : Nat) (dd : Option Addr) (sl : Array (Option Value)) (x : Int) (u : Tok) (c0 : (decide (x < -(2 ^ 63)) || decide (x ≥ 2 ^ 63)) = false) (c1 : (items.isEmpty || x == 1) = false) (c2 : (decide (x ≤ 0) || items.isEmpty) = true) :
    Meets (Builtin.«tuple.__mul__» ⟨[.ref l, .int x u], []⟩) (fun _ R s => s.heap.get? l = some { cls := .type "tuple", dict := dd, data := .seq items n, slots := sl } ∧
      R (.ok (.ret (Value.ref s.heap.objs.size))) { s with heap := s.heap.push { cls := Value.type "tuple", data := Data.seq #[] }, toks := s.toks }) :=
  .of_wp fun prog w A R s h => by
    obtain ⟨hp, g, d, tk, os⟩ := s
    obtain ⟨hl, h⟩ := h
    have f1 := AutoSeq1.idx_int
    wp_walk using wpAny_loadPart' hl
    repeat (first
      | (refine wpAny_ite_false (decide_eq_false (by rw [c0]; exact Bool.false_ne_true)) ?_; wp_walk using wpAny_loadPart' hl)
      | (refine wpAny_ite_false (decide_eq_false (by rw [c1]; exact Bool.false_ne_true)) ?_; wp_walk using wpAny_loadPart' hl)
      | (refine wpAny_ite_true (decide_eq_true (by rw [c2])) ?_; wp_walk using wpAny_loadPart' hl))
    all_goals first | exact ⟨_, rfl, h⟩ | exact h | skip
/-- tuple * int: the same tuple, or a new one -/
def rRepA (K : PySem.W.Frag) : R2 := fun x y H Q => ∃ l k xs, x = .ref l ∧ y = .int k ∧ SqT K H l xs ∧ -1000 ≤ k ∧ k ≤ 1000 ∧ xs.length ≤ 1000 ∧
  ((xs = [] ∨ k = 1) → Q (.ref l) H) ∧ (¬ (xs = [] ∨ k = 1) → ∀ p, H p = none → Q (.ref p) (upd H p (.tup (List.replicate k.toNat xs).flatten)))
section
variable {X : Cx}
theorem op_repA : OpR X (binaryOp .Mult) (rRepA X.K) := by
  intro pins s σ H x y v u Q I rx ry h
  obtain ⟨l, k, xs, rfl, rfl, hT, h1, h2, hz, q1, q2⟩ := h
  by_cases hc : xs = [] ∨ k = 1
  · have q := q1 hc
    cases rx
    obtain ⟨t, rfl⟩ := ry
    obtain ⟨its, r, ⟨⟨cls, dd, data, sl⟩, ho, hcl, n, hd⟩, hs⟩ := I.tuple hT
    simp only at hcl hd
    subst hcl hd
    have c0 : (decide (k < -(2 ^ 63)) || decide (k ≥ 2 ^ 63)) = false := by
      rw [decide_eq_false (by omega), decide_eq_false (by omega)] <;> rfl
    have c1 : (its.toArray.isEmpty || k == 1) = true := by
      rcases hc with e | e
      · subst e
        cases r
        rfl
      · subst e
        simp
    exact wpAny_binaryOp_repeat_ref (T := "tuple") (U := "int") (by decide) ⟨_, ho, rfl⟩ (fun s' => typeIs_int s' k t) noFill_tuple_mul F.fills_int_mul F.slot_int_rmul repeat_tuple F.slot_int_index.lookup
      (call_meets F.slot_int_rmul (typeIs_int s k t) F.entry_int_rmul (F.args_int_rmul_2 _ _) (int_rmul_tuple k t l its.toArray n dd sl)
        ⟨ho, rfl, ⟨_, ho, rfl⟩, call_meets F.slot_tuple_mul ⟨_, ho, rfl⟩ F.entry_tuple_mul (F.args_tuple_mul_2 _ _) (tuple_mul1 l its.toArray n dd sl k t c0 c1) ⟨ho, ⟨.ref l, H, I, rfl, q⟩⟩⟩)
  · have q := q2 hc
    have hne : xs ≠ [] := fun e => hc (.inl e)
    have hk1 : k ≠ 1 := fun e => hc (.inr e)
    by_cases hk : k ≤ 0
    · have e0 : (List.replicate k.toNat xs).flatten = [] := by
        rw [show k.toNat = 0 by omega] <;> rfl
      rw [e0] at q
      cases rx
      obtain ⟨t, rfl⟩ := ry
      obtain ⟨its, r, ⟨⟨cls, dd, data, sl⟩, ho, hcl, n, hd⟩, hs⟩ := I.tuple hT
      simp only at hcl hd
      subst hcl hd
      have c0 : (decide (k < -(2 ^ 63)) || decide (k ≥ 2 ^ 63)) = false := by
        rw [decide_eq_false (by omega), decide_eq_false (by omega)] <;> rfl
      have hi : its.toArray.isEmpty = false := by
        cases r with
        | nil => exact absurd rfl hne
        | cons a b => rfl
      have c1 : (its.toArray.isEmpty || k == 1) = false := by
        rw [hi, Bool.false_or]
        exact beq_eq_false_iff_ne.mpr hk1
      have c2 : (decide (k ≤ 0) || its.toArray.isEmpty) = true := by
        rw [decide_eq_true hk] <;> rfl
      refine wpAny_binaryOp_repeat_ref (T := "tuple") (U := "int") (by decide) ⟨_, ho, rfl⟩ (fun s' => typeIs_int s' k t) noFill_tuple_mul F.fills_int_mul F.slot_int_rmul repeat_tuple F.slot_int_index.lookup
        (call_meets F.slot_int_rmul (typeIs_int s k t) F.entry_int_rmul (F.args_int_rmul_2 _ _) (int_rmul_tuple k t l its.toArray n dd sl)
          ⟨ho, rfl, ⟨_, ho, rfl⟩, call_meets F.slot_tuple_mul ⟨_, ho, rfl⟩ F.entry_tuple_mul (F.args_tuple_mul_2 _ _) (tuple_mul0 l its.toArray n dd sl k t c0 c1 c2) ⟨ho, ?_⟩⟩)
      refine ⟨.ref s.heap.objs.size, _, I.laid (t' := s.toks) (o := .tup []) (fun b ob q => Heap.get?_push_of_some _ q) (Nat.le_refl _) ?_, rfl, q _ (I.hok.fresh (Nat.le_refl _))⟩
      exact ⟨Nat.zero_le _, [], .nil, IsTup.new _ _⟩
    · exact op_repT pins s σ H _ _ v u Q I rx ry ⟨l, k, xs, rfl, rfl, hT, hne, by omega, h2, hz, q⟩
end
/-! ### tuples whose object is known: no dict of their own -/
def Tp (H : Hp) (p : Addr) (xs : List V) : Prop := ∃ o, H p = some (.frz o (.tup xs)) ∧ o.cls = .type "tuple" ∧ o.dict = none
theorem Tp.sqT {K : PySem.W.Frag} {H : Hp} {p : Addr} {xs : List V} (t : Tp H p xs) : SqT K H p xs := by
  obtain ⟨o, h, _⟩ := t
  exact .inl (.inr ⟨o, h⟩)
theorem Tp.same {H H' : Hp} {p : Addr} {xs : List V} (t : Tp H p xs) (k : Same H H') : Tp H' p xs := by
  obtain ⟨o, h, a, b⟩ := t
  exact ⟨o, k _ _ h, a, b⟩
/-- a new such tuple -/
def NewT (H : Hp) (xs : List V) (Q : VK) : Prop := ∀ p o, H p = none → o.cls = .type "tuple" → o.dict = none → Q (.ref p) (upd H p (.frz o (.tup xs)))
section
variable {X : Cx} {pins : List (Addr × Obj)} {σ : L2.St} {H : Hp} {s : Shared}
theorem newT_laid {h' : Heap} {tk : Nat} {xs : List V} {its : List Value} {Q : VK} (I : Inv X pins σ H { s with heap := h', toks := tk }) (hz : xs.length ≤ sizeLine) (r : Vals xs its) (q : NewT H xs Q) :
    EP X pins σ Q (.ref h'.objs.size) { s with heap := h'.push { cls := .type "tuple", data := .seq its.toArray }, toks := tk } :=
  ⟨.ref h'.objs.size, _, I.laid (t' := tk) (o := .frz { cls := .type "tuple", data := .seq its.toArray } (.tup xs)) (fun b ob e => Heap.get?_push_of_some _ e) (Nat.le_refl _)
    ⟨Heap.get?_push_size _ rfl, hz, its, r, IsTup.new _ _⟩, rfl, q _ _ (I.hok.fresh (Nat.le_refl _)) rfl rfl⟩
end
section
variable {X : Cx}
/-- tuple(xs), a list: a new one; a tuple: itself -/
def rTupOf (K : PySem.W.Frag) : List V → Hp → VK → Prop := fun xs H Q => ∃ p ys, xs = [.ref p] ∧ ((SqL K H p ys ∧ NewT H ys Q) ∨ (SqT K H p ys ∧ Q (.ref p) H))
theorem call_tupN : CallR X (.type "tuple") (rTupOf X.K) := by
  intro pins s σ H xs us Q I r h
  obtain ⟨p, ys, rfl, h⟩ := h
  obtain ⟨u, rfl, rx⟩ := vals1 r
  cases rx
  rcases h with ⟨hq, q⟩ | ⟨hq, q⟩
  · obtain ⟨its, r', pl, hz⟩ := I.list hq
    have hlen := r'.length
    refine call_tuple_list pl.isList (fun h' kp => ?_) (by simp only [List.size_toArray] <;> omega)
    have I1 : Inv X pins σ H { s with heap := h', toks := s.toks } := I.kept (t' := s.toks) kp
    exact newT_laid I1 hz r' q
  · obtain ⟨its, r', pl, hz⟩ := I.tuple hq
    exact call_tuple_same pl ⟨.ref p, H, I, rfl, q⟩
/-- t[lo:hi] -/
def rSlN (K : PySem.W.Frag) : V → Option Int → Option Int → Hp → VK → Prop := fun x lo hi H Q => ∃ a xs, x = .ref a ∧ SqT K H a xs ∧
  (HT.sIx xs.length 0 lo = 0 ∧ HT.sIx xs.length xs.length hi = xs.length → Q (.ref a) H) ∧ (¬ (HT.sIx xs.length 0 lo = 0 ∧ HT.sIx xs.length xs.length hi = xs.length) → NewT H (cutV xs lo hi) Q)
theorem sl_tupN : SlR X (rSlN X.K) := by
  intro pins s σ H x v vl vu lo hi sl Q I rx hs pl pu h
  obtain ⟨a, xs, rfl, hx, q1, q2⟩ := h
  by_cases hw : HT.sIx xs.length 0 lo = 0 ∧ HT.sIx xs.length xs.length hi = xs.length
  · exact sl_tupA pins s σ H _ v vl vu lo hi sl Q I rx hs pl pu ⟨a, xs, rfl, hx, q1, fun z => absurd hw z⟩
  · have q := q2 hw
    cases rx
    obtain ⟨its, r, ht, hz⟩ := I.tuple hx
    have hlen : its.toArray.size = xs.length := by rw [List.size_toArray]; exact r.length.symm
    refine ⟨"tuple", _, PyProof.Rows.slot_tuple_getitem.lookup, ht.typeIs, ?_⟩
    refine HT.getItem_tuple_cut ht hs pl pu (by rw [hlen]; exact hw) ?_ (by rw [hlen]; exact hz)
    rw [hlen]
    exact newT_laid (h' := s.heap) (tk := s.toks) I (Nat.le_trans (cutV_length xs lo hi) hz) ((r.drop (HT.sIx xs.length 0 lo)).take (HT.sIx xs.length xs.length hi - HT.sIx xs.length 0 lo)) q
/-- tuple * int -/
def rRepN (K : PySem.W.Frag) : R2 := fun x y H Q => ∃ l k xs, x = .ref l ∧ y = .int k ∧ SqT K H l xs ∧ -1000 ≤ k ∧ k ≤ 1000 ∧ xs.length ≤ 1000 ∧
  ((xs = [] ∨ k = 1) → Q (.ref l) H) ∧ (¬ (xs = [] ∨ k = 1) → NewT H (List.replicate k.toNat xs).flatten Q)
theorem op_repN : OpR X (binaryOp .Mult) (rRepN X.K) := by
  intro pins s σ H x y v u Q I rx ry h
  obtain ⟨l, k, xs, rfl, rfl, hT, h1, h2, hz, q1, q2⟩ := h
  by_cases hc : xs = [] ∨ k = 1
  · exact op_repA pins s σ H _ _ v u Q I rx ry ⟨l, k, xs, rfl, rfl, hT, h1, h2, hz, q1, fun z => absurd hc z⟩
  · have q := q2 hc
    have hne : xs ≠ [] := fun e => hc (.inl e)
    have hk1 : k ≠ 1 := fun e => hc (.inr e)
    cases rx
    obtain ⟨t, rfl⟩ := ry
    obtain ⟨its, r, ⟨⟨cls, dd, data, sl⟩, ho, hcl, n, hd⟩, hs⟩ := I.tuple hT
    simp only at hcl hd
    subst hcl hd
    have hle : its.length = xs.length := r.length.symm
    have c0 : (decide (k < -(2 ^ 63)) || decide (k ≥ 2 ^ 63)) = false := by
      rw [decide_eq_false (by omega), decide_eq_false (by omega)] <;> rfl
    have hi : its.toArray.isEmpty = false := by
      cases r with
      | nil => exact absurd rfl hne
      | cons a b => rfl
    have c1 : (its.toArray.isEmpty || k == 1) = false := by
      rw [hi, Bool.false_or]
      exact beq_eq_false_iff_ne.mpr hk1
    by_cases hk : k ≤ 0
    · have e0 : (List.replicate k.toNat xs).flatten = [] := by
        rw [show k.toNat = 0 by omega] <;> rfl
      rw [e0] at q
      have c2 : (decide (k ≤ 0) || its.toArray.isEmpty) = true := by
        rw [decide_eq_true hk] <;> rfl
      refine wpAny_binaryOp_repeat_ref (T := "tuple") (U := "int") (by decide) ⟨_, ho, rfl⟩ (fun s' => typeIs_int s' k t) noFill_tuple_mul F.fills_int_mul F.slot_int_rmul repeat_tuple F.slot_int_index.lookup
        (call_meets F.slot_int_rmul (typeIs_int s k t) F.entry_int_rmul (F.args_int_rmul_2 _ _) (int_rmul_tuple k t l its.toArray n dd sl)
          ⟨ho, rfl, ⟨_, ho, rfl⟩, call_meets F.slot_tuple_mul ⟨_, ho, rfl⟩ F.entry_tuple_mul (F.args_tuple_mul_2 _ _) (tuple_mul0 l its.toArray n dd sl k t c0 c1 c2) ⟨ho, ?_⟩⟩)
      exact newT_laid (h' := s.heap) (tk := s.toks) (xs := []) (its := []) I (Nat.zero_le _) .nil q
    · have hsz0 : its.toArray.size = xs.length := by rw [List.size_toArray, hle]
      have hm : ((its.toArray.size : Nat) : Int) * k ≤ 1000000 := by
        rw [hsz0]
        have a1 : ((xs.length : Nat) : Int) * k ≤ 1000 * k := Int.mul_le_mul_of_nonneg_right (by omega) (by omega)
        omega
      have flen : (List.replicate k.toNat its).flatten.length ≤ sizeLine := by
        rw [PyProof.Rows.lm_len_rep_flat, hle, sizeLine_eq]
        have a1 : k.toNat * xs.length ≤ 1000 * 1000 := Nat.mul_le_mul (by omega) hz
        omega
      have c2 : (decide (k ≤ 0) || its.toArray.isEmpty) = false := by
        rw [hi, Bool.or_false]
        exact decide_eq_false (by omega)
      have c4 : Builtin.Tuple.tupleTooMany (((its.toArray.size : Nat) : Int) * k) = false := by
        unfold Builtin.Tuple.tupleTooMany
        rw [sizeLine_eq]
        exact decide_eq_false (by omega)
      refine wpAny_binaryOp_repeat_ref (T := "tuple") (U := "int") (by decide) ⟨_, ho, rfl⟩ (fun s' => typeIs_int s' k t) noFill_tuple_mul F.fills_int_mul F.slot_int_rmul repeat_tuple F.slot_int_index.lookup
        (call_meets F.slot_int_rmul (typeIs_int s k t) F.entry_int_rmul (F.args_int_rmul_2 _ _) (int_rmul_tuple k t l its.toArray n dd sl)
          ⟨ho, rfl, ⟨_, ho, rfl⟩, call_meets F.slot_tuple_mul ⟨_, ho, rfl⟩ F.entry_tuple_mul (F.args_tuple_mul_2 _ _) (tuple_mulW l its.toArray n dd sl k t c0 c1 c2 (by omega) c4 (by rw [size_rep, List.size_toArray]; exact flen)) ⟨ho, ?_⟩⟩)
      rw [size_rep]
      refine newT_laid (h' := s.heap) (tk := s.toks) I ?_ (r.rep k.toNat) q
      rw [PyProof.Rows.lm_len_rep_flat, sizeLine_eq]
      have a1 : k.toNat * xs.length ≤ 1000 * 1000 := Nat.mul_le_mul (by omega) hz
      omega
/-! ### t.count(k), whole numbers -/
def tCnt (to te : TE) : TE := fun σ H Q => to σ H fun x H1 => ∃ (p : Addr) (ns : List Int), x = .ref p ∧ Tp H1 p (ns.map V.int) ∧ tCons te tNil σ H1 fun vs H2 => ∃ y, vs = [y] ∧ ∃ k, y = .int k ∧ Tp H2 p (ns.map V.int) ∧ Q (.int (ns.count k : Nat)) H2
variable {o e : Expr} {to te : TE} {apos cpos : Pos}
theorem pe_cnt (ho : PE X o to) (he : PE X e te)
    (hbase : attributeBase o "count" X.env (eval o X.env) = eval o X.env := by rfl)
    (hfew : ((backTo cpos (starEach [e] X.env)).all (fun x => !x.1) && (backToKw cpos (keywordEach [] X.env)).all (fun x => x.1.isSome)
      && decide (([e] : List Expr).length + ([] : List Keyword).length + (if ([] : List Keyword).isEmpty then 0 else 1) < 30)) = true := by rfl)
    (hline : (apos.endLine == cpos.line) = true := by rfl) (hs : starEach [e] X.env = (false, eval e X.env) :: starEach [] X.env := by rfl) (hplain : (backTo cpos (starEach [] X.env)).any (·.1) = false := by rfl) :
    PE X (.Call (.Attribute o "count" apos) [e] [] cpos) (tCnt to te) := by
  refine ⟨fun pins s σ H Q I h => ?_⟩
  refine wpAny_Call_method_late hbase hfew hline rfl (thn (ho.run pins s σ H _ I h) fun v s1 ⟨x, H1, I1, r1, p, ns, ex, hT, q1⟩ => ?_)
  subst ex
  obtain rfl : v = Value.ref p := r1
  obtain ⟨ob, hp, hc, hd⟩ := hT
  obtain ⟨ho', _⟩ := (show ObjOk X.prog X.w H1 s1.heap p (.frz ob (.tup (ns.map V.int))) from I1.hok p _ hp)
  refine ⟨"tuple", "tuple.count", PySem.F.plainAttrs_tuple, PySem.F.slot_tuple_count, PySem.F.type_tuple_count, ⟨ob, ho', hc⟩, fun a ea => by cases ea; exact ⟨ob, ho', hd⟩, ?_⟩
  have hA := (show PA X [e] (tCons te tNil) from pa_cons he pa_nil hs).run cpos pins s1 σ H1 (fun vs H2 => ∃ y, vs = [y] ∧ ∃ k, y = .int k ∧ Tp H2 p (ns.map V.int) ∧ Q (.int (ns.count k : Nat)) H2) I1 q1
  rw [hs] at hA ⊢
  refine Calls.callWith_builtin (by show (false || (backTo cpos (starEach [] X.env)).any (·.1)) = false; rw [hplain] <;> rfl) (Calls.evalArgs_plain ?_)
  refine thn hA fun us s2 ⟨vs, H2, I2, r2, y, ev, k, ey, hT2, q2⟩ => ?_
  subst ev ey
  obtain ⟨u, rfl, t, rfl⟩ := vals1 r2
  obtain ⟨ob2, hp2, hc2, hd2⟩ := hT2
  obtain ⟨ho2, hz, its, rv, ob3, ho3, hc3, n3, hd3⟩ := (show ObjOk X.prog X.w H2 s2.heap p (.frz ob2 (.tup (ns.map V.int))) from I2.hok p _ hp2)
  obtain ⟨oc, od, dt, sl⟩ := ob3
  simp only at hc3 hd3
  subst hc3 hd3
  have hi := ints_of_vals rv
  refine call_meets PySem.F.slot_tuple_count ⟨_, ho3, rfl⟩ PySem.F.entry_tuple_count (PySem.F.args_tuple_count_2 _ _)
    (SeqAt.tuple_countAt p its.toArray n3 od sl (.int k t) (eqk k)) ⟨ho3, fun y hy => (eqk_gives hi y (by simpa using hy)).at _ _, ?_⟩
  have ec : its.toArray.toList.countP (eqk k) = ns.count k := eqk_count hi
  refine ⟨.int (ns.count k : Nat), H2, I2.tok _, ⟨s2.toks, ?_⟩, q2⟩
  show Value.int ((its.toArray.toList.countP (eqk k) : Nat) : Int) s2.toks = Value.int ((ns.count k : Nat) : Int) s2.toks
  rw [ec]
end
end XA

set_option linter.all false
set_option maxRecDepth 100000
set_option maxHeartbeats 4000000
/-! XB: a caught exception kept as a value; isinstance of it. -/
namespace XB
open PySem PySem.Spec PyProof.Rows L2
/-- a caught exception at a -/
def ExV (cls : Value) (d : Option Addr) (a : Addr) : HO := .ext fun h => ∃ (oe : Obj) (vs : Array Value), h.get? a = some oe ∧ Zc cls d oe ∧ oe.data = .fields vs
theorem exV_ok {P : Program} {w : World} {H : Hp} {h : Heap} {a : Addr} {cls : Value} {d : Option Addr} {oe : Obj} {vs : Array Value} (e : h.get? a = some oe) (z : Zc cls d oe) (dd : oe.data = .fields vs) : ObjOk P w H h a (ExV cls d a) :=
  ⟨⟨oe, vs, e, z, dd⟩, ⟨oe, e⟩, fun _ _ ⟨o, v, q, r⟩ k => ⟨o, v, k o q, r⟩⟩
section
variable {X : Cx} {pins : List (Addr × Obj)} {σ : L2.St} {H : Hp} {s : Shared}
theorem track {a : Addr} {oe : Obj} {vs : Array Value} {cls : Value} {d : Option Addr} (I : Inv X ((a, oe) :: pins) σ H s) (n0 : X.s_0.heap.get? a = none) (hz : Zc cls d oe) (hd : oe.data = .fields vs) (hp : ∀ p ∈ X.pn ++ pins, p.1 ≠ a) :
    Inv X pins σ (upd H a (ExV cls d a)) s := by
  obtain ⟨ha, na, nL, nF, hc⟩ := I.pin (a, oe) (List.mem_append_right _ List.mem_cons_self)
  have ne0 : ∀ b o, X.s_0.heap.get? b = some o → b ≠ a := fun b o e z => by
    rw [z, n0] at e
    cases e
  have neS : ∀ b u, H b = some u → b ≠ a := fun b u e => ne_of_none e na
  have neC : ∀ x c, X.env.cells.lookup x = some c → c ≠ a := fun x c e z => by
    obtain ⟨v, o, ho, hd'⟩ := I.cell x c e
    rw [z, ha] at ho
    cases ho
    exact hc v hd'
  refine ⟨I.ok, I.os, I.bare, ⟨I.base.keep, I.base.slot, fun b o e n hx => ?_, I.base.there, fun b xs e => ?_, fun b o u e => ?_, fun b ps e => ?_⟩, I.loc, I.cell, ?_, fun x c e => ?_, fun p hq => ?_, I.hok.laidN (fun _ _ q => q) na (exV_ok ha hz hd), I.len⟩
  · rw [upd_ne (ne0 b o e)]
    exact I.base.free b o e n hx
  · have q := I.base.tups b xs e
    rw [upd_ne (neS b _ q)]
    exact q
  · have q := I.base.frzs b o u e
    rw [upd_ne (neS b _ q)]
    exact q
  · obtain ⟨m, q⟩ := I.base.tbls b ps e
    exact ⟨m, by rw [upd_ne (neS b _ q)]; exact q⟩
  · rw [upd_ne (Ne.symm nL)]
    exact I.free
  · rw [upd_ne (neC x c e)]
    exact I.freeC x c e
  · obtain ⟨e, n, ne, nf, dd⟩ := I.pin p (by
      rcases List.mem_append.mp hq with z | z
      · exact List.mem_append_left _ z
      · exact List.mem_append_right _ (List.mem_cons_of_mem _ z))
    exact ⟨e, by rw [upd_ne (hp p hq)]; exact n, ne, nf, dd⟩
theorem pinned {a : Addr} {oe : Obj} {pn' : List (Addr × Obj)} (I : Inv (X.suite a ((a, oe) :: (X.pn ++ pins))) pn' σ H s) (ok : X.Ok) : Inv X ((a, oe) :: pins) σ H s :=
  ⟨ok, I.os, I.bare, I.base, I.loc, I.cell, I.free, I.freeC, fun p hp => I.pin p (List.mem_append_left _ (by
    rcases List.mem_append.mp hp with z | z
    · exact List.mem_cons_of_mem _ (List.mem_append_left _ z)
    · rcases List.mem_cons.mp z with e | z
      · rw [e]
        exact List.mem_cons_self
      · exact List.mem_cons_of_mem _ (List.mem_append_right _ z))), I.hok, I.len⟩
end
/-- 'except x as n', behind whose suite the exception is kept -/
def wAsV (K : PySem.W.Frag) (c : Value) (i : Nat) (ts : Addr → Value → Option Addr → TS) (Wout : WX) (D : Ends) : WX := fun cls d σ H =>
  ∃ b, PySem.W.exmOne K cls c = some b ∧ (b = true → ∀ a, H a = none → ts a cls d { nx := fun σ' H' => D.nx (σ'.set i none) (upd H' a (ExV cls d a)), rt := fun v H' => D.rt v (upd H' a (ExV cls d a)), bk := fun σ' H' => D.bk (σ'.set i none) (upd H' a (ExV cls d a)), ct := fun σ' H' => D.ct (σ'.set i none) (upd H' a (ExV cls d a)) } (σ.set i (some (.ref a))) H) ∧
    (b = false → Wout cls d σ H)
section
variable {X : Cx} {pins : List (Addr × Obj)} {σ σ1 : L2.St} {H H1 : Hp} {s sI : Shared} {B h3 : Heap} {a : Addr} {cls c : Value} {d : Option Addr} {x n : Str} {i : Nat} {b0 : Stmt} {suite : List Stmt} {np ps1 : Pos} {ts : Addr → Value → Option Addr → TS} {Wout : WX} {D : Ends}
/-- an exception in flight is no frame -/
theorem off_frames {l : List Env} {h : Heap} (fl : HandSPX.FlyingZ B l a (Zc cls d) h) : a ∉ frs l := by
  intro hm
  obtain ⟨oe, vs, e1, _, e2⟩ := fl.there
  obtain ⟨_, o2, e3, e4⟩ := Heap.FunFrames.mem fl.2.2.1 hm
  obtain rfl : oe = o2 := Option.some.inj (e1.symm.trans e3)
  exact e4 _ e2
/-- it wasn't there at the entry, and is no pin -/
theorem was_new (J : Inv X pins σ H sI) (grd : ∀ b o, sI.heap.get? b = some o → b ∉ frs X.stack → B.get? b = some o) (hB : B.get? a = none) (out : a ∉ frs X.stack) (hex : X.ex = []) :
    X.s_0.heap.get? a = none ∧ ∀ p ∈ X.pn ++ pins, p.1 ≠ a := by
  have no : ∀ o, sI.heap.get? a ≠ some o := fun o e => by
    have z := grd a o e out
    rw [hB] at z
    cases z
  constructor
  · cases e : X.s_0.heap.get? a with
    | none => rfl
    | some o =>
      obtain ⟨o2, e2⟩ := J.base.there a o e (fun z => by rw [hex] at z; cases z)
      exact absurd e2 (no o2)
  · intro p hp z
    have e2 := (J.pin p hp).1
    rw [z] at e2
    exact no _ e2
/-- the suite, behind which the name goes and the exception stays known -/
theorem suite_keeps (ok : X.Ok) (hN : X.N.Nodup) (hi : X.N[i]? = some n) (hln : X.env.kindOf n = some .local) (J : Inv X pins σ H { s with heap := h3 }) (fl : HandSPX.FlyingZ B (X.env :: X.outer) a (Zc cls d) h3) (na : H a = none) (nL : a ≠ X.env.locals) (nF : a ∉ X.fs)
    (new : X.s_0.heap.get? a = none ∧ ∀ p ∈ X.pn ++ pins, p.1 ≠ a)
    (hsu : ∀ (a : Addr) (oe : Obj) (cls : Value) (d : Option Addr) (pn : List (Addr × Obj)), Zc cls d oe → (∃ vs, oe.data = .fields vs) → PSs (X.suite a ((a, oe) :: pn)) (b0 :: suite) (ts a cls d))
    (q : ts a cls d { nx := fun σ' H' => D.nx (σ'.set i none) (upd H' a (ExV cls d a)), rt := fun v H' => D.rt v (upd H' a (ExV cls d a)), bk := fun σ' H' => D.bk (σ'.set i none) (upd H' a (ExV cls d a)), ct := fun σ' H' => D.ct (σ'.set i none) (upd H' a (ExV cls d a)) } (σ.set i (some (.ref a))) H) :
    wpAny (model X.prog X.w) (X.A.mark (some (.ref a))) (storeName X.env n (.ref a))
      (fun _ s5 => wpAny (model X.prog X.w) (X.A.mark (some (.ref a))) (execs (b0 :: suite) X.env)
        (fun f s6 => wpAny (model X.prog X.w) X.A (do bindName X.env n .none; unbindBehindTheSuite X.env n ps1) (fun _ s7 => SP X pins D f s7) X.xe s6) (fun _ _ => False) s5) (fun _ _ => False) { s with heap := h3 } := by
  obtain ⟨oe, vs, e1, z1, f1⟩ := fl.there
  refine store_ok (X := X.suite a ((a, oe) :: (X.pn ++ pins))) (v := .ref a) (J.suite e1 f1 na nL nF) hN hi (.inl hln) rfl (fun s5 J5 => ?_) (.inr hln)
  have run := (hsu a oe cls d (X.pn ++ pins) z1 ⟨_, f1⟩).run [] s5 _ H _ J5 q
  refine wpAny_mono run (fun f s6 out => ?_) fun _ _ no => no
  have go : ∀ {σ6 : L2.St} {H6 : Hp} {R : Shared → Prop}, Inv (X.suite a ((a, oe) :: (X.pn ++ pins))) [] σ6 H6 s6 → (∀ s7, Inv X pins (σ6.set i none) (upd H6 a (ExV cls d a)) s7 → R s7) →
      wpAny (model X.prog X.w) X.A (do bindName X.env n .none; unbindBehindTheSuite X.env n ps1) (fun _ s7 => R s7) X.xe s6 := fun J6 k =>
    gone_ok (pinned J6 ok) hN hi hln fun s7 J7 => k s7 (track J7 new.1 z1 f1 new.2)
  match f, out with
  | .next, ⟨_, _, J6, k⟩ => exact go J6 fun _ J7 => ⟨_, _, J7, k⟩
  | .brk, ⟨_, _, J6, k⟩ => exact go J6 fun _ J7 => ⟨_, _, J7, k⟩
  | .cont, ⟨_, _, J6, k⟩ => exact go J6 fun _ J7 => ⟨_, _, J7, k⟩
  | .ret _, ⟨_, _, _, J6, r, k⟩ => exact go J6 fun _ J7 => ⟨_, _, _, J7, r, k⟩
/-- the clause met by an exception that came down onto it -/
theorem clause_ok (hs : X.stack = X.env :: X.outer) (hf : X.env.frame = some X.env.locals) (hex : X.ex = []) (hN : X.N.Nodup) (hi : X.N[i]? = some n) (hln : X.env.kindOf n = some .local) (hc : Names X x c) (tk : Takes X Wout)
    (hsu : ∀ (a : Addr) (oe : Obj) (cls : Value) (d : Option Addr) (pn : List (Addr × Obj)), Zc cls d oe → (∃ vs, oe.data = .fields vs) → PSs (X.suite a ((a, oe) :: pn)) (b0 :: suite) (ts a cls d))
    (J : Inv X pins σ H sI) (grd : ∀ b o, sI.heap.get? b = some o → b ∉ frs X.stack → B.get? b = some o) (up : sI.heap.UpToSlots h3) (os : s.os = sI.os) (ag : AllBare s.gens) (na : H a = none) (fl : HandSPX.FlyingZ B (X.env :: X.outer) a (Zc cls d) h3)
    (wish : wAsV X.K c i ts Wout D cls d σ H) :
    wpAny (model X.prog X.w) X.A (handleBy (.ref a) X.env [.ExceptHandler (some (.Name x np)) (some n) (b0 :: suite) ps1]) (SP X pins D) X.xe { s with heap := h3 } := by
  have ok := J.ok
  have out := off_frames fl
  have out2 : a ∉ frs X.stack := by rw [hs]; exact out
  have nL : a ≠ X.env.locals := fun z => out (by
    unfold frs
    rw [List.filterMap_cons, hf, z]
    exact List.mem_cons_self)
  have nF : a ∉ X.fs := fun z => out (by
    unfold frs
    rw [List.filterMap_cons, hf]
    exact List.mem_cons_of_mem _ z)
  have new := was_new J grd fl.2.1 out2 hex
  have down : ∀ {h : Heap}, HandSPX.FlyingZ B (X.env :: X.outer) a (Zc cls d) h → sI.heap.UpToSlots h → Inv X pins σ H { s with heap := h } := fun f u => J.landed (s' := { s with heap := _ }) grd f.1 u os ag
  obtain ⟨b, m1, yes, no⟩ := wish
  obtain ⟨oe, vs, e1, z1, f1⟩ := fl.there
  have J3 := down fl up
  have J3s := J3.suite e1 f1 na nL nF
  have ty : PySem.W.Looks (model X.prog X.w) h3 (typeOf (.ref a)) cls := fun A Q E s k q => wpAny_typeOf_ref (k _ _ e1) (by rw [z1.1]; exact q)
  have meets := PySem.W.exm_one (M := model X.prog X.w) J3.kIn ty m1
  have named : ∀ {Q : Value → Shared → Prop} {E : Value → Shared → Prop}, Q c { s with heap := h3 } → wpAny (model X.prog X.w) (X.A.mark (some (.ref a))) (eval (.Name x np) X.env) Q E { s with heap := h3 } := fun {Q E} q => by
    obtain ⟨g1, g2, g3 | ⟨g3, g4, g5⟩⟩ := hc
    · exact ld_glob (X := X.suite a ((a, oe) :: (X.pn ++ pins))) J3s g1 g3 q g2
    · exact ld_blt (X := X.suite a ((a, oe) :: (X.pn ++ pins))) J3s g1 g3 g4 q g5 g2
  refine wpAny_handleBy_cons (codeAny_handlers_test (named (meets.here ?_))) (by intro z; cases z)
  cases b with
  | true =>
    refine codeAny_handlers_suite_as (HandSPX.lands_againZ fl fun h4 fl4 up4 => ?_)
    exact wpAny_mono (suite_keeps (ps1 := ps1) ok hN hi hln (down fl4 (up.trans up4)) fl4 na nL nF new hsu (yes rfl a na)) (fun _ s5 h5 => wpAny_mono h5 (fun f s6 h6 => h6) fun _ _ no => no.elim) fun _ _ no => no.elim
  | false =>
    refine wpAny_handleBy_nil ?_
    obtain ⟨_, _, _, oe2, vs2, T, oT, tv, g1, g2, g3, g4, g5⟩ := id fl
    unfold PySem.passOn
    refine wpAny_bind (wpAny_field g1 g3 g4 ?_)
    rw [if_neg (by simp : ¬ ((Value.ref T == Value.none) = true))]
    have last : wpAny (model X.prog X.w) X.A (setFlight (.ref a) X.env.frame) (fun _ s4 => wpAny (model X.prog X.w) X.A (throw (.ref a) : Sem Flow) (SP X pins D) X.xe s4) X.xe { s with heap := h3 } := by
      rw [hf]
      exact HandSPX.setFlight_upZ fl fun h4 held up4 => wpAny_throw (tk _ _ ⟨a, B, sI, pins, σ, H, cls, d, rfl, J, grd, up.trans up4, .inr (.inr (by rw [hs]; exact held)), na, os, ag, no rfl⟩)
    first
      | exact wpAny_bind (wpAny_pure (wpAny_bind last))
      | exact wpAny_bind last
end
section
variable {X : Cx} {x n : Str} {c : Value} {i : Nat} {body suite : List Stmt} {b0 : Stmt} {np ps1 ps2 : Pos} {tb : WX → TS} {ts : Addr → Value → Option Addr → TS} {Wout : WX}
/-- try: body / except x as n: suite; the exception stays known behind it -/
theorem ps_try_asV (hs : X.stack = X.env :: X.outer) (hf : X.env.frame = some X.env.locals) (hex : X.ex = []) (hN : X.N.Nodup) (hi : X.N[i]? = some n) (hln : X.env.kindOf n = some .local) (hc : Names X x c) (tk : Takes X Wout)
    (hb : ∀ (W : WX) (pn : List (Addr × Obj)) (xe : Value → Shared → Prop), Takes (X.tr pn xe) W → PassesOwn (model X.prog X.w) X.A X.env xe → PSs (X.tr pn xe) body (tb W))
    (hsu : ∀ (a : Addr) (oe : Obj) (cls : Value) (d : Option Addr) (pn : List (Addr × Obj)), Zc cls d oe → (∃ vs, oe.data = .fields vs) → PSs (X.suite a ((a, oe) :: pn)) (b0 :: suite) (ts a cls d)) :
    PS X (.Try body [.ExceptHandler (some (.Name x np)) (some n) (b0 :: suite) ps1] [] [] ps2) (fun D σ H => tb (wAsV X.K c i ts Wout D) D σ H) := by
  constructor
  intro pins s σ H D I h
  have ok := I.ok
  refine wpAny_Try_except ?_
  let hd : List ExceptHandler := [.ExceptHandler (some (.Name x np)) (some n) (b0 :: suite) ps1]
  let out : Value → Shared → Prop := fun e s1 => wpAny (model X.prog X.w) X.A (noteFrame e X.env) (fun _ s2 => wpAny (model X.prog X.w) X.A (setFlight e none) (fun _ s3 => wpAny (model X.prog X.w) X.A (handleBy e X.env hd) (SP X pins D) X.xe s3) X.xe s2) X.xe s1
  have caught : Takes (X.tr (X.pn ++ pins) out) (wAsV X.K c i ts Wout D) := by
    rintro u s1 ⟨a, B, sI, pins1, σ1, H1, cls, d, rfl, J, grd, up, sky, na, os, ag, wish⟩
    have sky2 : Sky B (X.env :: X.outer) a (Zc cls d) X.env.locals s1.heap := by
      rw [← hs]
      exact sky
    exact Sky.land Zc.steady (by rw [ok.frames, hs]) hf sky2 fun h3 fl u3 => clause_ok hs hf hex hN hi hln hc tk hsu (J.ofTry ok) grd (up.trans u3) os ag na fl wish
  have run := (hb _ (X.pn ++ pins) out caught PassesOwn.looking).run [] s σ H D (I.toTry _) h
  refine wpAny_mono run (fun f s1 q => ?_) fun e s1 q => q
  match f, q with
  | .next, ⟨_, _, J, k⟩ => exact wpAny_execs_nil ⟨_, _, J.ofTry ok, k⟩
  | .brk, ⟨_, _, J, k⟩ => exact ⟨_, _, J.ofTry ok, k⟩
  | .cont, ⟨_, _, J, k⟩ => exact ⟨_, _, J.ofTry ok, k⟩
  | .ret _, ⟨_, _, _, J, r, k⟩ => exact ⟨_, _, _, J.ofTry ok, r, k⟩
end
/-! ### isinstance of it -/
/-- isinstance(x, c): a plain thing, or a caught exception of the class D -/
def rIsU (K : PySem.W.Frag) : List V → Hp → VK → Prop := fun xs H Q => rIsi K xs H Q ∨ ∃ (a D : Addr) (c : V) (cv : Value) (b : Bool), xs = [.ref a, c] ∧ H a = some (ExV (.ref D) none a) ∧ ExcC K D ∧ ClsV c cv ∧ PySem.W.kitOne K (.ref D) cv = some b ∧ Q (.bl b) H
theorem call_isU {X : Cx} : CallR X (.builtin "isinstance") (rIsU X.K) := by
  intro pins s σ H xs us Q I r h
  rcases h with h | ⟨a, D, c, cv, b, rfl, ha, C, k, e, q⟩
  · exact call_isi pins s σ H xs us Q I r h
  · obtain ⟨u1, u2, rfl, r1, r2⟩ := vals2 r
    cases (show u1 = Value.ref a from r1)
    have e2 := k.eq r2
    subst e2
    obtain ⟨⟨oe, vs, ho, hz, hd⟩, _, _⟩ := (show ObjOk X.prog X.w H s.heap a (ExV (.ref D) none a) from I.hok a _ ha)
    have J : PySem.W.InstAt s.heap a oe D none := by
      obtain ⟨oc, od, oda, osl⟩ := oe
      obtain ⟨h1, h2⟩ := hz
      dsimp only at h1 h2 hd
      subst h1 h2 hd
      exact ⟨ho, rfl, rfl, trivial⟩
    exact PySem.W.kia_one (PySem.W.handS_kitx_exc C.hg C.hk C.hs C.hd C.ha C.hn C.ht C.hm) I.kIn J e (fun z => nomatch z) fun tk => ⟨.bl b, H, I.kept (t' := tk) fun _ _ z => z, rfl, q⟩
end XB

set_option linter.all false
set_option maxRecDepth 100000
set_option maxHeartbeats 4000000
/-! XC: defs bundled under their names, operators by kind, readings from the left. -/
namespace XC
open PySem PySem.Spec PyProof.Rows L2 XA XB
/-! ### defs under their names -/
/-- the def as the top left it -/
def Rw (K : PySem.W.Frag) (mg : Str → Option Value) (x : Str) (st : Stmt) : Prop := ∃ f fd, FunD K x x (defArgs st) (defBody st) (defScope st) [] [] f fd ∧ mg x = some (.ref f)
/-- how the arguments bind -/
def Bnd (st : Stmt) (x : Str) (ps : List Str) : Prop := ∀ (kV doc pm : Value) (an : Option Addr) (cdv ct : Value) (us : List Value), us.length = ps.length → bindArgs (PySem.W.fnOf x x (defArgs st) (defBody st) (defScope st) .none kV doc pm an cdv ct) ⟨us, []⟩ = pure (ps.zip us)
def Bndk (st : Stmt) (x : Str) (ps : List Str) (n : Nat) (ks : List Str) : Prop := ∀ (kV doc pm : Value) (an : Option Addr) (cdv ct : Value) (us ws : List Value), us.length = n → ws.length = ks.length → bindArgs (PySem.W.fnOf x x (defArgs st) (defBody st) (defScope st) .none kV doc pm an cdv ct) ⟨us, ks.zip ws⟩ = pure (ps.zip (us ++ ws))
structure Df (P : Program) (w : World) (K : PySem.W.Frag) (mg : Str → Option Value) (base : Heap) (CX : CXT) (k : Nat) (x : Str) (st : Stmt) (ps : List Str) (sp : Sp) : Prop where
  ex : ∃ f fd, FnOk P w K mg base CX k f fd ps sp ∧ mg x = some (.ref f) ∧ PySem.W.keepIn K (.ref f) = true ∧ Binds K fd ps [] ∧ ∀ n ks, Bndk st x ps n ks → KBn K fd ps n ks (fun us ws => us ++ ws) (fun vs zs => vs ++ zs)
section
variable {P : Program} {w : World} {K : PySem.W.Frag} {mg : Str → Option Value} {base : Heap} {x : Str} {st : Stmt} {N ps : List Str} {k : Nat} {sp : Sp}
theorem kbn_of {f : Addr} {fd : FuncData} (F : FunD K x x (defArgs st) (defBody st) (defScope st) [] [] f fd) (n : Nat) (ks : List Str) (bd : Bndk st x ps n ks) : KBn K fd ps n ks (fun us ws => us ++ ws) (fun vs zs => vs ++ zs) := by
  obtain ⟨oc, od, dV, kV, doc, pm, an, cdv, ct, osl, rfl, lk, hcd, hD, hK⟩ := F.ex
  rcases hD with ⟨_, rfl⟩ | ⟨e, _⟩
  · exact ⟨fun s us ws _ l1 l2 => .of_eq (bd kV doc pm an cdv ct us ws l1 l2), fun r1 r2 => Vals.append r1 r2⟩
  · exact absurd rfl e
theorem mk0 (R : Rw K mg x st) (S : FnScope N ps (defScope st)) (bd : Bnd st x ps) (len : ∀ vs H Q E, sp vs H Q E → vs.length = ps.length)
    (hbody : ∀ (f : Addr) (cdv : Value) (A : Around) (outer : List Env) (s : Shared) (H : Hp) (vs : List V) (Q : VK) (E : XK), Room k (A.deeper (envOfC x (defScope st) s.heap.objs.size f cdv)) → sp vs H Q E →
      ∃ t, PSs (cxOf CX0 P w K mg base N x (defScope st) f cdv A outer s H E).nox (defBody st) t ∧ t { nx := fun _ H' => Q .non H', rt := Q } (L2.start N vs) H) : Df P w K mg base CX0 (k + 1) x st ps sp := by
  obtain ⟨f, fd, F, g⟩ := R
  refine ⟨f, fd, F.ok S len fun cdv A outer s H vs Q E hr h => ?_, g, F.kp, F.bindsN bd, kbn_of F⟩
  obtain ⟨t, a, b⟩ := hbody f cdv A outer s H vs Q E hr h
  exact ⟨t, a.nox, b⟩
theorem mkX (R : Rw K mg x st) (S : FnScope N ps (defScope st)) (bd : Bnd st x ps) (len : ∀ vs H Q E, sp vs H Q E → vs.length = ps.length)
    (hbody : ∀ (f : Addr) (cdv : Value) (A : Around) (outer : List Env) (s : Shared) (H : Hp) (vs : List V) (Q : VK) (E : XK), Room k (A.deeper (envOfC x (defScope st) s.heap.objs.size f cdv)) → sp vs H Q E →
      ∃ t, PSs (cxOf (L2.CX P w) P w K mg base N x (defScope st) f cdv A outer s H E) (defBody st) t ∧ t { nx := fun _ H' => Q .non H', rt := Q } (L2.start N vs) H) : Df P w K mg base (L2.CX P w) (k + 1) x st ps sp := by
  obtain ⟨f, fd, F, g⟩ := R
  exact ⟨f, fd, F.ok S len fun cdv A outer s H vs Q E hr h => hbody f cdv A outer s H vs Q E hr h, g, F.kp, F.bindsN bd, kbn_of F⟩
end
/-! ### calls -/
def tCl (sp : Sp) (E : XK) (t : TA) : TE := fun σ H Q => t σ H fun vs H1 => sp vs H1 Q E
def tCk (sp : Sp) (E : XK) (n m : Nat) (t tk : TA) : TE := fun σ H Q => t σ H fun vs H1 => tk σ H1 fun zs H2 => vs.length = n ∧ zs.length = m ∧ sp (vs ++ zs) H2 Q E
section
variable {X : Cx} {CX : CXT} {j k n : Nat} {x : Str} {st : Stmt} {ps ks : List Str} {sp : Sp} {E : XK} {p pos : Pos} {e : Expr} {es : List Expr} {kws : List Keyword} {t tk : TA}
theorem pe_d (D : Df X.prog X.w X.K X.mg X.base CX k x st ps sp) (hr : Room j X.A) (hk : k ≤ j) (hg : Gl X x) (hx : Passes CX X E) (ha : PA X (e :: es) t) (hdb : (x == ("__debug__" : Str)) = false := by decide)
    (he : starEach (e :: es) X.env = (false, eval e X.env) :: starEach es X.env := by rfl) (hpl : (backTo pos (starEach es X.env)).any (·.1) = false := by rfl) : PE X (.Call (.Name x p) (e :: es) [] pos) (tCl sp E t) := by
  obtain ⟨f, fd, F, g, kp, b, _⟩ := D
  refine ⟨fun pins s σ H Q I h => ?_⟩
  refine (pe_call (E := E) F (hr.mono hk) hg g kp b .nil hx ha hdb he hpl).run pins s σ H Q I ?_
  show t σ H fun vs H1 => sp (vs ++ []) H1 Q E
  simp only [List.append_nil]
  exact h
theorem pe_dk (D : Df X.prog X.w X.K X.mg X.base CX k x st ps sp) (bd : Bndk st x ps n ks) (hr : Room j X.A) (hk : k ≤ j) (hg : Gl X x) (hx : Passes CX X E) (ha : PA X (e :: es) t) (hkw : PK X kws tk)
    (hall : (backToKw pos (keywordEach kws X.env)).all (·.1.isSome) = true := by rfl) (hks : (backToKw pos (keywordEach kws X.env)).filterMap (·.1) = ks := by rfl)
    (hdb : (x == ("__debug__" : Str)) = false := by decide) (he : starEach (e :: es) X.env = (false, eval e X.env) :: starEach es X.env := by rfl)
    (hpl : ((backTo pos (starEach (e :: es) X.env)).any (·.1) || (backToKw pos (keywordEach kws X.env)).any (·.1.isNone)) = false := by rfl) : PE X (.Call (.Name x p) (e :: es) kws pos) (tCk sp E n ks.length t tk) := by
  obtain ⟨f, fd, F, g, kp, _, kb⟩ := D
  exact pe_callN F (hr.mono hk) hg g kp (kb n ks bd) hx ha hkw hall hks hdb he hpl
theorem pe_dk0 (D : Df X.prog X.w X.K X.mg X.base CX k x st ps sp) (bd : Bndk st x ps 0 ks) (hr : Room j X.A) (hk : k ≤ j) (hg : Gl X x) (hx : Passes CX X E) (hkw : PK X kws tk)
    (hall : (backToKw pos (keywordEach kws X.env)).all (·.1.isSome) = true := by rfl) (hks : (backToKw pos (keywordEach kws X.env)).filterMap (·.1) = ks := by rfl)
    (hdb : (x == ("__debug__" : Str)) = false := by decide)
    (hpl : ((backTo pos (starEach [] X.env)).any (·.1) || (backToKw pos (keywordEach kws X.env)).any (·.1.isNone)) = false := by rfl) : PE X (.Call (.Name x p) [] kws pos) (tCk sp E 0 ks.length tNil tk) := by
  obtain ⟨f, fd, F, g, kp, _, kb⟩ := D
  refine ⟨fun pins s σ H Q I h => ?_⟩
  refine wpAny_Call_Name_kw (ld_glob I hg g ?_ hdb)
  refine PySem.W.callWith_KW0 (h₀ := X.base) I.ok.mod.kin kp hall (thn (hkw.run pos pins s σ H _ I h) fun ws s2 ⟨zs, H2, I2, rz, l1, l2, q2⟩ => ⟨I2.kIn, ?_⟩) hpl
  rw [hks]
  exact run_fnN (us := []) (vs := []) F (hr.mono hk) (kb 0 ks bd) hx I2 .nil rz rfl l2 q2
/-- where errors may leave the def -/
theorem passX {P : Program} {w : World} {K : PySem.W.Frag} {mg : Str → Option Value} {base : Heap} {N : List Str} {qual : Str} {scope : Scope} {f : Addr} {cd : Value} {A : Around} {outer : List Env} {s : Shared} {H : Hp} {E : XK} :
    Passes (L2.CX P w) (cxOf (L2.CX P w) P w K mg base N qual scope f cd A outer s H E) E := passes_call (W := fun cls d _ H => E cls d H) (takes_of rfl rfl rfl rfl) fun _ _ _ _ h => h
/-- .. a lambda's body -/
theorem passLam {X : Cx} {A : Around} {outer : List Env} {s : Shared} {H : Hp} {E : XK} {scope : Scope} {f c' : Addr} : Passes (L2.CX X.prog X.w) (LamX.lamCx X A outer s H E scope f c') E := passes_call (W := fun cls d _ H => E cls d H) (takes_of rfl rfl rfl rfl) fun _ _ _ _ h => h
/-- a constant of the module -/
theorem pe_gi {i : Int} (h : ∃ t, X.mg x = some (.int i t)) (hg : Gl X x) (hdb : (x == ("__debug__" : Str)) = false := by decide) : PE X (.Name x p) (tC (.int i)) := by
  obtain ⟨t, h⟩ := h
  exact pe_glob hg h ⟨t, rfl⟩ hdb
/-- a class of the module -/
theorem pe_gc {C : Addr} (h : X.mg x = some (.ref C)) (hg : Gl X x) (hdb : (x == ("__debug__" : Str)) = false := by decide) : PE X (.Name x p) (tC (.ref C)) := pe_glob hg h rfl hdb
end
/-! ### operators by kind -/
def rAddU (K : PySem.W.Frag) : R2 := fun x y H Q => (∃ i j, x = .int i ∧ y = .int j ∧ Q (.int (i + j)) H) ∨ rCatA K x y H Q ∨ rCat x y H Q
def rMulU (K : PySem.W.Frag) : R2 := fun x y H Q => (∃ i j, x = .int i ∧ y = .int j ∧ CMul i j ∧ Q (.int (i * j)) H) ∨ rRepN K x y H Q
def rEqU (K : PySem.W.Frag) : R2 := fun x y H Q => rEq x y H Q ∨ rEqD K x y H Q
def rNeU (K : PySem.W.Frag) : R2 := fun x y H Q => rNe x y H Q ∨ rNeD K x y H Q
def rSlU (K : PySem.W.Frag) : V → Option Int → Option Int → Hp → VK → Prop := fun x lo hi H Q => rSlL K x lo hi H Q ∨ rSlN K x lo hi H Q
def rIsB2 : R2 := fun x y H Q => ∃ a b : Bool, x = .bl a ∧ y = .bl b ∧ Q (.bl (decide (a = b))) H
section
variable {X : Cx}
theorem opr_or {f : Value → Value → Sem Value} {r r' : R2} (a : OpR X f r) (b : OpR X f r') : OpR X f (fun x y H Q => r x y H Q ∨ r' x y H Q) := by
  intro pins s σ H x y v u Q I rx ry h
  rcases h with h | h
  · exact a pins s σ H x y v u Q I rx ry h
  · exact b pins s σ H x y v u Q I rx ry h
theorem op_addU : OpR X (binaryOp .Add) (rAddU X.K) := opr_or op_add (opr_or op_catA op_cat)
theorem op_mulU : OpR X (binaryOp .Mult) (rMulU X.K) := opr_or op_mul op_repN
theorem op_eqU (hu : X.A.units + 64 < cLine) : OpR X (compareOp .Eq) (rEqU X.K) := opr_or op_eq (op_eqD hu)
theorem op_neU (hu : X.A.units + 64 < cLine) : OpR X (compareOp .NotEq) (rNeU X.K) := opr_or op_ne (op_neD hu)
theorem sl_U : SlR X (rSlU X.K) := SlR.or sl_list sl_tupN
end
/-! ### readings, from the left -/
section
variable {K : PySem.W.Frag} {σ : L2.St} {H : Hp} {Q : VK} {v x y z : V} {i : Nat} {ta tb te tc : TE} {t u c : TT} {sp : Sp} {E : XK} {ts us : TS} {D : Ends} {g : TG} {gs : TGs}
theorem rd_var (h : σ[i]? = some (some v)) (q : Q v H) : tVar i σ H Q := ⟨v, h, q⟩
theorem rd_c (q : Q v H) : tC v σ H Q := q
theorem rd_op {r : R2} (h : ta σ H fun x H1 => tb σ H1 fun y H2 => r x y H2 Q) : tOp r ta tb σ H Q := h
theorem rd_un {r : V → Hp → VK → Prop} (h : ta σ H fun x H1 => r x H1 Q) : tUn r ta σ H Q := h
theorem rd_nil {Q : List V → Hp → Prop} (h : Q [] H) : tNil σ H Q := h
theorem rd_cons {tr : TA} {Q : List V → Hp → Prop} (h : ta σ H fun x H1 => tr σ H1 fun xs H2 => Q (x :: xs) H2) : tCons ta tr σ H Q := h
theorem rd_cl {ta : TA} (h : ta σ H fun vs H1 => sp vs H1 Q E) : tCl sp E ta σ H Q := h
theorem rd_ck {ta tk : TA} {n m : Nat} (h : ta σ H fun vs H1 => tk σ H1 fun zs H2 => vs.length = n ∧ zs.length = m ∧ sp (vs ++ zs) H2 Q E) : tCk sp E n m ta tk σ H Q := h
theorem rd_cb {r : List V → Hp → VK → Prop} {ta : TA} (h : ta σ H fun vs H1 => r vs H1 Q) : tCB r ta σ H Q := h
theorem rd_seq (h : ts { D with nx := us D } σ H) : tSeq ts us D σ H := h
theorem rd_next (h : D.nx σ H) : tNext D σ H := h
theorem rd_cont (h : D.ct σ H) : tCont D σ H := h
theorem rd_asg (h : te σ H fun x H1 => g x σ H1 D.nx) : tAsg te g D σ H := h
theorem rd_gn {Q : L2.St → Hp → Prop} (h : Q (σ.set i (some v)) H) : gName i v σ H Q := h
theorem rd_drop (h : te σ H fun _ H1 => D.nx σ H1) : tDrop te D σ H := h
theorem rd_ret (h : te σ H D.rt) : tRet te D σ H := h
theorem rd_ifs (h : c σ H fun b H1 => if b = true then ts D σ H1 else us D σ H1) : tIfS c ts us D σ H := h
theorem rd_if (h : c σ H fun b H1 => if b = true then ta σ H1 Q else tb σ H1 Q) : tIf c ta tb σ H Q := h
theorem rd_test {Q : Bool → Hp → Prop} (h : te σ H fun x H1 => ∃ k, x = .bl k ∧ Q k H1) : tTest te σ H Q := h
theorem rd_tb {Q : Bool → Hp → Prop} (h : te σ H fun x H1 => ∃ k, x = .bl k ∧ Q k H1) : tB te σ H Q := h
theorem rd_and {Q : Bool → Hp → Prop} (h : t σ H fun b H1 => if b = true then u σ H1 Q else Q false H1) : tAnd t u σ H Q := h
theorem rd_or {Q : Bool → Hp → Prop} (h : t σ H fun b H1 => if b = true then Q true H1 else u σ H1 Q) : tOr t u σ H Q := h
theorem rd_not {Q : Bool → Hp → Prop} (h : t σ H fun b H1 => Q (!b) H1) : tNot t σ H Q := h
theorem rd_andV (h : ta σ H fun x H1 => ∃ b, x = .bl b ∧ if b = true then tb σ H1 Q else Q (.bl false) H1) : tAndV ta tb σ H Q := h
theorem rd_orV (h : ta σ H fun x H1 => ∃ b, x = .bl b ∧ if b = true then Q (.bl true) H1 else tb σ H1 Q) : tOrV ta tb σ H Q := h
theorem rd_notV (h : ta σ H fun x H1 => ∃ b, x = .bl b ∧ Q (.bl (!b)) H1) : tNotV ta σ H Q := h
theorem rd_chain {r r' : R2} (h : ta σ H fun x H1 => tb σ H1 fun y H2 => r x y H2 fun z H3 => ∃ k, z = .bl k ∧ (if k = true then tc σ H3 fun w' H4 => r' y w' H4 Q else Q (.bl false) H3)) : tChain r r' ta tb tc σ H Q := h
theorem rd_tup {t : TA} (h : t σ H fun xs H1 => xs.length ≤ sizeLine ∧ ∀ p, H1 p = none → Q (.ref p) (upd H1 p (.tup xs))) : tTup t σ H Q := h
theorem rd_lst {t : TA} (h : t σ H fun xs H1 => xs.length ≤ sizeLine ∧ ∀ p, H1 p = none → Q (.ref p) (upd H1 p (.lst xs))) : tLst t σ H Q := h
theorem rd_bm0 {T : String} {r : V → List V → Hp → VK → Prop} (h : ta σ H fun x H1 => tyV K T x H1 ∧ r x [] H1 Q) : tBM0 K T r ta σ H Q := h
theorem rd_bm {T : String} {r : V → List V → Hp → VK → Prop} {t : TA} (h : ta σ H fun x H1 => tyV K T x H1 ∧ t σ H1 fun xs H2 => r x xs H2 Q) : tBM K T r ta t σ H Q := h
theorem rd_sl {r : V → Option Int → Option Int → Hp → VK → Prop} {tl th : TO} (h : te σ H fun x H1 => tl σ H1 fun l H2 => th σ H2 fun u H3 => r x l u H3 Q) : tSl r te tl th σ H Q := h
theorem rd_part {Q : Option Int → Hp → Prop} (h : te σ H fun x H1 => ∃ i, x = .int i ∧ Q (some i) H1) : tPart te σ H Q := h
theorem rd_nopart {Q : Option Int → Hp → Prop} (h : Q none H) : tNoPart σ H Q := h
theorem rd_dget (h : ta σ H fun x H1 => tb σ H1 fun y H2 => ∃ a v, x = .ref a ∧ DGet H2 a y (some v) ∧ Q v H2) : tDGet ta tb σ H Q := h
theorem rd_dput (h : tc σ H fun v H1 => ta σ H1 fun x H2 => tb σ H2 fun y H3 => ∃ a H4, x = .ref a ∧ DPut H3 a y v H4 ∧ D.nx σ H4) : sDPut ta tb tc D σ H := h
theorem rd_isN (h : ta σ H fun x H1 => Q (.bl (decide (x = .non))) H1) : tIsN ta σ H Q := h
/-- answers -/
theorem rd_bl {b : Bool} {R : Bool → Prop} (h : R b) : ∃ k, V.bl b = .bl k ∧ R k := ⟨b, rfl, h⟩
theorem rd_int {j : Int} {R : Int → Prop} (h : R j) : ∃ k, V.int j = .int k ∧ R k := ⟨j, rfl, h⟩
theorem rd_I0 {f : Int → Int → V} {j k : Int} (h : Q (f j k) H) : rI0 f (.int j) (.int k) H Q := ⟨j, k, rfl, rfl, h⟩
theorem rd_I {C : Int → Int → Prop} {f : Int → Int → V} {j k : Int} (hc : C j k) (h : Q (f j k) H) : rI C f (.int j) (.int k) H Q := ⟨j, k, rfl, rfl, hc, h⟩
theorem rd_U {f : Int → V} {j : Int} (h : Q (f j) H) : rU f (.int j) H Q := ⟨j, rfl, h⟩
theorem rd_addI {j k : Int} (h : Q (.int (j + k)) H) : rAddU K (.int j) (.int k) H Q := .inl ⟨j, k, rfl, rfl, h⟩
theorem rd_mulI {j k : Int} (hc : CMul j k) (h : Q (.int (j * k)) H) : rMulU K (.int j) (.int k) H Q := .inl ⟨j, k, rfl, rfl, hc, h⟩
theorem rd_eqS (h : scal x y = true) (q : Q (.bl (decide (x = y))) H) : rEqU K x y H Q := .inl ⟨h, q⟩
theorem rd_neS (h : scal x y = true) (q : Q (.bl (!decide (x = y))) H) : rNeU K x y H Q := .inl ⟨h, q⟩
theorem rd_eqI {j k : Int} (q : Q (.bl (decide (j = k))) H) : rEqU K (.int j) (.int k) H Q := .inl ⟨rfl, by
  rw [show decide (V.int j = V.int k) = decide (j = k) from by simp]
  exact q⟩
theorem rd_neI {j k : Int} (q : Q (.bl (!decide (j = k))) H) : rNeU K (.int j) (.int k) H Q := .inl ⟨rfl, by
  rw [show decide (V.int j = V.int k) = decide (j = k) from by simp]
  exact q⟩
theorem rd_ite {b : Bool} {A B : Prop} (h1 : b = true → A) (h2 : b = false → B) : if b = true then A else B := by
  cases b with
  | true => exact h1 rfl
  | false => exact h2 rfl
theorem rd_new {o : HO} {R : V → Hp → Prop} (hl : H = H) (h : ∀ p, H p = none → R (.ref p) (upd H p o)) : ∀ p, H p = none → R (.ref p) (upd H p o) := h
theorem rd_lenT {p : Addr} {xs : List V} (h : SqT K H p xs) (q : Q (.int (xs.length : Int)) H) : ∃ x n, [V.ref p] = [x] ∧ LenV K x H n ∧ Q (.int (n : Nat)) H := ⟨_, _, rfl, Or.inr ⟨xs, h, rfl⟩, q⟩
theorem rd_lenL {p : Addr} {xs : List V} (h : SqL K H p xs) (q : Q (.int (xs.length : Int)) H) : ∃ x n, [V.ref p] = [x] ∧ LenV K x H n ∧ Q (.int (n : Nat)) H := ⟨_, _, rfl, Or.inl ⟨xs, h, rfl⟩, q⟩
theorem rd_ixT {p : Addr} {xs : List V} {i : Int} (h : SqT K H p xs) (ha : atI xs i = some v) (q : Q v H) : rIx K (.ref p) (.int i) H Q := .inr (.inl ⟨p, xs, i, v, rfl, rfl, h, ha, q⟩)
theorem rd_ixL {p : Addr} {xs : List V} {i : Int} (h : SqL K H p xs) (ha : atI xs i = some v) (q : Q v H) : rIx K (.ref p) (.int i) H Q := .inl ⟨p, xs, i, v, rfl, rfl, h, ha, q⟩
theorem rd_tupOfL {p : Addr} {xs : List V} (h : SqL K H p xs) (q : NewT H xs Q) : rTupOf K [.ref p] H Q := ⟨p, xs, rfl, .inl ⟨h, q⟩⟩
theorem rd_app {l : Addr} {xs : List V} (h : H l = some (.lst xs)) (hz : xs.length < sizeLine) (q : Q .non (upd H l (.lst (xs ++ [y])))) : tyV K "list" (.ref l) H ∧ rAppend (.ref l) [y] H Q := ⟨.inl ⟨rfl, _, .inl (.inl h)⟩, l, xs, y, rfl, rfl, h, hz, q⟩
theorem tyL {l : Addr} {xs : List V} (h : SqL K H l xs) : tyV K "list" (.ref l) H := .inl ⟨rfl, _, h⟩
end
end XC
namespace XC
open PySem PySem.Spec PyProof.Rows L2 XA XB
section
variable {X : Cx} {tg : Expr}
def iU (K : PySem.W.Frag) (tl : TE) : TI := fun σ H R => iList K tl σ H R ∨ iTup K tl σ H R
theorem pi_U {l : Expr} {tl : TE} (hl : PE X l tl) : PI X tg l (iU X.K tl) :=
  ⟨fun pins s σ H R I h => h.elim (fun h => (pi_list hl).run pins s σ H R I h) fun h => (pi_tup hl).run pins s σ H R I h⟩
end
/-! ### an exception class of the program -/
structure Xc (K : PySem.W.Frag) (mg : Str → Option Value) (x : Str) (C : Addr) : Prop where
  g : mg x = some (.ref C)
  x : PySem.W.excIn K C He.veBase "ValueError.__new__" = true
  k : PySem.W.keepIn K (.ref C) = true
  b : PySem.W.subIn K (.ref C) (.type "BaseException") = some true
  t : PySem.W.typeIn K (.ref C) = some (.type "type")
  c : ExcC K C
theorem pmkx {X : Cx} {C : Addr} {x : Str} {e : Expr} {ta : TE} {p pos : Pos} (T : Xc X.K X.mg x C) (hg : Gl X x) (he : PE X e ta) (hs : starEach [e] X.env = (false, eval e X.env) :: starEach [] X.env := by rfl) (hdb : (x == ("__debug__" : Str)) = false := by decide) :
    PMk X (.Call (.Name x p) [e] [] pos) (fun σ H Q => ta σ H fun _ H1 => Q (.ref C) none H1) := SkE.pmk_own1 PySem.F.excBase_ValueError T.x T.g T.k (raises_own T.b T.t) hg he hs hdb
/-! ### _law_caught -/
/-- what is made of the lambda's reading: None, or the error that it raised -/
def TCaught (K : PySem.W.Frag) (CS : Addr) : (XK → Hp → VK → Prop) → Hp → VK → Prop := fun tl H Q => ∀ (Ech : XK) (Q' : VK),
  (∀ cls d H', PySem.W.exmOne K cls (.ref CS) = some true → (∀ a, H' a = none → Q (.ref a) (upd H' a (ExV cls d a))) → Ech cls d H') → (∀ v H', Q .non H' → Q' v H') → tl Ech H Q'
/-- an expression whose value is dropped, told by its place alone -/
theorem caught_gives {X : Cx} {g CS : Addr} {cdg : Value} {sg : Scope} {q e : Str} {j : Nat} {p1 p2 p3 p4 p5 p6 p7 p8 p9 p10 p11 p12 p13 p14 p15 : Pos} (nd : (["action", "found", "error"] : List Str).Nodup) (hge : sg.names.lookup e = some .globalImplicit) (hme : X.mg e = some (.ref CS)) (hde : (e == ("__debug__" : Str)) = false)
    (hf : sg.names.lookup ("found" : Str) = some .local) (hr : sg.names.lookup ("error" : Str) = some .local) :
    LamX.GivesTo X ["action", "found", "error"] "_law_caught" sg g cdg [.Assign [.Name "found" p1] (.Constant .none j p2) p3,
      .Try [.Expr (.Call (.Name "action" p4) [] [] p5) p6] [.ExceptHandler (some (.Name e p7)) (some "error") [.Assign [.Name "found" p8] (.Name "error" p9) p10] p11] [] [] p12,
      .Return (some (.Name "found" p13)) p14] "action" q (TCaught X.K CS) := by
  intro f c' s H Q tl act hc h
  let Y : Cx := (cxOf C8.CX0 X.prog X.w X.K X.mg X.base ["action", "found", "error"] "_law_caught" sg g cdg X.A X.stack s H C8.E0).nox
  have hgl : Gl Y e := hge
  have body : ∀ (W : WX) (pn : List (Addr × Obj)) (xe : Value → Shared → Prop), Takes (Y.tr pn xe) W → PassesOwn (model Y.prog Y.w) Y.A Y.env xe →
      PSs (Y.tr pn xe) [.Expr (.Call (.Name "action" p4) [] [] p5) p6] (fun D σ H => ∃ Ech : XK, (∀ cls d (σ' : L2.St) H', σ'.length = 3 → Ech cls d H' → W cls d σ' H') ∧ σ[0]? = some (some (.ref f)) ∧ H c' = some (LamX.CodeO c' q) ∧ tl Ech H fun _ H' => D.nx σ H') := by
    intro W pn xe tk hp
    refine ⟨fun pins s1 σ1 H1 D I h1 => ?_⟩
    obtain ⟨Ech, hW, h2, h3, h4⟩ := h1
    have tk2 : Takes (Y.tr pn xe) (fun cls d σ' H' => σ'.length = 3 → W cls d σ' H') := fun u s' ⟨a, B, sI, pins', σ', H', cls, d, e1, I', nb, up, sky, na, os, ag, w⟩ =>
      tk u s' ⟨a, B, sI, pins', σ', H', cls, d, e1, I', nb, up, sky, na, os, ag, w I'.len⟩
    have hp := act (fun cls d σ' H' => σ'.length = 3 → W cls d σ' H') pn xe Ech p4 p5 tk2 fun cls d σ' H' q l => hW cls d σ' H' l q
    exact (pss_one (ps_expr (pos := p6) hp)).run pins s1 σ1 H1 D I ⟨h2, h3, h4⟩
  have suite : ∀ (a : Addr) (oe : Obj) (cls : Value) (d : Option Addr) (pn : List (Addr × Obj)), Zc cls d oe → (∃ vs, oe.data = .fields vs) → PSs (Y.suite a ((a, oe) :: pn)) [.Assign [.Name "found" p8] (.Name "error" p9) p10] (tAsg (tVar 2) (gName 1)) := fun a oe cls d pn _ _ =>
    pss_one (ps_set (X := Y.suite a ((a, oe) :: pn)) (i := 1) nd rfl (.inl hf) (pe_var (X := Y.suite a ((a, oe) :: pn)) (i := 2) rfl (.inl hr)) (hf := .inr hf))
  refine ⟨_, pss_cons (ps_set (X := Y) (i := 1) nd rfl (.inl hf) pe_non (hf := .inr hf))
    (pss_cons (ps_try_asV (X := Y) (i := 2) (c := .ref CS) rfl rfl rfl nd rfl hr ⟨hgl, hde, .inl hme⟩ L2.takes0 body suite)
    (pss_one (ps_ret (pe_var (X := Y) (i := 1) rfl (.inl hf))))), ?_⟩
  refine ⟨fun cls d H' => PySem.W.exmOne X.K cls (.ref CS) = some true ∧ ∀ a, H' a = none → Q (.ref a) (upd H' a (ExV cls d a)), fun cls d σ' H' hl w => ?_, rfl, hc, ?_⟩
  · obtain ⟨m, k⟩ := w
    refine ⟨true, m, fun _ a ha => ?_, fun z => nomatch z⟩
    have l2 : 2 < σ'.length := by omega
    refine ⟨.ref a, ?_, ?_⟩
    · rw [List.getElem?_set_self l2]
    · refine ⟨.ref a, ?_, k a ha⟩
      rw [List.getElem?_set_ne (by decide), List.getElem?_set_self (by simp only [List.length_set]; omega)]
  · exact h _ _ (fun cls d H' m k => ⟨m, k⟩) fun v H' q => ⟨.non, rfl, q⟩
end XC

/-! XM: free reduction of lists of whole numbers; core Lean only. -/
namespace XM
/-- a letter comes onto a stack: it goes away with its undo, or lies on top -/
def push : List Int → Int → List Int
  | [], x => [x]
  | y :: r, x => if y = -x then r else x :: y :: r
def stack (st xs : List Int) : List Int := xs.foldl push st
def red (xs : List Int) : List Int := (stack [] xs).reverse
theorem push_c {y x : Int} (r : List Int) (e : y = -x) : push (y :: r) x = r := by
  show (if y = -x then r else x :: y :: r) = r
  rw [if_pos e]
theorem push_n {y x : Int} (r : List Int) (e : ¬ y = -x) : push (y :: r) x = x :: y :: r := by
  show (if y = -x then r else x :: y :: r) = x :: y :: r
  rw [if_neg e]
/-- no neighbours that undo one another -/
def Ok : List Int → Prop
  | [] => True
  | [_] => True
  | y :: z :: r => y ≠ -z ∧ Ok (z :: r)
theorem Ok.tail : ∀ {y : Int} {r : List Int}, Ok (y :: r) → Ok r
  | _, [], _ => trivial
  | _, _ :: _, h => h.2
theorem ok_push {st : List Int} (h : Ok st) (x : Int) : Ok (push st x) := by
  cases st with
  | nil => trivial
  | cons y r =>
    by_cases e : y = -x
    · rw [push_c r e]; exact h.tail
    · rw [push_n r e]; exact ⟨fun z => e (by omega), h⟩
theorem ok_stack : ∀ (xs : List Int) {st : List Int}, Ok st → Ok (stack st xs)
  | [], _, h => h
  | x :: xs, _, h => ok_stack xs (ok_push h x)
theorem push_back {st : List Int} (h : Ok st) (x : Int) : push (push st x) (-x) = st := by
  cases st with
  | nil => exact push_c [] (by omega)
  | cons y r =>
    by_cases e : y = -x
    · rw [push_c r e]
      cases r with
      | nil => rw [e]; rfl
      | cons z r =>
        have hz : ¬ z = - -x := fun q => h.1 (by omega)
        rw [push_n r hz, e]
    · rw [push_n r e]
      exact push_c (y :: r) (by omega)
theorem stack_append (st xs ys : List Int) : stack st (xs ++ ys) = stack (stack st xs) ys := by
  unfold stack; rw [List.foldl_append]
theorem stack_snoc (st xs : List Int) (x : Int) : stack st (xs ++ [x]) = push (stack st xs) x := by
  rw [stack_append]; rfl
/-- the reduced word acts on stacks as the word does -/
theorem stack_red : ∀ (n : Nat) (xs : List Int), xs.length = n → ∀ {st : List Int}, Ok st → stack st (red xs) = stack st xs := by
  intro n
  induction n with
  | zero =>
    intro xs h st _
    have e : xs = [] := List.eq_nil_of_length_eq_zero h
    subst e; rfl
  | succ n ih =>
    intro xs h st hs
    obtain ⟨zs, x, rfl⟩ : ∃ zs x, xs = zs ++ [x] := by
      cases hx : xs.reverse with
      | nil =>
        have : xs = [] := by simpa using hx
        subst this; simp at h
      | cons x r => exact ⟨r.reverse, x, by rw [← List.reverse_reverse xs, hx, List.reverse_cons]⟩
    have hz : zs.length = n := by simpa using h
    have e1 := ih zs hz hs
    rw [stack_snoc, ← e1]
    show stack st (stack [] (zs ++ [x])).reverse = push (stack st (stack [] zs).reverse) x
    rw [stack_snoc]
    cases hk : stack [] zs with
    | nil => rfl
    | cons y r =>
      by_cases e : y = -x
      · rw [push_c r e, List.reverse_cons, stack_snoc, e]
        have hr : Ok (stack st r.reverse) := ok_stack _ hs
        have := push_back hr (-x)
        rw [Int.neg_neg] at this
        exact this.symm
      · rw [push_n r e, List.reverse_cons, stack_snoc]
theorem act (xs : List Int) {st : List Int} (h : Ok st) : stack st (red xs) = stack st xs := stack_red _ xs rfl h
theorem red_red (xs : List Int) : red (red xs) = red xs := by
  show (stack [] (red xs)).reverse = _
  rw [act xs (st := []) True.intro]; rfl
theorem red_left (xs ys : List Int) : red (red xs ++ ys) = red (xs ++ ys) := by
  unfold red
  rw [stack_append, stack_append]
  have := act xs (st := []) True.intro
  unfold red at this
  rw [this]
theorem red_right (xs ys : List Int) : red (xs ++ red ys) = red (xs ++ ys) := by
  show (stack [] (xs ++ red ys)).reverse = (stack [] (xs ++ ys)).reverse
  rw [stack_append, stack_append, act ys (ok_stack xs (st := []) True.intro)]
/-! ### lengths, letters, counts -/
theorem push_len (st : List Int) (x : Int) : (push st x).length ≤ st.length + 1 := by
  cases st with
  | nil => simp [push]
  | cons y r =>
    by_cases e : y = -x
    · rw [push_c r e, List.length_cons]; omega
    · rw [push_n r e, List.length_cons]; omega
theorem stack_len : ∀ (xs st : List Int), (stack st xs).length ≤ st.length + xs.length
  | [], st => by simp [stack]
  | x :: xs, st => by
    have h1 := stack_len xs (push st x)
    have h2 := push_len st x
    show (stack (push st x) xs).length ≤ _
    simp only [List.length_cons]; omega
theorem red_len (xs : List Int) : (red xs).length ≤ xs.length := by
  have := stack_len xs []
  simpa [red] using this
theorem push_mem {st : List Int} {x z : Int} (h : z ∈ push st x) : z ∈ st ∨ z = x := by
  cases st with
  | nil => exact .inr (List.mem_singleton.mp h)
  | cons y r =>
    by_cases e : y = -x
    · rw [push_c r e] at h
      exact .inl (List.mem_cons_of_mem _ h)
    · rw [push_n r e] at h
      rcases List.mem_cons.mp h with e | e
      · exact .inr e
      · exact .inl e
theorem stack_mem : ∀ {xs st : List Int} {z : Int}, z ∈ stack st xs → z ∈ st ∨ z ∈ xs
  | [], _, _, h => .inl h
  | x :: xs, st, z, h => by
    rcases stack_mem (xs := xs) (st := push st x) h with q | q
    · rcases push_mem q with q | q
      · exact .inl q
      · exact .inr (by rw [q]; exact List.mem_cons_self)
    · exact .inr (List.mem_cons_of_mem _ q)
theorem red_mem {xs : List Int} {z : Int} (h : z ∈ red xs) : z ∈ xs := by
  unfold red at h
  rcases stack_mem (List.mem_reverse.mp h) with q | q
  · cases q
  · exact q
/-- how often a letter stands, less how often its undo -/
def bal (d : Int) (xs : List Int) : Int := (xs.count d : Int) - (xs.count (-d) : Int)
theorem bal_cons (d x : Int) (xs : List Int) (hd : d ≠ 0) : bal d (x :: xs) = bal d xs + (if x = d then 1 else if x = -d then -1 else 0) := by
  unfold bal
  rw [List.count_cons, List.count_cons]
  by_cases h1 : x = d
  · subst h1
    have h2 : ¬ x = -x := fun z => hd (by omega)
    simp [h2]; omega
  · by_cases h2 : x = -d
    · have h3 : ¬ (-d = d) := fun z => hd (by omega)
      subst h2
      simp [h3]; omega
    · simp [h1, h2]
theorem bal_push (d : Int) (hd : d ≠ 0) (st : List Int) (x : Int) : bal d (push st x) = bal d st + (if x = d then 1 else if x = -d then -1 else 0) := by
  cases st with
  | nil => exact bal_cons d x [] hd
  | cons y r =>
    by_cases e : y = -x
    · rw [push_c r e, bal_cons d y r hd]
      subst e
      by_cases h1 : x = d
      · subst h1
        have h3 : ¬ (-x = x) := fun z => hd (by omega)
        rw [if_neg h3, if_pos rfl, if_pos rfl]; omega
      · by_cases h2 : x = -d
        · have h3 : -x = d := by omega
          rw [if_pos h3, if_neg h1, if_pos h2]; omega
        · have h3 : ¬ (-x = d) := fun z => h2 (by omega)
          have h4 : ¬ (-x = -d) := fun z => h1 (by omega)
          rw [if_neg h3, if_neg h4, if_neg h1, if_neg h2]; omega
    · rw [push_n r e, bal_cons d x (y :: r) hd]
theorem bal_stack (d : Int) (hd : d ≠ 0) : ∀ (xs st : List Int), bal d (stack st xs) = bal d st + bal d xs
  | [], st => by simp [stack, bal]
  | x :: xs, st => by
    show bal d (stack (push st x) xs) = _
    rw [bal_stack d hd xs (push st x), bal_push d hd, bal_cons d x xs hd]; omega
theorem bal_rev (d : Int) (xs : List Int) : bal d xs.reverse = bal d xs := by
  unfold bal; rw [List.count_reverse, List.count_reverse]
theorem bal_red (d : Int) (hd : d ≠ 0) (xs : List Int) : bal d (red xs) = bal d xs := by
  unfold red
  rw [bal_rev, bal_stack d hd]; simp [bal]
/-- undone -/
def inv (xs : List Int) : List Int := xs.reverse.map fun x => -x
theorem inv_len (xs : List Int) : (inv xs).length = xs.length := by simp [inv]
theorem red_nil : red [] = [] := rfl
end XM

set_option linter.all false
set_option maxRecDepth 100000
set_option maxHeartbeats 4000000
/-! XD: data, comprehensions without side effects, heaps. -/
namespace XD
open PySem PySem.Spec PyProof.Rows L2 XA XB XC
theorem sqT_same {K : PySem.W.Frag} {H H' : Hp} {a : Addr} {xs : List V} (e : Same H H') (h : SqT K H a xs) : SqT K H' a xs := by
  rcases h with (h | ⟨o, h⟩) | h
  · exact .inl (.inl (e _ _ h))
  · exact .inl (.inr ⟨o, e _ _ h⟩)
  · exact .inr h
theorem same_new {H : Hp} {p : Addr} {o : HO} (h : H p = none) : Same H (upd H p o) := fun b u q => by
  rw [upd_ne (ne_of_none q h)]
  exact q
/-- an object that wasn't there ahead may change -/
theorem same_mut {H H' : Hp} {p : Addr} {o : HO} (e : Same H H') (h : H p = none) : Same H (upd H' p o) := fun b u q => by
  rw [upd_ne (ne_of_none q h)]
  exact e _ _ q
theorem lz {n : Nat} (h : n ≤ 100000) : n ≤ sizeLine := Nat.le_trans h (by decide)
theorem lzl {n : Nat} (h : n < 100000) : n < sizeLine := Nat.lt_of_lt_of_le h (by decide)
/-! ### a comprehension whose parts change nothing that was there -/
theorem lc_pure {J : It} {n : Nat} {G : Hp → Prop} {Y : Nat → Hp → V → Hp → Prop} (w : L2.Walk J n G Y) {g : TG} {tt : TT} {te : TE} {vs : List Nat} {σ : L2.St} {H1 : Hp} {D : Addr} {Qd : Hp → Prop} (hD : H1 D = none) (its : List V) (p : V → Bool) (f : V → V)
    (hn : its.length = n) (hz : n < 100000) (hG : ∀ H', Same H1 H' → G H') (hY : ∀ i H x H', i < n → Y i H x H' → H' = H ∧ its[i]? = some x)
    (hs : ∀ x H', x ∈ its → Same H1 H' → ∀ (R : V → Hp → Prop) (R0 : Hp → Prop), (p x = true → ∀ H'', Same H' H'' → R (f x) H'') → (p x = false → ∀ H'', Same H' H'' → R0 H'') →
      g x (wipe σ vs) H' fun σ2 H2 => wipe σ2 vs = wipe σ vs ∧ tt σ2 H2 fun b H3 => if b = true then te σ2 H3 R else R0 H3)
    (hd : ∀ H', Same H1 H' → H' D = some (.lst ((its.filter p).map f)) → Qd H') :
    ∃ W : Nat → Nat → Hp → Prop, (∃ m, W 0 m (upd H1 D (.lst []))) ∧ ∀ i m H, W i m H →
      (J.stop i H ∧ Qd H) ∨ (J.go i H ∧ ∃ Nx : Hp → Prop, (∀ H', Nx H' → ∃ m', m' < m ∧ W (i + 1) m' H') ∧ ∀ x H', J.yld i H x H' → g x (wipe σ vs) H' fun σ2 H2 => wipe σ2 vs = wipe σ vs ∧ tt σ2 H2 fun b H3 =>
        if b = true then te σ2 H3 fun y H4 => ∃ acc, H4 D = some (.lst acc) ∧ acc.length < sizeLine ∧ Nx (upd H4 D (.lst (acc ++ [y]))) else Nx H3) := by
  have hl : ∀ i, ((((its.take i).filter p).map f).length) ≤ n := fun i => by
    rw [List.length_map, ← hn]
    exact Nat.le_trans (List.length_filter_le _ _) (by rw [List.length_take]; omega)
  refine lc_it w (fun i H => Same H1 H ∧ H D = some (.lst (((its.take i).filter p).map f))) ⟨same_new hD, upd_same⟩ (fun i H _ h => hG H h.1) (fun i x H H' hi h y => ?_) fun H h => ?_
  · obtain ⟨rfl, hx⟩ := hY i H x _ hi y
    have et : its.take (i + 1) = its.take i ++ [x] := by rw [List.take_add_one, hx] <;> rfl
    refine hs x _ (List.mem_of_getElem? hx) h.1 _ _ (fun hp H'' e => ⟨_, e _ _ h.2, lzl (Nat.lt_of_le_of_lt (hl i) hz), same_mut (h.1.trans e) hD, ?_⟩) (fun hp H'' e => ⟨h.1.trans e, ?_⟩)
    · rw [upd_same, et, List.filter_append, List.map_append]
      simp [List.filter, hp]
    · rw [e _ _ h.2, et, List.filter_append]
      simp [List.filter, hp]
  · refine hd H h.1 ?_
    rw [h.2, ← hn, List.take_length]
theorem walk_revT {K : PySem.W.Frag} {a : Addr} {xs : List V} : L2.Walk (RT.ItvT K a xs.length) xs.length (fun H => SqT K H a xs) (fun i H x H' => H' = H ∧ xs.reverse[i]? = some x) := by
  refine ⟨fun i _ hi q => ⟨hi, xs, xs[xs.length - 1 - i]'(by omega), q, by simp [show xs.length - 1 - i < xs.length by omega]⟩, fun _ _ => Nat.le_refl _, fun i _ x _ hi q y => ⟨y.1, ?_⟩⟩
  rw [List.getElem?_reverse hi]
  exact y.2 xs q
/-! ### values of any kind -/
inductive Dat where
  | flat (v : V)
  | tup (xs : List V)
  | lst (xs : List V)
  | dct
def plainV : V → Bool
  | .non => true
  | .bl _ => true
  | .int _ => true
  | .str _ => true
  | _ => false
/-- what a tuple holds: plain values, and not too many -/
def okB (xs : List V) : Bool := xs.all plainV && decide (xs.length ≤ 20000)
theorem okB_all {xs : List V} (h : okB xs = true) : xs.all plainV = true := (Bool.and_eq_true_iff.mp h).1
theorem okB_len {xs : List V} (h : okB xs = true) : xs.length ≤ 20000 := of_decide_eq_true (Bool.and_eq_true_iff.mp h).2
theorem okI {xs : List Int} (h : xs.length ≤ 20000) : okB (xs.map V.int) = true := Bool.and_eq_true_iff.mpr ⟨by simp [List.all_map, plainV], decide_eq_true (by rw [List.length_map]; exact h)⟩
def Rp (K : PySem.W.Frag) (H : Hp) (v : V) : Dat → Prop
  | .flat u => v = u ∧ plainV u = true
  | .tup xs => ∃ a, v = .ref a ∧ SqT K H a xs ∧ okB xs = true
  | .lst xs => ∃ a, v = .ref a ∧ SqL K H a xs
  | .dct => ∃ a kvs, v = .ref a ∧ H a = some (.dK kvs) ∧ kvs.length ≤ 1
theorem Rp.same {K : PySem.W.Frag} {H H' : Hp} {v : V} {d : Dat} (h : Rp K H v d) (e : Same H H') : Rp K H' v d := by
  cases d with
  | flat u => exact h
  | tup xs => obtain ⟨a, q, r, z⟩ := h; exact ⟨a, q, sqT_same e r, z⟩
  | lst xs => obtain ⟨a, q, r⟩ := h; exact ⟨a, q, e.seq r⟩
  | dct => obtain ⟨a, kvs, q, r, z⟩ := h; exact ⟨a, kvs, q, e _ _ r, z⟩
def Dat.ty : Dat → String
  | .flat .non => "NoneType"
  | .flat (.bl _) => "bool"
  | .flat (.int _) => "int"
  | .flat (.str _) => "str"
  | .flat _ => "object"
  | .tup _ => "tuple"
  | .lst _ => "list"
  | .dct => "dict"
theorem Rp.ty {K : PySem.W.Frag} {H : Hp} {v : V} {d : Dat} (h : Rp K H v d) : TyX K H v (.type d.ty) := by
  cases d with
  | flat u =>
    obtain ⟨rfl, hp⟩ := h
    cases v with
    | non => exact .base .non
    | bl b => exact .base (.bl b)
    | int i => exact .base (.int i)
    | str x => exact .base (.str x)
    | _ => cases hp
  | tup xs =>
    obtain ⟨a, rfl, (q | ⟨o, q⟩) | q, _⟩ := h
    · exact .base (.tup q)
    · exact .fTuple q
    · obtain ⟨o, its, n, e, c, _⟩ := q
      exact .kTuple e c
  | lst xs =>
    obtain ⟨a, rfl, (q | ⟨o, q⟩) | q⟩ := h
    · exact .base (.lst q)
    · exact .base (.frz q)
    · obtain ⟨o, its, n, e, c, _⟩ := q
      exact .kList e c
  | dct =>
    obtain ⟨a, kvs, rfl, q, _⟩ := h
    exact .base (.dK q)
/-- isinstance(v, T) -/
theorem rd_isT {K : PySem.W.Frag} {H : Hp} {v : V} {d : Dat} {T : String} {b : Bool} {Q : VK} (h : Rp K H v d) (e : kitB d.ty T = some b) (q : Q (.bl b) H) : rIsU K [v, .ty T] H Q :=
  .inl ⟨v, .ty T, .type d.ty, .type T, b, rfl, .ty T, h.ty, kit_ty e, q⟩
def Dat.isI : Dat → Bool
  | .flat (.int _) => true
  | .flat (.bl _) => true
  | _ => false
def Dat.isB : Dat → Bool
  | .flat (.bl _) => true
  | _ => false
def Dat.isT : Dat → Bool
  | .tup _ => true
  | _ => false
theorem kit_int (d : Dat) : kitB d.ty "int" = some d.isI := by
  cases d with
  | flat v => cases v <;> (simp only [Dat.ty, Dat.isI]; decide +kernel)
  | tup xs => simp only [Dat.ty, Dat.isI]; decide +kernel
  | lst xs => simp only [Dat.ty, Dat.isI]; decide +kernel
  | dct => simp only [Dat.ty, Dat.isI]; decide +kernel
theorem kit_bool (d : Dat) : kitB d.ty "bool" = some d.isB := by
  cases d with
  | flat v => cases v <;> (simp only [Dat.ty, Dat.isB]; decide +kernel)
  | tup xs => simp only [Dat.ty, Dat.isB]; decide +kernel
  | lst xs => simp only [Dat.ty, Dat.isB]; decide +kernel
  | dct => simp only [Dat.ty, Dat.isB]; decide +kernel
theorem kit_tuple (d : Dat) : kitB d.ty "tuple" = some d.isT := by
  cases d with
  | flat v => cases v <;> (simp only [Dat.ty, Dat.isT]; decide +kernel)
  | tup xs => simp only [Dat.ty, Dat.isT]; decide +kernel
  | lst xs => simp only [Dat.ty, Dat.isT]; decide +kernel
  | dct => simp only [Dat.ty, Dat.isT]; decide +kernel
/-- a whole number, no truth value -/
def Dat.whole (d : Dat) : Bool := d.isI && !d.isB
theorem Dat.whole_int {d : Dat} (h : d.whole = true) : ∃ i, d = .flat (.int i) := by
  cases d with
  | flat v => cases v <;> first | exact ⟨_, rfl⟩ | (simp [Dat.whole, Dat.isI, Dat.isB] at h)
  | tup xs => simp [Dat.whole, Dat.isI] at h
  | lst xs => simp [Dat.whole, Dat.isI] at h
  | dct => simp [Dat.whole, Dat.isI] at h
/-- a whole from lo to hi -/
def Dat.from (d : Dat) (lo hi : Int) : Bool := match d with
  | .flat (.int i) => decide (lo ≤ i) && decide (i ≤ hi)
  | _ => false
theorem Dat.from_no {d : Dat} {lo hi : Int} (h : d.whole = false) : d.from lo hi = false := by
  cases d with
  | flat v => cases v <;> first | rfl | (simp [Dat.whole, Dat.isI, Dat.isB] at h)
  | tup xs => rfl
  | lst xs => rfl
  | dct => rfl
def letV (n : Int) : V → Bool
  | .int i => decide (-n ≤ i) && decide (i ≤ n) && !decide (i = 0)
  | _ => false
/-- a letter of n deeds -/
def Dat.letter (n : Int) (d : Dat) : Bool := match d with
  | .flat v => letV n v
  | _ => false
theorem Dat.letter_no {n : Int} {d : Dat} (h : d.from (-n) n = false) : d.letter n = false := by
  cases d with
  | flat v =>
    cases v with
    | int i =>
      have h : (decide (-n ≤ i) && decide (i ≤ n)) = false := h
      show (decide (-n ≤ i) && decide (i ≤ n) && !decide (i = 0)) = false
      rw [h] <;> rfl
    | _ => rfl
  | tup xs => rfl
  | lst xs => rfl
  | dct => rfl
theorem Dat.from_int {d : Dat} {lo hi : Int} (h : d.from lo hi = true) : ∃ i, d = .flat (.int i) ∧ lo ≤ i ∧ i ≤ hi := by
  cases d with
  | flat v =>
    cases v with
    | int i =>
      have h : (decide (lo ≤ i) && decide (i ≤ hi)) = true := h
      simp only [Bool.and_eq_true, decide_eq_true_eq] at h
      exact ⟨i, rfl, h⟩
    | _ => cases h
  | tup xs => cases h
  | lst xs => cases h
  | dct => cases h
/-- letters of n deeds alone -/
def Dat.lets (n : Int) (d : Dat) : Bool := match d with
  | .tup xs => xs.all (letV n)
  | _ => false
/-- a row of n deeds -/
def Dat.row (n : Int) (d : Dat) : Bool := match d with
  | .tup xs => decide (xs.length ≤ 200) && xs.all (letV n)
  | _ => false
end XD
namespace XD
open PySem PySem.Spec PyProof.Rows L2 XA XB XC
section
variable {K : PySem.W.Frag} {a : Addr} {xs : List V} {g : TG} {tb : TS} {D : Ends} {σ : L2.St} {H : Hp} {i : Nat}
theorem forT (Pv : Nat → L2.St → Hp → Prop) (hv : σ[i]? = some (some (.ref a))) (hS : SqT K H a xs) (h0 : Pv 0 σ H) (hl : ∀ i σ H, i ≤ xs.length → Pv i σ H → SqT K H a xs)
    (hs : ∀ i x σ H, xs[i]? = some x → Pv i σ H → g x σ H fun σ2 H2 => tb { D with nx := Pv (i + 1), ct := Pv (i + 1), bk := D.nx } σ2 H2) (hd : ∀ σ H, Pv xs.length σ H → D.nx σ H) : tFor (iU K (tVar i)) g tb D σ H :=
  Or.inr ⟨.ref a, hv, a, rfl, ⟨xs, hS⟩, for_tup Pv h0 hl hs hd⟩
theorem forL (Pv : Nat → L2.St → Hp → Prop) (hv : σ[i]? = some (some (.ref a))) (hS : SqL K H a xs) (h0 : Pv 0 σ H) (hl : ∀ i σ H, i ≤ xs.length → Pv i σ H → SqL K H a xs)
    (hs : ∀ i x σ H, xs[i]? = some x → Pv i σ H → g x σ H fun σ2 H2 => tb { D with nx := Pv (i + 1), ct := Pv (i + 1), bk := D.nx } σ2 H2) (hd : ∀ σ H, Pv xs.length σ H → D.nx σ H) : tFor (iU K (tVar i)) g tb D σ H :=
  Or.inl ⟨.ref a, hv, a, rfl, ⟨xs, hS⟩, for_list Pv h0 hl hs hd⟩
end
theorem rd_lc {wi : TI} {g : TG} {tt : TT} {te : TE} {vs : List Nat} {σ : L2.St} {H : Hp} {Q : VK} (h : wi σ H fun J H1 => ∀ D, H1 D = none → ∃ W : Nat → Nat → Hp → Prop, (∃ m, W 0 m (upd H1 D (.lst []))) ∧ ∀ i m H, W i m H →
      (J.stop i H ∧ Q (.ref D) H) ∨ (J.go i H ∧ ∃ Nx : Hp → Prop, (∀ H', Nx H' → ∃ m', m' < m ∧ W (i + 1) m' H') ∧ ∀ x H', J.yld i H x H' → g x (wipe σ vs) H' fun σ2 H2 => wipe σ2 vs = wipe σ vs ∧ tt σ2 H2 fun b H3 =>
        if b = true then te σ2 H3 fun y H4 => ∃ acc, H4 D = some (.lst acc) ∧ acc.length < sizeLine ∧ Nx (upd H4 D (.lst (acc ++ [y]))) else Nx H3)) : tLc wi g tt te vs σ H Q := h
theorem rd_yes {σ : L2.St} {H : Hp} {Q : Bool → Hp → Prop} (h : Q true H) : tYes σ H Q := h
/-- a value's truth as a test -/
def tTru (K : PySem.W.Frag) (te : TE) : TT := fun σ H Q => te σ H fun x H' => ∃ k, TruV K x H' k ∧ Q k H'
theorem pt_tru {X : Cx} {a : Expr} {ta : TE} (ha : PE X a ta) (he : ∀ whole, isTrue a X.env whole = (do let v ← whole; standAt a.pos; holding [v] (truthy v))) : PT X a (tTru X.K ta) := pt_truth ha he
theorem rd_tru {K : PySem.W.Frag} {te : TE} {σ : L2.St} {H : Hp} {Q : Bool → Hp → Prop} (h : te σ H fun x H' => ∃ k, TruV K x H' k ∧ Q k H') : tTru K te σ H Q := h
theorem item_of {ns : List Int} {i : Nat} {y : V} (hi : (ns.map V.int)[i]? = some y) : ∃ z, ns[i]? = some z ∧ y = .int z := by
  rw [List.getElem?_map] at hi
  cases e : ns[i]? with
  | none => rw [e] at hi; cases hi
  | some z => rw [e] at hi; exact ⟨z, rfl, (Option.some.inj hi).symm⟩
theorem take_more {α : Type} {l : List α} {i : Nat} {x : α} (h : l[i]? = some x) : l.take (i + 1) = l.take i ++ [x] := by
  rw [List.take_add_one, h] <;> rfl
/-- truth of a list -/
theorem truL {K : PySem.W.Frag} {H : Hp} {a : Addr} {xs : List V} {R : Bool → Prop} (h : SqL K H a xs) (q : R (!xs.isEmpty)) : ∃ k, TruV K (.ref a) H k ∧ R k := ⟨_, .inl ⟨xs, h, rfl⟩, q⟩
theorem truB {K : PySem.W.Frag} {H : Hp} {b : Bool} {R : Bool → Prop} (q : R b) : ∃ k, TruV K (.bl b) H k ∧ R k := ⟨_, rfl, q⟩
theorem lenT {K : PySem.W.Frag} {H : Hp} {p : Addr} {xs : List V} {R : Nat → Prop} (h : SqT K H p xs) (q : R xs.length) : ∃ x n, [V.ref p] = [x] ∧ LenV K x H n ∧ R n := ⟨_, _, rfl, Or.inr ⟨xs, h, rfl⟩, q⟩
theorem lenL {K : PySem.W.Frag} {H : Hp} {p : Addr} {xs : List V} {R : Nat → Prop} (h : SqL K H p xs) (q : R xs.length) : ∃ x n, [V.ref p] = [x] ∧ LenV K x H n ∧ R n := ⟨_, _, rfl, Or.inl ⟨xs, h, rfl⟩, q⟩
theorem app {l : Addr} {xs : List V} {y : V} {H : Hp} {Q : VK} (h : H l = some (.lst xs)) (hz : xs.length < 100000) (q : Q .non (upd H l (.lst (xs ++ [y])))) : rAppend (.ref l) [y] H Q := ⟨l, xs, y, rfl, rfl, h, lzl hz, q⟩
theorem tyl {K : PySem.W.Frag} {H : Hp} {l : Addr} {xs : List V} (h : H l = some (.lst xs)) : tyV K "list" (.ref l) H := tyL (.inl (.inl h))
theorem atI_last2 {α : Type} {xs : List α} {x : α} (h : xs.getLast? = some x) : atI xs (-1) = some x := by
  obtain ⟨ys, rfl⟩ := List.getLast?_eq_some_iff.mp h
  exact atI_last ys x
end XD

namespace XD
open PySem PySem.Spec PyProof.Rows L2 XA XB XC
/-! ### raise C(f'..') -/
/-- a text of written parts: it changes nothing -/
def Still (ta : TE) : Prop := ∀ (σ : L2.St) (H : Hp) (Q : VK), (∀ x, Q x H) → ta σ H Q
theorem ps_raiseX {X : Cx} {W : WX} {C : Addr} {x : Str} {e : Expr} {ta : TE} {p pos pos2 : Pos} (T : Xc X.K X.mg x C) (hg : Gl X x) (he : PE X e ta) (hst : Still ta) (tk : Takes X W) (hc : X.calm = true := by rfl)
    (hs : starEach [e] X.env = (false, eval e X.env) :: starEach [] X.env := by rfl) (hdb : (x == ("__debug__" : Str)) = false := by decide) :
    PS X (.Raise (some (.Call (.Name x p) [e] [] pos)) none pos2) (fun _ σ H => W (.ref C) none σ H) := by
  refine ⟨fun pins s σ H D I h => ?_⟩
  exact (ps_raise hc tk (pmkx T hg he hs hdb)).run pins s σ H D I (hst σ H _ fun _ => h)
abbrev tJ (ts : List TE) : TE := fun σ H Q => tJs ts Str.empty σ H fun out H1 => Q (.str out) H1
theorem still2 {a : Str} {i : Int} (h1 : (Str.empty ++ a).length ≤ sizeLine) (hi : i.natAbs.log2 < 1920) (h2 : (Str.empty ++ a ++ (toString i : Str)).length ≤ sizeLine) : Still (tJ [tC (.str a), tFmt (tC (.int i))]) :=
  fun _ _ _ q => ⟨a, rfl, h1, .inr ⟨i, rfl, hi, _, rfl, h2, q _⟩⟩
theorem still4 {a b : Str} {i j : Int} (h1 : (Str.empty ++ a).length ≤ sizeLine) (hi : i.natAbs.log2 < 1920) (h2 : (Str.empty ++ a ++ (toString i : Str)).length ≤ sizeLine) (h3 : (Str.empty ++ a ++ (toString i : Str) ++ b).length ≤ sizeLine) (hj : j.natAbs.log2 < 1920)
    (h4 : (Str.empty ++ a ++ (toString i : Str) ++ b ++ (toString j : Str)).length ≤ sizeLine) : Still (tJ [tC (.str a), tFmt (tC (.int i)), tC (.str b), tFmt (tC (.int j))]) :=
  fun _ _ _ q => ⟨a, rfl, h1, .inr ⟨i, rfl, hi, _, rfl, h2, b, rfl, h3, .inr ⟨j, rfl, hj, _, rfl, h4, q _⟩⟩⟩
theorem still3 {a b : Str} {i : Int} (h1 : (Str.empty ++ a).length ≤ sizeLine) (hi : i.natAbs.log2 < 1920) (h2 : (Str.empty ++ a ++ (toString i : Str)).length ≤ sizeLine) (h3 : (Str.empty ++ a ++ (toString i : Str) ++ b).length ≤ sizeLine) : Still (tJ [tC (.str a), tFmt (tC (.int i)), tC (.str b)]) :=
  fun _ _ _ q => ⟨a, rfl, h1, .inr ⟨i, rfl, hi, _, rfl, h2, b, rfl, h3, q _⟩⟩
end XD
namespace XD
open PySem PySem.Spec PyProof.Rows L2 XA XB XC
section
variable {K : PySem.W.Frag} {H : Hp} {a b : Addr} {xs ys : List V} {Q : VK}
theorem flat_same {k : Int} (h : xs = [] ∨ k = 1) : (List.replicate k.toNat xs).flatten = xs := by
  rcases h with e | e
  · subst e
    induction k.toNat with
    | zero => rfl
    | succ n ih => rw [List.replicate_succ, List.flatten_cons, ih] <;> rfl
  · subst e
    simp
theorem rd_rng1 {ta : TA} {σ : L2.St} {R : It → Hp → Prop} (h : ta σ H fun vs H1 => ∃ j : Int, vs = [.int j] ∧ -(2 ^ 62) ≤ j ∧ j < 2 ^ 62 ∧ R (Itr 0 j.toNat) H1) : iRng1 ta σ H R := h
theorem rd_rng2 {ta : TA} {σ : L2.St} {R : It → Hp → Prop} (h : ta σ H fun vs H1 => ∃ i j : Int, vs = [.int i, .int j] ∧ (-(2 ^ 62) ≤ i ∧ i < 2 ^ 62 ∧ -(2 ^ 62) ≤ j ∧ j < 2 ^ 62) ∧ R (Itr i (j - i).toNat) H1) : iRng2 ta σ H R := h
theorem rd_for {wi : TI} {g : TG} {tb : TS} {D : Ends} {σ : L2.St} (h : wi σ H fun J H1 => ∃ W : Nat → Nat → L2.St → Hp → Prop, (∃ m, W 0 m σ H1) ∧ ∀ i m σ H, W i m σ H →
  (J.stop i H ∧ D.nx σ H) ∨ (J.go i H ∧ ∃ N : L2.St → Hp → Prop, (∀ σ' H', N σ' H' → ∃ m', m' < m ∧ W (i + 1) m' σ' H') ∧ ∀ x H', J.yld i H x H' → g x σ H' fun σ2 H2 => tb { D with nx := N, ct := N, bk := D.nx } σ2 H2)) : tFor wi g tb D σ H := h
/-- t.count(k) -/
theorem rd_cntE {to te : TE} {σ : L2.St} (h : to σ H fun x H1 => ∃ (p : Addr) (ns : List Int), x = .ref p ∧ Tp H1 p (ns.map V.int) ∧ tCons te tNil σ H1 fun vs H2 => ∃ y, vs = [y] ∧ ∃ k, y = .int k ∧ Tp H2 p (ns.map V.int) ∧ Q (.int (ns.count k : Nat)) H2) : tCnt to te σ H Q := h
/-- tuple * int -/
theorem repS {k : Int} (h : SqT K H a xs) (h1 : -1000 ≤ k) (h2 : k ≤ 1000) (hz : xs.length ≤ 1000) (q : ∀ p H', Same H H' → SqT K H' p (List.replicate k.toNat xs).flatten → Q (.ref p) H') : rMulU K (.ref a) (.int k) H Q :=
  .inr ⟨a, k, xs, rfl, rfl, h, h1, h2, hz, fun e => q a H (Same.refl _) (by rw [flat_same e]; exact h), fun _ p o hp ho hd => q p _ (same_new hp) (Tp.sqT ⟨o, upd_same, ho, hd⟩)⟩
theorem repT {k : Int} (h : Tp H a xs) (h1 : -1000 ≤ k) (h2 : k ≤ 1000) (hz : xs.length ≤ 1000) (q : ∀ p H', Same H H' → Tp H' p (List.replicate k.toNat xs).flatten → Q (.ref p) H') : rMulU K (.ref a) (.int k) H Q :=
  .inr ⟨a, k, xs, rfl, rfl, h.sqT, h1, h2, hz, fun e => q a H (Same.refl _) (by rw [flat_same e]; exact h), fun _ p o hp ho hd => q p _ (same_new hp) ⟨o, upd_same, ho, hd⟩⟩
/-- tuple + tuple -/
theorem catS (h1 : SqT K H a xs) (h2 : SqT K H b ys) (hz : xs.length + ys.length ≤ 100000) (q : ∀ p H', Same H H' → SqT K H' p (xs ++ ys) → Q (.ref p) H') : rAddU K (.ref a) (.ref b) H Q :=
  .inr (.inl ⟨a, b, xs, ys, rfl, rfl, h1, h2, lz hz, fun e => q b H (Same.refl _) (by rw [e]; exact h2), fun _ e => q a H (Same.refl _) (by rw [e, List.append_nil]; exact h1), fun _ _ p hp => q p _ (same_new hp) (.inl (.inl upd_same))⟩)
/-- list + list -/
theorem catL (h1 : H a = some (.lst xs)) (h2 : H b = some (.lst ys)) (hz : xs.length + ys.length ≤ 100000) (q : ∀ p, H p = none → Q (.ref p) (upd H p (.lst (xs ++ ys)))) : rAddU K (.ref a) (.ref b) H Q :=
  .inr (.inr ⟨a, b, xs, ys, rfl, rfl, h1, h2, lz hz, q⟩)
theorem cut_whole {lo hi : Option Int} (h : HT.sIx xs.length 0 lo = 0 ∧ HT.sIx xs.length xs.length hi = xs.length) : cutV xs lo hi = xs := by
  unfold cutV
  rw [h.1, h.2, Nat.sub_zero, List.drop_zero, List.take_length]
/-- t[lo:hi] -/
theorem slS {lo hi : Option Int} (h : SqT K H a xs) (q : ∀ p H', Same H H' → SqT K H' p (cutV xs lo hi) → Q (.ref p) H') : rSlU K (.ref a) lo hi H Q :=
  .inr ⟨a, xs, rfl, h, fun e => q a H (Same.refl _) (by rw [cut_whole e]; exact h), fun _ p o hp ho hd => q p _ (same_new hp) (Tp.sqT ⟨o, upd_same, ho, hd⟩)⟩
theorem slT {lo hi : Option Int} (h : Tp H a xs) (q : ∀ p H', Same H H' → Tp H' p (cutV xs lo hi) → Q (.ref p) H') : rSlU K (.ref a) lo hi H Q :=
  .inr ⟨a, xs, rfl, h.sqT, fun e => q a H (Same.refl _) (by rw [cut_whole e]; exact h), fun _ p o hp ho hd => q p _ (same_new hp) ⟨o, upd_same, ho, hd⟩⟩
/-- xs[lo:hi] -/
theorem slL {lo hi : Option Int} (h : SqL K H a xs) (q : ∀ p, H p = none → Q (.ref p) (upd H p (.lst (cutV xs lo hi)))) : rSlU K (.ref a) lo hi H Q := .inl ⟨a, xs, rfl, h, q⟩
end
theorem flat_map {α β : Type} (f : α → β) (n : Nat) (xs : List α) : (List.replicate n (xs.map f)).flatten = ((List.replicate n xs).flatten).map f := by
  induction n with
  | zero => rfl
  | succ n ih => rw [List.replicate_succ, List.replicate_succ, List.flatten_cons, List.flatten_cons, ih, List.map_append]
theorem flat_len {α : Type} (n : Nat) (xs : List α) : ((List.replicate n xs).flatten).length = n * xs.length := by
  induction n with
  | zero => simp
  | succ n ih => rw [List.replicate_succ, List.flatten_cons, List.length_append, ih, Nat.succ_mul]; omega
/-- whole numbers in a row: range -/
theorem rng_ok {n : Nat} (h : n < 1000000) (m : Int) (h0 : -1000000 ≤ m) (h1 : m ≤ 1000000) : -(2 ^ 62) ≤ m ∧ m < 2 ^ 62 := ⟨by omega, by omega⟩
end XD

set_option linter.all false
set_option maxRecDepth 100000
set_option maxHeartbeats 4000000
/-! XE: comparisons of data, the law's draws. -/
namespace XE
open PySem PySem.Spec PyProof.Rows L2 XA XB XC XD
abbrev dI (xs : List Int) : List PyData := xs.map PyData.int
theorem can_dI : ∀ xs : List Int, PyData.canLayAll0 (dI xs) = true
  | [] => by simp [dI, PyData.canLayAll0]
  | x :: xs => by
    have := can_dI xs
    simp only [dI, List.map_cons, PyData.canLayAll0, PyData.canLay0, Bool.true_and] at this ⊢
    exact this
theorem dep_dI : ∀ xs : List Int, PyData.depthAll (dI xs) ≤ 1
  | [] => by simp [dI, PyData.depthAll]
  | x :: xs => by
    have := dep_dI xs
    simp only [dI, List.map_cons, PyData.depthAll, PyData.depth] at this ⊢
    omega
theorem eqv_dI : ∀ xs ys : List Int, PyData.eqvAll (dI xs) (dI ys) = decide (xs = ys)
  | [], [] => by simp [dI, PyData.eqvAll]
  | [], y :: ys => by simp [dI, PyData.eqvAll]
  | x :: xs, [] => by simp [dI, PyData.eqvAll]
  | x :: xs, y :: ys => by
    have := eqv_dI xs ys
    simp only [dI] at this
    simp only [dI, List.map_cons, PyData.eqvAll, PyData.eqv, this, List.cons.injEq]
    by_cases h : x = y <;> by_cases h2 : xs = ys <;> simp [h, h2]
theorem sh_t (xs : List Int) : SeqAt.shaped (.tuple (dI xs)) = true := by
  have h := dep_dI xs
  have e : PyData.depth (.tuple (dI xs)) ≤ 64 := by
    rw [PyData.depth]
    omega
  have e2 : PyData.canLay0 (.tuple (dI xs)) = true := by
    rw [PyData.canLay0]
    exact can_dI xs
  unfold SeqAt.shaped
  rw [e2, decide_eq_true e] <;> rfl
theorem sh_l (xs : List Int) : SeqAt.shaped (.list (dI xs)) = true := by
  have h := dep_dI xs
  have e : PyData.depth (.list (dI xs)) ≤ 64 := by
    rw [PyData.depth]
    omega
  have e2 : PyData.canLay0 (.list (dI xs)) = true := by
    rw [PyData.canLay0]
    exact can_dI xs
  unfold SeqAt.shaped
  rw [e2, decide_eq_true e] <;> rfl
section
variable {K : PySem.W.Frag} {H : Hp} {a b : Addr} {xs ys : List Int} {Q : VK}
theorem dp_all : ∀ xs : List Int, DpAll K H (xs.map V.int) (dI xs)
  | [] => .nil
  | x :: xs => .cons (.int x) (dp_all xs)
theorem dpT (h : SqT K H a (xs.map V.int)) : Dp K H (.ref a) (.tuple (dI xs)) := .tup h (dp_all xs)
theorem dpL (h : SqL K H a (xs.map V.int)) : Dp K H (.ref a) (.list (dI xs)) := .lst h (dp_all xs)
theorem eqT (h1 : SqT K H a (xs.map V.int)) (h2 : SqT K H b (ys.map V.int)) (q : Q (.bl (decide (xs = ys))) H) : rEqU K (.ref a) (.ref b) H Q :=
  .inr ⟨_, _, dpT h1, dpT h2, sh_t xs, sh_t ys, by
    rw [show PyData.eqv (.tuple (dI xs)) (.tuple (dI ys)) = decide (xs = ys) from by rw [PyData.eqv]; exact eqv_dI xs ys]
    exact q⟩
theorem neT (h1 : SqT K H a (xs.map V.int)) (h2 : SqT K H b (ys.map V.int)) (q : Q (.bl (!decide (xs = ys))) H) : rNeU K (.ref a) (.ref b) H Q :=
  .inr ⟨_, _, dpT h1, dpT h2, sh_t xs, sh_t ys, by
    rw [show PyData.eqv (.tuple (dI xs)) (.tuple (dI ys)) = decide (xs = ys) from by rw [PyData.eqv]; exact eqv_dI xs ys]
    exact q⟩
theorem eqL (h1 : SqL K H a (xs.map V.int)) (h2 : SqL K H b (ys.map V.int)) (q : Q (.bl (decide (xs = ys))) H) : rEqU K (.ref a) (.ref b) H Q :=
  .inr ⟨_, _, dpL h1, dpL h2, sh_l xs, sh_l ys, by
    rw [show PyData.eqv (.list (dI xs)) (.list (dI ys)) = decide (xs = ys) from by rw [PyData.eqv]; exact eqv_dI xs ys]
    exact q⟩
theorem neL (h1 : SqL K H a (xs.map V.int)) (h2 : SqL K H b (ys.map V.int)) (q : Q (.bl (!decide (xs = ys))) H) : rNeU K (.ref a) (.ref b) H Q :=
  .inr ⟨_, _, dpL h1, dpL h2, sh_l xs, sh_l ys, by
    rw [show PyData.eqv (.list (dI xs)) (.list (dI ys)) = decide (xs = ys) from by rw [PyData.eqv]; exact eqv_dI xs ys]
    exact q⟩
end
/-! ### the state of the draws -/
abbrev kG : Key := Sum.inr "great"
abbrev kC : Key := Sum.inr "cells"
abbrev kR : Key := Sum.inr "rest"
abbrev kT : Key := Sum.inr "turn"
def stD (g c : Addr) (r t : Int) : List (Key × V) := [(kG, .ref g), (kC, .ref c), (kR, .int r), (kT, .int t)]
/-- the state stands at s, its great numbers at g; it has been drawn from at most n times anew -/
def StAt (n : Nat) (H : Hp) (s g c : Addr) : Prop := ∃ (r t : Int) (gs cs : List Int), H s = some (.dK (stD g c r t)) ∧ H g = some (.lst (gs.map V.int)) ∧ H c = some (.lst (cs.map V.int)) ∧ c ≠ g ∧ cs.length ≤ 1000 ∧ gs.length ≤ 1000 ∧ 0 ≤ t ∧ t ≤ (n : Int)
/-- all but the state is as it was -/
def Kept (s g : Addr) (H H' : Hp) : Prop := ∀ b o, H b = some o → b ≠ s → b ≠ g → H' b = some o
theorem Kept.refl {s g : Addr} {H : Hp} : Kept s g H H := fun _ _ h _ _ => h
theorem Kept.trans {s g : Addr} {H H1 H2 : Hp} (a : Kept s g H H1) (b : Kept s g H1 H2) : Kept s g H H2 := fun c o h n m => b c o (a c o h n m) n m
theorem Kept.of {s g : Addr} {H H' : Hp} (e : Same H H') : Kept s g H H' := fun b o h _ _ => e b o h
section
variable {K : PySem.W.Frag} {H H' : Hp} {s g c a : Addr} {xs : List V} {n m : Nat} {v : V} {d : Dat}
theorem StAt.same (h : StAt n H s g c) (e : Same H H') : StAt n H' s g c := by
  obtain ⟨r, t, gs, cs, h1, h2, h3, h4⟩ := h
  exact ⟨r, t, gs, cs, e _ _ h1, e _ _ h2, e _ _ h3, h4⟩
theorem StAt.mono (h : StAt n H s g c) (l : n ≤ m) : StAt m H s g c := by
  obtain ⟨r, t, gs, cs, h1, h2, h3, h4, h5, h6, h7, h8⟩ := h
  exact ⟨r, t, gs, cs, h1, h2, h3, h4, h5, h6, h7, by omega⟩
theorem StAt.gs (h : StAt n H s g c) : ∃ o, H g = some o := by
  obtain ⟨r, t, gs, cs, h1, h2, _⟩ := h
  exact ⟨_, h2⟩
theorem StAt.ne_n (h : StAt n H s g c) (e : H a = none) : a ≠ g := by
  obtain ⟨o, q⟩ := h.gs
  intro z
  rw [z, q] at e
  cases e
theorem StAt.ne_s (h : StAt n H s g c) {o : HO} (ho : H a = some o) (hn : ∀ kvs, o ≠ .dK kvs) : a ≠ s := by
  obtain ⟨r, t, gs, cs, h1, _⟩ := h
  exact ne_of ho h1 (hn _)
theorem StAt.ne_g (h : StAt n H s g c) {o : HO} (ho : H a = some o) (hn : ∀ xs, o ≠ .lst xs) : a ≠ g := by
  obtain ⟨r, t, gs, cs, _, h2, _⟩ := h
  exact ne_of ho h2 (hn _)
theorem Kept.sqT (k : Kept s g H H') (h : StAt n H s g c) (q : SqT K H a xs) : SqT K H' a xs := by
  rcases q with (q | ⟨o, q⟩) | q
  · exact .inl (.inl (k _ _ q (h.ne_s q (by intro _ z; cases z)) (h.ne_g q (by intro _ z; cases z))))
  · exact .inl (.inr ⟨o, k _ _ q (h.ne_s q (by intro _ z; cases z)) (h.ne_g q (by intro _ z; cases z))⟩)
  · exact .inr q
theorem Kept.sqL (k : Kept s g H H') (h : StAt n H s g c) (q : SqL K H a xs) (e : a ≠ g) : SqL K H' a xs := by
  rcases q with (q | ⟨o, q⟩) | q
  · exact .inl (.inl (k _ _ q (h.ne_s q (by intro _ z; cases z)) e))
  · exact .inl (.inr ⟨o, k _ _ q (h.ne_s q (by intro _ z; cases z)) e⟩)
  · exact .inr q
theorem Kept.tp (k : Kept s g H H') (h : StAt n H s g c) (q : Tp H a xs) : Tp H' a xs := by
  obtain ⟨o, q, r⟩ := q
  exact ⟨o, k _ _ q (h.ne_s q (by intro _ z; cases z)) (h.ne_g q (by intro _ z; cases z)), r⟩
theorem Kept.lst (k : Kept s g H H') (h : StAt n H s g c) (q : H a = some (.lst xs)) (e : a ≠ g) : H' a = some (.lst xs) := k _ _ q (h.ne_s q (by intro _ z; cases z)) e
theorem Kept.rp (k : Kept s g H H') (h : StAt n H s g c) (q : Rp K H v d) (e : v ≠ .ref g) : Rp K H' v d := by
  cases d with
  | flat u => exact q
  | tup xs => obtain ⟨a, z, r, y⟩ := q; exact ⟨a, z, k.sqT h r, y⟩
  | lst xs => obtain ⟨a, z, r⟩ := q; exact ⟨a, z, k.sqL h r (fun y => e (by rw [z, y]))⟩
  | dct =>
    obtain ⟨a, kvs, z, r, l⟩ := q
    obtain ⟨r0, t0, gs0, cs0, a1, _⟩ := h
    exact ⟨a, kvs, z, k _ _ r (ne_of r a1 (by intro y; cases y; simp [stD] at l)) (fun y => e (by rw [z, y])), l⟩
theorem StAt.mut {H0 : Hp} {k : Addr} {o : HO} (h0 : StAt m H0 s g c) (hk : H0 k = none) (h : StAt n H s g c) : StAt n (upd H k o) s g c := by
  obtain ⟨r0, t0, gs0, cs0, a1, a2, a3, _⟩ := h0
  obtain ⟨r, t, gs, cs, h1, h2, h3, h4⟩ := h
  exact ⟨r, t, gs, cs, by rw [upd_ne (ne_of_none a1 hk)]; exact h1, by rw [upd_ne (ne_of_none a2 hk)]; exact h2, by rw [upd_ne (ne_of_none a3 hk)]; exact h3, h4⟩
theorem Kept.mut {k : Addr} {o : HO} (e : Kept s g H H') (hk : H k = none) : Kept s g H (upd H' k o) := fun b u q x y => by
  rw [upd_ne (ne_of_none q hk)]
  exact e b u q x y
theorem Kept.none (k : Kept s g H H') (h : StAt n H' s g c) (e : H' a = none) : H a = none := by
  obtain ⟨r, t, gs, cs, h1, h2, _⟩ := h
  cases q : H a with
  | none => rfl
  | some o => rw [k a o q (Ne.symm (ne_of_none h1 e)) (Ne.symm (ne_of_none h2 e))] at e; cases e
end
end XE

set_option linter.all false
set_option maxRecDepth 100000
set_option maxHeartbeats 4000000
/-! XF: t[::-1] of a tuple, a few more rules. -/
namespace XF
open PySem PySem.Spec PyProof.Rows L2 XA XB XC XD XE HT
section
variable {prog : Program} {w : World} {A : Around} {E : Value → Shared → Prop} {s : Shared}
theorem back_bounds (n : Nat) : Builtin.Slice.sliceAdjust none none (-1) (n : Int) = ((n : Int) - 1, -1) := by
  unfold Builtin.Slice.sliceAdjust
  simp
theorem back_places (n : Nat) : Builtin.Slice.slicePlaces ((n : Int) - 1) (-1) (-1) = n := by
  unfold Builtin.Slice.slicePlaces
  simp
  omega
theorem back_applied {sl : Addr} {n : Nat} {tk : Tok} {Q : Int × Int × Nat → Shared → Prop} (hs : s.heap.IsSliceOf sl .none .none (.int (-1) tk)) (h : Q ((n : Int) - 1, -1, n) s) :
    wpAny (model prog w) A (Builtin.Slice.sliceApplied (.ref sl) (pure (n : Int))) Q E s := by
  obtain ⟨os, hos, hcs, hds⟩ := id hs
  unfold Builtin.Slice.sliceApplied Builtin.Slice.sliceFields
  refine wpAny_bind (wpAny_bind (wpAny_field hos hds (x := .none) rfl (wpAny_bind (wpAny_field hos hds (x := .none) rfl (wpAny_bind (wpAny_field hos hds (x := .int (-1) tk) rfl (wpAny_pure ?_)))))))
  refine wpAny_bind (slicePart_int ?_)
  show wpAny _ _ (if ((-1 : Int) == 0) = true then _ else _) _ _ s
  rw [if_neg (by decide)]
  refine wpAny_bind (slicePart_none (wpAny_bind (slicePart_none (wpAny_bind (wpAny_pure ?_)))))
  show wpAny _ _ (match Builtin.Slice.sliceAdjust none none (-1) (n : Int) with | (lo, hi) => pure (lo, (-1 : Int), Builtin.Slice.slicePlaces lo hi (-1))) _ _ s
  rw [back_bounds n]
  show wpAny _ _ (pure ((n : Int) - 1, (-1 : Int), Builtin.Slice.slicePlaces ((n : Int) - 1) (-1) (-1))) _ _ s
  rw [back_places]
  exact wpAny_pure h
theorem fm_map {α β : Type} {f : α → Option β} {g : α → β} : ∀ {l : List α}, (∀ x ∈ l, f x = some (g x)) → l.filterMap f = l.map g
  | [], _ => rfl
  | x :: l, h => by
    rw [List.filterMap_cons, h x List.mem_cons_self, List.map_cons, fm_map fun y hy => h y (List.mem_cons_of_mem _ hy)]
theorem back_pick (xs : Array Value) : ((List.range xs.size).filterMap fun (m : Nat) => xs[(((xs.size : Nat) : Int) - 1 + (m : Int) * -1).toNat]?).toArray = xs.toList.reverse.toArray := by
  congr 1
  obtain ⟨l⟩ := xs
  simp only [List.size_toArray, List.getElem?_toArray]
  apply List.ext_getElem?
  intro i
  have e : (List.range l.length).filterMap (fun (m : Nat) => l[(((l.length : Nat) : Int) - 1 + (m : Int) * -1).toNat]?) = (List.range l.length).map (fun m => l.reverse.getD m Value.none) := by
    refine fm_map fun m hm => ?_
    have hm := List.mem_range.mp hm
    have e1 : (((l.length : Nat) : Int) - 1 + (m : Int) * -1).toNat = l.length - 1 - m := by omega
    rw [e1, List.getD_eq_getElem?_getD, List.getElem?_reverse hm, List.getElem?_eq_getElem (by omega)]
    rfl
  rw [e]
  by_cases hi : i < l.length
  · rw [List.getElem?_map, List.getElem?_range hi, Option.map_some, List.getD_eq_getElem?_getD, List.getElem?_eq_getElem (by simpa using hi)]
    rfl
  · rw [List.getElem?_eq_none (by simpa using hi), List.getElem?_eq_none (by simpa using hi)]
theorem getItem_tuple_back {t sl : Addr} {items : Array Value} {tk : Tok} {Q : Value → Shared → Prop} (ht : IsTup s.heap t items) (hs : s.heap.IsSliceOf sl .none .none (.int (-1) tk))
    (h : Q (.ref s.heap.objs.size) { s with heap := s.heap.push { cls := .type "tuple", data := .seq items.toList.reverse.toArray } }) (hsz : items.size ≤ sizeLine) : wpAny (model prog w) A (getItem (.ref t) (.ref sl)) Q E s := by
  have ok : sizeOk (.seq items.toList.reverse.toArray) := by
    show items.toList.reverse.toArray.size ≤ sizeLine
    simpa using hsz
  obtain ⟨os, hos, hcs, hds⟩ := id hs
  have hTs : s.TypeIs (.ref sl) "slice" := ⟨os, hos, hcs⟩
  unfold getItem
  try with_reducible refine wpAny_holding ?_
  first | refine wpAny_bind (wpAny_pure ?_) | skip
  refine wpAny_bind (wpAny_sequenceKey ht.typeIs (by decide) (wpAny_bind (wpAny_callSpecial?_slot (name := Str.ofString "__getitem__") ht.typeIs PyProof.Rows.slot_tuple_getitem
    (wpAny_call_entry PyProof.Rows.slot_tuple_getitem ht.typeIs entry_tuple_getitem ?_ (args_tuple_getitem _ _)))))
  show wpAny _ _ (Builtin.Tuple.tupleItemsOf (.ref t) >>= _) _ _ s
  refine wpAny_bind (tupleItemsOf_ ht (wpAny_bind (wpAny_typeOf hTs ?_)))
  rw [if_pos (by decide)]
  refine wpAny_bind (back_applied hs ?_)
  show wpAny _ _ (if (((items.size : Nat) : Int) - 1 == 0 && (-1 : Int) == 1 && items.size == items.size) = true then _ else _) _ _ s
  rw [if_neg (by rw [show ((-1 : Int) == 1) = false from rfl, Bool.and_false, Bool.false_and]; exact Bool.false_ne_true), back_pick]
  first
    | exact wpAny_bind (m := Builtin.Tuple.tupleExact _) (wpAny_newObj_type (wpAny_pure ⟨_, rfl, wpAny_pure h⟩) ok)
    | exact wpAny_bind (m := Builtin.Tuple.tupleExact _) (wpAny_newObj_type (wpAny_bind (wpAny_pure (wpAny_pure ⟨_, rfl, wpAny_pure h⟩))) ok)
end
section
variable {X : Cx}
/-- t[::-1] -/
def tBack (K : PySem.W.Frag) (te : TE) : TE := fun σ H Q => te σ H fun x H1 => ∃ a xs, x = .ref a ∧ SqT K H1 a xs ∧ NewT H1 xs.reverse Q
theorem pe_back {e : Expr} {te : TE} {k : Nat} {p1 p2 p3 pos : Pos} (he : PE X e te) : PE X (.Subscript e (.Slice none none (some (.UnaryOp .USub (.Constant (.int 1) k p1) p2)) p3) pos) (tBack X.K te) := by
  refine ⟨fun pins s σ H Q I h => ?_⟩
  refine Subscript_ (thn (he.run pins s σ H _ I h) fun v s1 ⟨x, H1, I1, r1, a, xs, ex, hx, q⟩ => ?_)
  subst ex
  cases r1
  have step : PO X (some (.UnaryOp .USub (.Constant (.int 1) k p1) p2)) (tPart (tUn (rU fun i => .int (-i)) (tC (.int 1)))) := po_some (pe_un un_neg pe_int)
  refine wpAny_Slice (thn (po_none.run pins s1 σ H1 (fun o H2 => o = none ∧ H2 = H1) I1 ⟨rfl, rfl⟩) fun vl s2 ⟨l, H2, I2, pl, el, e2⟩ => ?_)
  subst el e2
  refine thn (po_none.run pins s2 σ H2 (fun o H3 => o = none ∧ H3 = H2) I2 ⟨rfl, rfl⟩) fun vu s3 ⟨u, H3, I3, pu, eu, e3⟩ => ?_
  subst eu e3
  refine thn (step.run pins s3 σ H3 (fun o H4 => o = some (-1) ∧ H4 = H3) I3 ⟨1, rfl, -1, rfl, rfl, rfl⟩) fun vs s4 ⟨o, H4, I4, ps, eo, e4⟩ => ?_
  subst eo e4
  have I5 : Inv X pins σ H4 { s4 with heap := s4.heap.push { cls := .type "slice", data := .fields #[vl, vu, vs] } } := I4.kept (t' := s4.toks) fun b ob q => Heap.get?_push_of_some _ q
  obtain ⟨its, r, ht, hz⟩ := I5.tuple hx
  have hlen := r.length
  cases pl
  cases pu
  cases ps
  refine tail_any (ops := [.ref a, .ref s4.heap.objs.size]) ht.typeIs PyProof.Rows.slot_tuple_getitem.lookup ?_ (by with_unfolding_all rfl)
  refine getItem_tuple_back ht (Heap.IsSliceOf.new _ _ _ _) ?_ (by rw [List.size_toArray]; omega)
  exact newT_laid (h' := s4.heap.push _) (tk := s4.toks) I5 (by rw [List.length_reverse]; exact hz) r.reverse q
end
end XF

namespace XF
open PySem PySem.Spec PyProof.Rows L2 XA XB XC XD XE
section
variable {K : PySem.W.Frag} {σ : L2.St} {H : Hp} {Q : VK} {te ta tb : TE} {D : Ends} {i j l : Nat}
theorem rd_lrg {t : L2.St → Hp → (Int → Int → Hp → Prop) → Prop} (h : t σ H fun a b H1 => RgOk a b ∧ ∀ q, H1 q = none → Q (.ref q) (upd H1 q (.lst (rgV a b)))) : tLstRg t σ H Q := h
theorem rd_rg2 {Q : Int → Int → Hp → Prop} (h : ta σ H fun x H1 => tb σ H1 fun y H2 => ∃ i j, x = .int i ∧ y = .int j ∧ Q i j H2) : tRg2 ta tb σ H Q := h
theorem rd_back (h : te σ H fun x H1 => ∃ a xs, x = .ref a ∧ SqT K H1 a xs ∧ NewT H1 xs.reverse Q) : tBack K te σ H Q := h
theorem rd_disp {trs : List (TE × TE)} (h : ∀ p, H p = none → tPairs trs σ (upd H p (.dK [])) fun ps H2 => H2 p = some (.dK []) ∧ ∃ kvs : List (Key × V), ps = kvs.map (fun kv => (kV kv.1, kv.2)) ∧ kvs.length ≤ 15 ∧ Q (.ref p) (upd H2 p (.dK (mergeK [] kvs)))) : tDisp trs σ H Q := h
theorem rd_prN {Q : List (V × V) → Hp → Prop} (h : Q [] H) : tPairs [] σ H Q := h
theorem rd_prC {tk tv : TE} {r : List (TE × TE)} {Q : List (V × V) → Hp → Prop} (h : tk σ H fun x H1 => tv σ H1 fun y H2 => tPairs r σ H2 fun ps H3 => Q ((x, y) :: ps) H3) : tPairs ((tk, tv) :: r) σ H Q := h
theorem rd_par {ta : TA} (h : ta σ H fun vs H1 => ∃ v w, vs = [v, w] ∧ D.nx ((σ.set i (some v)).set j (some w)) H1) : tPar i j ta D σ H := h
theorem rd_par3 {ta : TA} (h : ta σ H fun vs H1 => ∃ u v w, vs = [u, v, w] ∧ D.nx (((σ.set i (some u)).set j (some v)).set l (some w)) H1) : tPar3 i j l ta D σ H := h
theorem rd_two {x y : V} {R : V → V → Prop} (h : R x y) : ∃ v w, [x, y] = [v, w] ∧ R v w := ⟨x, y, rfl, h⟩
theorem rd_three {x y z : V} {R : V → V → V → Prop} (h : R x y z) : ∃ u v w, [x, y, z] = [u, v, w] ∧ R u v w := ⟨x, y, z, rfl, h⟩
theorem rd_one {x : V} {R : V → Prop} (h : R x) : ∃ v, [x] = [v] ∧ R v := ⟨x, rfl, h⟩
theorem rd_onei {k : Int} {R : Int → Prop} (h : R k) : ∃ i, [V.int k] = [.int i] ∧ R i := ⟨k, rfl, h⟩
theorem rd_iL {R : It → Hp → Prop} (h : te σ H fun x H1 => ∃ a, x = .ref a ∧ (∃ xs, SqL K H1 a xs) ∧ R (Itl K a) H1) : iList K te σ H R := h
theorem rd_iT {R : It → Hp → Prop} (h : te σ H fun x H1 => ∃ a, x = .ref a ∧ (∃ xs, SqT K H1 a xs) ∧ R (Itt K a) H1) : iTup K te σ H R := h
end
theorem intsOf : ∀ (l : List V), (∀ x ∈ l, ∃ i, x = .int i) → ∃ gs : List Int, l = gs.map V.int
  | [], _ => ⟨[], rfl⟩
  | x :: r, h => by
    obtain ⟨i, e⟩ := h x List.mem_cons_self
    obtain ⟨gs, e2⟩ := intsOf r fun y hy => h y (List.mem_cons_of_mem _ hy)
    exact ⟨i :: gs, by rw [e, e2] <;> rfl⟩
/-! ### looking up and storing in the state -/
theorem gc : ¬ (kG = kC) := by decide +kernel
theorem gr : ¬ (kG = kR) := by decide +kernel
theorem gt : ¬ (kG = kT) := by decide +kernel
theorem cr : ¬ (kC = kR) := by decide +kernel
theorem ct : ¬ (kC = kT) := by decide +kernel
theorem rt : ¬ (kR = kT) := by decide +kernel
section
variable {g c : Addr} {r t : Int}
theorem at_G : valV (stD g c r t) kG = some (.ref g) := by simp [valV, stD]
theorem at_C : valV (stD g c r t) kC = some (.ref c) := by
  have h : decide (kG = kC) = false := decide_eq_false gc
  simp only [valV, stD, List.find?_cons, h]
  simp
theorem at_R : valV (stD g c r t) kR = some (.int r) := by
  have h1 : decide (kG = kR) = false := decide_eq_false gr
  have h2 : decide (kC = kR) = false := decide_eq_false cr
  simp only [valV, stD, List.find?_cons, h1, h2]
  simp
theorem at_T : valV (stD g c r t) kT = some (.int t) := by
  have h1 : decide (kG = kT) = false := decide_eq_false gt
  have h2 : decide (kC = kT) = false := decide_eq_false ct
  have h3 : decide (kR = kT) = false := decide_eq_false rt
  simp only [valV, stD, List.find?_cons, h1, h2, h3]
  simp
theorem put_T {u : Int} : putK (stD g c r t) kT (.int u) = stD g c r u := by
  have h1 : decide (kG = kT) = false := decide_eq_false gt
  have h2 : decide (kC = kT) = false := decide_eq_false ct
  have h3 : decide (kR = kT) = false := decide_eq_false rt
  simp only [putK, stD, List.any_cons, List.any_nil, h1, h2, h3, List.map_cons, List.map_nil, if_neg gt, if_neg ct, if_neg rt]
  simp
theorem put_R {u : Int} : putK (stD g c r t) kR (.int u) = stD g c u t := by
  have h1 : decide (kG = kR) = false := decide_eq_false gr
  have h2 : decide (kC = kR) = false := decide_eq_false cr
  have h3 : ¬ (kT = kR) := fun z => rt z.symm
  simp only [putK, stD, List.any_cons, List.any_nil, h1, h2, List.map_cons, List.map_nil, if_neg gr, if_neg cr, if_neg h3]
  simp
theorem putK_new {kvs : List (Key × V)} {k : Key} {v : V} (h : (kvs.any fun kv => decide (kv.1 = k)) = false) : putK kvs k v = kvs ++ [(k, v)] := by
  unfold putK
  rw [h] <;> rfl
/-- the state as it is made -/
theorem st_new : mergeK [] [(kG, .ref g), (kC, .ref c), (kR, .int 0), (kT, .int 0)] = stD g c 0 0 := by
  have h1 : decide (kG = kC) = false := decide_eq_false gc
  have h2 : decide (kG = kR) = false := decide_eq_false gr
  have h3 : decide (kG = kT) = false := decide_eq_false gt
  have h4 : decide (kC = kR) = false := decide_eq_false cr
  have h5 : decide (kC = kT) = false := decide_eq_false ct
  have h6 : decide (kR = kT) = false := decide_eq_false rt
  show putK (putK (putK (putK [] kG (.ref g)) kC (.ref c)) kR (.int 0)) kT (.int 0) = _
  rw [putK_new (kvs := []) rfl, List.nil_append, putK_new (kvs := [(kG, .ref g)]) (by simp only [List.any_cons, List.any_nil, h1, Bool.or_false]), List.singleton_append,
    putK_new (kvs := [(kG, .ref g), (kC, .ref c)]) (by simp only [List.any_cons, List.any_nil, h2, h4, Bool.or_false]), List.cons_append, List.singleton_append,
    putK_new (kvs := [(kG, .ref g), (kC, .ref c), (kR, .int 0)]) (by simp only [List.any_cons, List.any_nil, h3, h5, h6, Bool.or_false])]
  rfl
end
theorem pow18 : CPow 10 18 := ⟨by decide, by decide, by decide⟩
theorem none_of {H H' : Hp} {p : Addr} (e : Same H H') (h : H' p = none) : H p = none := by
  cases q : H p with
  | none => rfl
  | some o => rw [e _ _ q] at h; cases h
theorem lt1 {a b : Nat} (h : a + 64 < b) : a + 1 < b := by omega
section
variable {K : PySem.W.Frag} {H : Hp} {p : Addr} {xs : List V} {i : Int}
theorem rd_itl {R : It → Hp → Prop} (h : SqL K H p xs) (q : R (Itl K p) H) : ∃ a, V.ref p = .ref a ∧ (∃ xs, SqL K H a xs) ∧ R (Itl K a) H := ⟨p, rfl, ⟨xs, h⟩, q⟩
theorem rd_itt {R : It → Hp → Prop} (h : SqT K H p xs) (q : R (Itt K p) H) : ∃ a, V.ref p = .ref a ∧ (∃ xs, SqT K H a xs) ∧ R (Itt K a) H := ⟨p, rfl, ⟨xs, h⟩, q⟩
theorem rd_intc {Q : VK} (q : Q (.int i) H) : (∃ j, [V.int i] = [.int j] ∧ Q (.int j) H) ∨ ∃ k, [V.int i] = [.bl k] ∧ Q (.int (if k = true then 1 else 0)) H := .inl ⟨i, rfl, q⟩
end
/-- both ways of a branch lead to one rest -/
theorem rd_join {b : Bool} {ts us : TS} {D : Ends} {σ : L2.St} {H : Hp} (C : Hp → Prop) (key : ∀ H1, C H1 → D.nx σ H1) (h : (∀ H1, C H1 → D.nx σ H1) → if b = true then ts D σ H else us D σ H) : if b = true then ts D σ H else us D σ H := h key
theorem cut_lo {xs : List V} {k : Nat} (h : k ≤ xs.length) : cutV xs none (some (k : Int)) = xs.take k := by
  unfold cutV
  rw [HT.sIx_none, HT.sIx_nat, List.drop_zero, Nat.sub_zero, Nat.min_eq_left h]
theorem cut_hi {xs : List V} {k : Nat} (h : k ≤ xs.length) : cutV xs (some (k : Int)) none = xs.drop k := by
  unfold cutV
  rw [HT.sIx_none, HT.sIx_nat, Nat.min_eq_left h, List.take_of_length_le (by rw [List.length_drop]; omega)]
theorem new_at {H : Hp} {p : Addr} {o : HO} (h : H p = none) : Same H (upd H p o) ∧ upd H p o p = some o := ⟨same_new h, upd_same⟩
/-- tuple * int, a new one -/
theorem repN {K : PySem.W.Frag} {H : Hp} {a : Addr} {xs : List V} {Q : VK} {k : Int} (h : SqT K H a xs) (h1 : -1000 ≤ k) (h2 : k ≤ 1000) (hz : xs.length ≤ 1000) (hn : ¬ (xs = [] ∨ k = 1)) (q : ∀ p H', H p = none → Same H H' → Tp H' p (List.replicate k.toNat xs).flatten → Q (.ref p) H') : rMulU K (.ref a) (.int k) H Q :=
  .inr ⟨a, k, xs, rfl, rfl, h, h1, h2, hz, fun e => absurd e hn, fun _ p o hp ho hd => q p _ hp (same_new hp) ⟨o, upd_same, ho, hd⟩⟩
theorem rd_joinS {b : Bool} {ts us : TS} {D : Ends} {σ : L2.St} {H : Hp} (C : L2.St → Hp → Prop) (key : ∀ σ1 H1, C σ1 H1 → D.nx σ1 H1) (h : (∀ σ1 H1, C σ1 H1 → D.nx σ1 H1) → if b = true then ts D σ H else us D σ H) : if b = true then ts D σ H else us D σ H := h key
end XF

set_option linter.all false
set_option maxRecDepth 100000
set_option maxHeartbeats 4000000
/-! XG: a law's lambdas, tables. -/
namespace XG
open PySem PySem.Spec PyProof.Rows L2 XA XB XC XD XE XF LamX
section
variable {P : Program} {w : World} {K : PySem.W.Frag} {mg : Str → Option Value} {base : Heap} {x : Str} {st : Stmt} {N ps : List Str} {k : Nat} {sp : Sp}
/-- .. its code object at c -/
def RwC (K : PySem.W.Frag) (mg : Str → Option Value) (x : Str) (st : Stmt) (c : Addr) : Prop := ∃ f fd, FunD K x x (defArgs st) (defBody st) (defScope st) [] [] f fd ∧ mg x = some (.ref f) ∧ fd.code = .ref c
theorem mk0C {c : Addr} (R : RwC K mg x st c) (S : FnScope N ps (defScope st)) (bd : Bnd st x ps) (len : ∀ vs H Q E, sp vs H Q E → vs.length = ps.length)
    (hbody : ∀ (f : Addr) (A : Around) (outer : List Env) (s : Shared) (H : Hp) (vs : List V) (Q : VK) (E : XK), Room k (A.deeper (envOfC x (defScope st) s.heap.objs.size f (.ref c))) → sp vs H Q E →
      ∃ t, PSs (cxOf CX0 P w K mg base N x (defScope st) f (.ref c) A outer s H E).nox (defBody st) t ∧ t { nx := fun _ H' => Q .non H', rt := Q } (L2.start N vs) H) : Df P w K mg base CX0 (k + 1) x st ps sp := by
  obtain ⟨f, fd, F, g, hc⟩ := R
  refine ⟨f, fd, ?_, g, F.kp, F.bindsN bd, kbn_of F⟩
  obtain ⟨oc, od, dV, kV, doc, pm, an, cdv, ct, osl, e, lk, hcd, _, _⟩ := F.ex
  subst e
  have e2 : cdv = .ref c := hc
  subst e2
  exact fn_of lk hcd S len fun A outer s H vs Q E hr h => by
    obtain ⟨t, a, b⟩ := hbody f A outer s H vs Q E hr h
    exact ⟨t, a.nox, b⟩
end
section
variable {T : List (Addr × Str)} {K : PySem.W.Frag} {H H' : Hp} {s g c a : Addr} {xs : List V} {n m : Nat} {v : V} {d : Dat}
theorem ext_at {o : HO} (e : ExtN H H') (h : H a = some o) (hn : ∀ ps, o ≠ .tbl ps) : H' a = some o := e _ _ h hn
theorem tabs_kept (t : Tabs T H) (k : XE.Kept s g H H') (h : StAt n H s g c) : Tabs T H' := fun p hp => by
  obtain ⟨ps, h1, h2, h3⟩ := t p hp
  refine ⟨ps, k _ _ h1 (h.ne_s h1 (by intro _ z; cases z)) (h.ne_g h1 (by intro _ z; cases z)), h2, fun pos cv hc => ?_⟩
  obtain ⟨c', e1, e2⟩ := h3 pos cv hc
  exact ⟨c', e1, k _ _ e2 (h.ne_s e2 (by intro _ z; cases z)) (h.ne_g e2 (by intro _ z; cases z))⟩
theorem ext_sqT (e : ExtN H H') (h : SqT K H a xs) : SqT K H' a xs := by
  rcases h with (h | ⟨o, h⟩) | h
  · exact .inl (.inl (e _ _ h (by intro _ z; cases z)))
  · exact .inl (.inr ⟨o, e _ _ h (by intro _ z; cases z)⟩)
  · exact .inr h
theorem ext_sqL (e : ExtN H H') (h : SqL K H a xs) : SqL K H' a xs := by
  rcases h with (h | ⟨o, h⟩) | h
  · exact .inl (.inl (e _ _ h (by intro _ z; cases z)))
  · exact .inl (.inr ⟨o, e _ _ h (by intro _ z; cases z)⟩)
  · exact .inr h
theorem ext_tp (e : ExtN H H') (h : Tp H a xs) : Tp H' a xs := by
  obtain ⟨o, h, r⟩ := h
  exact ⟨o, e _ _ h (by intro _ z; cases z), r⟩
theorem ext_rp (e : ExtN H H') (q : Rp K H v d) : Rp K H' v d := by
  cases d with
  | flat u => exact q
  | tup xs => obtain ⟨a, z, r, y⟩ := q; exact ⟨a, z, ext_sqT e r, y⟩
  | lst xs => obtain ⟨a, z, r⟩ := q; exact ⟨a, z, ext_sqL e r⟩
  | dct => obtain ⟨a, kvs, z, r, l⟩ := q; exact ⟨a, kvs, z, e _ _ r (by intro _ z; cases z), l⟩
theorem ext_st (e : ExtN H H') (h : StAt n H s g c) : StAt n H' s g c := by
  obtain ⟨r, t, gs, cs, h1, h2, h3, h4⟩ := h
  exact ⟨r, t, gs, cs, e _ _ h1 (by intro _ z; cases z), e _ _ h2 (by intro _ z; cases z), e _ _ h3 (by intro _ z; cases z), h4⟩
theorem tabs_same (t : Tabs T H) (e : Same H H') : Tabs T H' := t.ext e
end
/-- what is caught: an error of the class at D, told at a -/
def Err (D : Addr) (H : Hp) (v : V) : Prop := ∃ a, v = .ref a ∧ H a = some (ExV (.ref D) none a)
theorem Err.same {D : Addr} {H H' : Hp} {v : V} (h : Err D H v) (e : Same H H') : Err D H' v := by
  obtain ⟨a, q, r⟩ := h
  exact ⟨a, q, e _ _ r⟩
theorem Err.ext {D : Addr} {H H' : Hp} {v : V} (h : Err D H v) (e : ExtN H H') : Err D H' v := by
  obtain ⟨a, q, r⟩ := h
  exact ⟨a, q, e _ _ r (by intro _ z; cases z)⟩
/-- _law_caught(lambda: ..): the body raises an error of the class at D -/
theorem rd_caught {T : List (Addr × Str)} {K : PySem.W.Frag} {CS D : Addr} {t : XK → TE} {σ : L2.St} {H : Hp} {Q : VK} (hT : Tabs T H) (hx : PySem.W.exmOne K (.ref D) (.ref CS) = some true)
    (h : ∀ H1 (Ech : XK) (Q' : VK), ExtN H H1 → Tabs T H1 → (∀ H2, (∀ v H3, Same H2 H3 → Err D H3 v → Q v H3) → Ech (.ref D) none H2) → t Ech σ H1 Q') : tLam T (TCaught K CS) t σ H Q :=
  ⟨hT, fun H1 e1 T1 Ech Q' he _ => h H1 Ech Q' e1 T1 fun H2 q => he _ _ _ hx fun a ha => q _ _ (same_new ha) ⟨a, rfl, upd_same⟩⟩
/-- isinstance(e, C) of a caught error -/
theorem rd_isErr {K : PySem.W.Frag} {D C : Addr} {H : Hp} {v : V} {b : Bool} {Q : VK} (h : Err D H v) (hc : ExcC K D) (hC : ClsV (.ref C) (.ref C)) (e : PySem.W.kitOne K (.ref D) (.ref C) = some b) (q : Q (.bl b) H) : rIsU K [v, .ref C] H Q := by
  obtain ⟨a, rfl, r⟩ := h
  exact .inr ⟨a, D, .ref C, .ref C, b, rfl, r, hc, hC, e, q⟩
def tIfT (t u v : TT) : TT := fun σ H Q => t σ H fun c H1 => if c = true then u σ H1 Q else v σ H1 Q
theorem pt_ifT {X : Cx} {a b c : Expr} {pos : Pos} {t u v : TT} (ha : PT X a t) (hb : PT X b u) (hc : PT X c v) : PT X (.IfExp a b c pos) (tIfT t u v) := by
  refine ⟨fun pins s σ H Q I h => ?_⟩
  show wpAny _ _ (do if ← isTrue a X.env (eval a X.env) then isTrue b X.env (eval b X.env) else isTrue c X.env (eval c X.env)) _ _ s
  refine wpAny_bind (wpAny_mono (ha.run pins s σ H _ I h) (fun d s1 e => ?_) fun _ _ x => x)
  obtain ⟨H1, I1, q⟩ := e
  cases d with
  | true => exact hb.run pins s1 σ H1 Q I1 q
  | false => exact hc.run pins s1 σ H1 Q I1 q
theorem rd_ifT {t u v : TT} {σ : L2.St} {H : Hp} {Q : Bool → Hp → Prop} (h : t σ H fun c H1 => if c = true then u σ H1 Q else v σ H1 Q) : tIfT t u v σ H Q := h
theorem ext_mut {H0 H : Hp} {k : Addr} {o : HO} (e : ExtN H0 H) (hk : H0 k = none) : ExtN H0 (upd H k o) := fun b u q n => by
  rw [upd_ne (ne_of_none q hk)]
  exact e b u q n
theorem ext_same {H0 H H1 : Hp} (e : ExtN H0 H) (s : Same H H1) : ExtN H0 H1 := fun b o q n => s _ _ (e b o q n)
theorem ext_none {H H' : Hp} {p : Addr} (e : ExtN H H') (h : H' p = none) (hn : ∀ ps, H p ≠ some (.tbl ps)) : H p = none := by
  cases q : H p with
  | none => rfl
  | some o => rw [e _ _ q (fun ps z => hn ps (by rw [q, z]))] at h; cases h
theorem tabs_mut {T : List (Addr × Str)} {H : Hp} {k : Addr} {xs : List V} {o : HO} (t : Tabs T H) (hk : H k = some (.lst xs)) : Tabs T (upd H k o) := fun p hp => by
  obtain ⟨ps, h1, h2, h3⟩ := t p hp
  refine ⟨ps, by rw [upd_ne (ne_of h1 hk (by intro z; cases z))]; exact h1, h2, fun pos cv hc => ?_⟩
  obtain ⟨c', e1, e2⟩ := h3 pos cv hc
  exact ⟨c', e1, by rw [upd_ne (ne_of e2 hk (by intro z; cases z))]; exact e2⟩
section
variable {σ : L2.St} {H : Hp} {Q : L2.St → Hp → Prop} {t : TG} {u : TGs} {v : V} {r : List V}
theorem rd_gcons (h : t v σ H fun σ' H' => u r σ' H' Q) : gCons t u (v :: r) σ H Q := ⟨v, r, rfl, h⟩
theorem rd_gnil (h : Q σ H) : gNil [] σ H Q := ⟨rfl, h⟩
end
theorem Err.mut {D k : Addr} {H : Hp} {v : V} {xs : List V} {o : HO} (h : Err D H v) (hk : H k = some (.lst xs)) : Err D (upd H k o) v := by
  obtain ⟨a, q, r⟩ := h
  exact ⟨a, q, by rw [upd_ne (ne_of r hk (by intro z; cases z))]; exact r⟩
theorem mk0F {P : Program} {w : World} {K : PySem.W.Frag} {mg : Str → Option Value} {base : Heap} {x : Str} {st : Stmt} {N ps : List Str} {k : Nat} {sp : Sp} {f : Addr} {fd : FuncData} (F : FunD K x x (defArgs st) (defBody st) (defScope st) [] [] f fd) (S : FnScope N ps (defScope st)) (len : ∀ vs H Q E, sp vs H Q E → vs.length = ps.length)
    (hbody : ∀ (cdv : Value) (A : Around) (outer : List Env) (s : Shared) (H : Hp) (vs : List V) (Q : VK) (E : XK), Room k (A.deeper (envOfC x (defScope st) s.heap.objs.size f cdv)) → sp vs H Q E →
      ∃ t, PSs (cxOf CX0 P w K mg base N x (defScope st) f cdv A outer s H E).nox (defBody st) t ∧ t { nx := fun _ H' => Q .non H', rt := Q } (L2.start N vs) H) : FnOk P w K mg base CX0 (k + 1) f fd ps sp :=
  F.ok S len fun cdv A outer s H vs Q E hr h => by
    obtain ⟨t, a, b⟩ := hbody cdv A outer s H vs Q E hr h
    exact ⟨t, a.nox, b⟩
theorem rd_aug {i : Nat} {te : TE} {D : Ends} {σ : L2.St} {H : Hp} {j : Int} (h : σ[i]? = some (some (.int j))) (q : te σ H fun y H1 => ∃ k, y = .int k ∧ D.nx (σ.set i (some (.int (j + k)))) H1) : tAug i te (ipI fun i j => i + j) D σ H :=
  ⟨.int j, h, by
    have e : (fun y H1 => ipI (fun i j => i + j) (.int j) y H1 fun z H2 => D.nx (σ.set i (some z)) H2) = fun y H1 => ∃ k, y = .int k ∧ D.nx (σ.set i (some (.int (j + k)))) H1 := by
      funext y H1
      refine propext ⟨fun ⟨a, b, e1, e2, q⟩ => ?_, fun ⟨k, e, q⟩ => ⟨j, k, rfl, e, q⟩⟩
      cases e1
      exact ⟨b, e2, q⟩
    rw [e]
    exact q⟩
/-- a while's test of two parts: where it ends is told once -/
theorem rd_exit {c : Bool} {t : TT} {σ : L2.St} {H : Hp} {A B : Hp → Prop} (P : Prop) (ex : P → B H) (h : (P → B H) → if c = true then t σ H (fun b H1 => if b = true then A H1 else B H1) else if false = true then A H else B H) :
    if c = true then t σ H (fun b H1 => if b = true then A H1 else B H1) else if false = true then A H else B H := h ex
theorem rd_exitH {c : Bool} {t : TT} {σ : L2.St} {H : Hp} {A B : Hp → Prop} (C : Hp → Prop) (ex : ∀ H1, C H1 → B H1) (h : (∀ H1, C H1 → B H1) → if c = true then t σ H (fun b H1 => if b = true then A H1 else B H1) else if false = true then A H else B H) :
    if c = true then t σ H (fun b H1 => if b = true then A H1 else B H1) else if false = true then A H else B H := h ex
theorem mk0FC {P : Program} {w : World} {K : PySem.W.Frag} {mg : Str → Option Value} {base : Heap} {x : Str} {st : Stmt} {N ps : List Str} {k : Nat} {sp : Sp} {f c : Addr} {fd : FuncData} (F : FunD K x x (defArgs st) (defBody st) (defScope st) [] [] f fd) (hc : fd.code = .ref c) (S : FnScope N ps (defScope st)) (len : ∀ vs H Q E, sp vs H Q E → vs.length = ps.length)
    (hbody : ∀ (A : Around) (outer : List Env) (s : Shared) (H : Hp) (vs : List V) (Q : VK) (E : XK), Room k (A.deeper (envOfC x (defScope st) s.heap.objs.size f (.ref c))) → sp vs H Q E →
      ∃ t, PSs (cxOf CX0 P w K mg base N x (defScope st) f (.ref c) A outer s H E).nox (defBody st) t ∧ t { nx := fun _ H' => Q .non H', rt := Q } (L2.start N vs) H) : FnOk P w K mg base CX0 (k + 1) f fd ps sp := by
  obtain ⟨oc, od, dV, kV, doc, pm, an, cdv, ct, osl, e, lk, hcd, _, _⟩ := F.ex
  subst e
  have e2 : cdv = .ref c := hc
  subst e2
  exact fn_of lk hcd S len fun A outer s H vs Q E hr h => by
    obtain ⟨t, a, b⟩ := hbody A outer s H vs Q E hr h
    exact ⟨t, a.nox, b⟩
end XG

set_option linter.all false
set_option maxRecDepth 100000
set_option maxHeartbeats 4000000
/-! XQ: enumerate of a tuple, tuple.index of ints, len(set(tuple of ints)), dicts of a list. -/
namespace XQ
open PySem PySem.Spec PyProof.Rows L2 XA XB XC XD XE XF XG
/-! ### enumerate(t), t a tuple -/
theorem new_enumT (l : Addr) (xs : Array Value) (n : Nat) (dd : Option Addr) (sl : Array (Option Value)) :
    Meets (Builtin.«enumerate.__new__» ⟨[.type "enumerate", .ref l], []⟩) (fun _ R s => s.heap.get? l = some ⟨.type "tuple", dd, .seq xs n, sl⟩ ∧
      R (.ok (.ret (.ref (s.heap.push { cls := .type "tuple_iterator", data := .fields #[.ref l, .int 0 0] }).objs.size)))
        { s with heap := (s.heap.push { cls := .type "tuple_iterator", data := .fields #[.ref l, .int 0 0] }).push { cls := .type "enumerate", data := .fields #[.none, .bool false, .ref s.heap.objs.size, rawInt 0, .none, .none] } }) :=
  .of_wp fun prog w A R s h => by
    obtain ⟨h1, g1, d1, tk1, os1⟩ := s
    obtain ⟨at_, go⟩ := h
    have hs := sub_enumerate
    have tp : Heap.IsTuple (Shared.heap ⟨h1, g1, d1, tk1, os1⟩) l xs := ⟨_, at_, rfl, n, rfl⟩
    wp_walk using AutoSeq1.wpAny_loadPart' at_
    refine wpAny_stack_any fun u => wpAny_pure ?_
    split
    · rename_i c _ _ _ _ _
      cases (c == Value.type "enumerate") <;> (wp_walk using AutoSeq1.wpAny_loadPart' at_, wpAny_pyIter_tuple tp; exact ⟨_, rfl, go⟩)
    · wp_walk using AutoSeq1.wpAny_loadPart' at_, wpAny_pyIter_tuple tp
      exact ⟨_, rfl, go⟩
section
variable {prog : Program} {w : World} {A : Around} {E : Value → Shared → Prop} {s : Shared}
theorem call_enumT {l : Addr} {xs : Array Value} {Q : Value → Shared → Prop} (hL : s.heap.IsTuple l xs)
    (h : ∀ h', IsEnum h' (s.heap.objs.size + 1) s.heap.objs.size 0 .none → h'.IsTupleIter s.heap.objs.size l 0 → (∀ b o, s.heap.get? b = some o → h'.get? b = some o) → Q (.ref (s.heap.objs.size + 1)) { s with heap := h' }) :
    wpAny (model prog w) A (call (.type "enumerate") [.ref l]) Q E s := by
  obtain ⟨⟨c, dd, dt, sl⟩, hl, hc, n, hd⟩ := hL
  obtain rfl : c = .type "tuple" := hc
  obtain rfl : dt = .seq xs n := hd
  refine callType_new F.called_enumerate (by decide) (F.typeCall_enumerate_1 _) (F.newCall_enumerate_1 _) (fun obj => F.args_object_init_2 obj _) F.entry_enumerate_new (new_enumT l xs n dd sl) ⟨hl, ?_⟩
  have z : (s.heap.push { cls := .type "tuple_iterator", data := .fields #[.ref l, .int 0 0] }).objs.size = s.heap.objs.size + 1 := Heap.size_push ..
  show _ ∧ _
  rw [z]
  have en : IsEnum ((s.heap.push { cls := .type "tuple_iterator", data := .fields #[.ref l, .int 0 0] }).push
      { cls := .type "enumerate", data := .fields #[.none, .bool false, .ref s.heap.objs.size, rawInt 0, .none, .none] }) (s.heap.objs.size + 1) s.heap.objs.size 0 .none := by
    have q := Heap.get?_push_size (s.heap.push { cls := .type "tuple_iterator", data := .fields #[.ref l, .int 0 0] })
      (o := { cls := .type "enumerate", data := .fields #[.none, .bool false, .ref s.heap.objs.size, rawInt 0, .none, .none] }) rfl
    rw [z] at q
    exact q
  exact ⟨⟨_, en, rfl⟩, h _ en ⟨_, Heap.get?_push_of_some _ (Heap.get?_push_size _ rfl), rfl, rfl⟩ fun b o x => Heap.get?_push_of_some _ (Heap.get?_push_of_some _ x)⟩
theorem enumT_item {e it l : Addr} {i : Nat} {xs : Array Value} {x old : Value} {Q : Value → Shared → Prop} (he : IsEnum s.heap e it i old) (hit : s.heap.IsTupleIter it l i) (hl : s.heap.IsTuple l xs) (hx : xs[i]? = some x) (hne : e ≠ it)
    (hQ : ∀ h', IsEnumOut h' e it ((i : Int) + 1) x s.heap.objs.size → h'.IsTupleIter it l (i + 1) → h'.get? s.heap.objs.size = some { cls := .type "tuple", data := .seq #[.int i s.toks, x] } → h'.objs.size = s.heap.objs.size + 1 →
      (∀ b o, b ≠ e → b ≠ it → s.heap.get? b = some o → h'.get? b = some o) → Q (.ref s.heap.objs.size) { s with heap := h', toks := s.toks + 1 }) :
    wpAny (model prog w) A (Builtin.«enumerate.__next__» ⟨[.ref e], []⟩) (fun fin s' => ∃ v, fin = .done (.ret v) ∧ Q v s') E s := by
  obtain ⟨h0, g, d, tk, os⟩ := s
  show wpAny _ _ (field (.ref e) 2 >>= _) _ _ _
  refine wpAny_bind (wpAny_field he rfl (x := .ref it) rfl (wpAny_bind (RZ.nextOf_tuple_item hit hl hx fun h₁ hit₁ hs₁ => ?_)))
  replace hs₁ : Heap.SameBut it h0 h₁ := hs₁
  have he₁ : IsEnum h₁ e it i old := (hs₁.2 e hne).trans he
  show wpAny _ _ (field (.ref e) 3 >>= _) _ _ (Shared.mk h₁ g d tk os)
  refine wpAny_bind (wpAny_field he₁ rfl (x := rawInt i) rfl ?_)
  show wpAny _ _ (field (.ref e) 4 >>= _) _ _ (Shared.mk h₁ g d tk os)
  refine wpAny_bind (wpAny_field he₁ rfl (x := .none) rfl ?_)
  show wpAny _ _ (mkInt i >>= _) _ _ (Shared.mk h₁ g d tk os)
  refine wpAny_bind (wpAny_mkInt ?_)
  show wpAny _ _ (setField (.ref e) 3 (rawInt ((i : Int) + 1)) >>= _) _ _ (Shared.mk h₁ g d (tk + 1) os)
  refine wpAny_bind (wpAny_setField_rec he₁ (by simp) fun h₂ he₂ hs₂ => ?_)
  replace hs₂ : Heap.SameBut e h₁ h₂ := hs₂
  replace he₂ : IsEnum h₂ e it ((i : Int) + 1) old := he₂
  show wpAny _ _ (setField (.ref e) 4 .none >>= _) _ _ (Shared.mk h₂ g d (tk + 1) os)
  refine wpAny_bind (wpAny_setField_rec he₂ (by simp) fun h₃ he₃ hs₃ => ?_)
  replace hs₃ : Heap.SameBut e h₂ h₃ := hs₃
  replace he₃ : IsEnum h₃ e it ((i : Int) + 1) old := he₃
  show wpAny _ _ (newTuple [.int i tk, x] >>= _) _ _ (Shared.mk h₃ g d (tk + 1) os)
  refine wpAny_bind (wpAny_newTuple ?_)
  have he₄ : IsEnum (h₃.push { cls := .type "tuple", data := .seq #[.int i tk, x] }) e it ((i : Int) + 1) old := Heap.get?_push_of_some _ he₃
  generalize q4 : h₃.push { cls := .type "tuple", data := .seq #[.int i tk, x] } = h₄ at he₄
  have z3 : h₃.objs.size = h0.objs.size := by rw [hs₃.1, hs₂.1, hs₁.1]
  have el : e < h0.objs.size := Heap.lt_size he
  have t4 : h₄.get? h0.objs.size = some { cls := .type "tuple", data := .seq #[.int i tk, x] } := by rw [← q4, ← z3]; exact Heap.get?_push_size _ rfl
  have z4 : h₄.objs.size = h0.objs.size + 1 := by rw [← q4, Heap.size_push, z3]
  have k4 : ∀ b o, b ≠ e → b ≠ it → h0.get? b = some o → h₄.get? b = some o := fun b o hbe hbi hb => by
    rw [← q4]; exact Heap.get?_push_of_some _ (hs₃.extBut b o hbe (hs₂.extBut b o hbe (hs₁.extBut b o hbi hb)))
  have i4 : h₄.IsTupleIter it l (i + 1) := by
    rw [← q4]; obtain ⟨o, ho, r⟩ := (hit₁.extBut hs₂.extBut (Ne.symm hne)).extBut hs₃.extBut (Ne.symm hne); exact ⟨o, Heap.get?_push_of_some _ ho, r⟩
  show wpAny _ _ (Builtin.SmallTypes.ownedTupleIsFree (.ref e) >>= _) _ _ (Shared.mk h₄ g d (tk + 1) os)
  rw [z3]
  clear q4 he₃ hs₃ he₂ hs₂ he₁ hs₁ hit₁ z3 h₃ h₂ h₁
  refine wpAny_bind ?_
  unfold Builtin.SmallTypes.ownedTupleIsFree
  refine wpAny_bind (wpAny_field he₄ rfl (x := .none) rfl (wpAny_pure ?_))
  simp only [if_true]
  refine wpAny_bind (wpAny_rule (wpAny_bind (wpAny_field he₄ rfl (x := old) rfl (wpAny_bind (wpAny_setField_rec he₄ (by simp) fun h₅ he₅ hs₅ => ?_)))))
  replace hs₅ : Heap.SameBut e h₄ h₅ := hs₅
  replace he₅ : IsEnum h₅ e it ((i : Int) + 1) x := he₅
  show wpAny _ _ (Builtin.SmallTypes.ownedTupleHandOut (.ref e) (.ref h0.objs.size) >>= _) _ _ (Shared.mk h₅ g d (tk + 1) os)
  refine wpAny_bind ?_
  unfold Builtin.SmallTypes.ownedTupleHandOut
  refine wpAny_bind (wpAny_setField_rec he₅ (by simp) fun h₆ he₆ hs₆ => ?_)
  replace hs₆ : Heap.SameBut e h₅ h₆ := hs₆
  replace he₆ : IsEnumOut h₆ e it ((i : Int) + 1) x h0.objs.size := he₆
  refine wpAny_setField_rec he₆ (by simp) fun h₇ he₇ hs₇ => ?_
  replace hs₇ : Heap.SameBut e h₆ h₇ := hs₇
  replace he₇ : IsEnumOut h₇ e it ((i : Int) + 1) x h0.objs.size := he₇
  refine wpAny_bind (wpAny_letGo (wpAny_pure ⟨_, rfl, hQ h₇ he₇ ?_ ?_ ?_ fun b o hbe hbi hb => hs₇.extBut b o hbe (hs₆.extBut b o hbe (hs₅.extBut b o hbe (k4 b o hbe hbi hb)))⟩))
  · exact ((i4.extBut hs₅.extBut (Ne.symm hne)).extBut hs₆.extBut (Ne.symm hne)).extBut hs₇.extBut (Ne.symm hne)
  · exact hs₇.extBut _ _ (Nat.ne_of_gt el) (hs₆.extBut _ _ (Nat.ne_of_gt el) (hs₅.extBut _ _ (Nat.ne_of_gt el) t4))
  · rw [hs₇.1, hs₆.1, hs₅.1, z4]
theorem next_enumT_item {e it l : Addr} {i : Nat} {xs : Array Value} {x old : Value} {Q : Option Value → Shared → Prop} (he : IsEnum s.heap e it i old) (hit : s.heap.IsTupleIter it l i) (hl : s.heap.IsTuple l xs) (hx : xs[i]? = some x) (hne : e ≠ it)
    (hQ : ∀ h', IsEnumOut h' e it ((i : Int) + 1) x s.heap.objs.size → h'.IsTupleIter it l (i + 1) → h'.get? s.heap.objs.size = some { cls := .type "tuple", data := .seq #[.int i s.toks, x] } → h'.objs.size = s.heap.objs.size + 1 →
      (∀ b o, b ≠ e → b ≠ it → s.heap.get? b = some o → h'.get? b = some o) → Q (some (.ref s.heap.objs.size)) { s with heap := h', toks := s.toks + 1 }) :
    wpAny (model prog w) A (pyNext (.ref e)) Q E s := by
  have ty : s.TypeIs (.ref e) "enumerate" := ⟨_, he, rfl⟩
  unfold pyNext
  exact wpAny_bind (wpAny_attempt (wpAny_callSpecial?_slot (name := Str.ofString "__next__") ty F.slot_enumerate_next (wpAny_call_entry F.slot_enumerate_next ty F.entry_enumerate_next
      (enumT_item he hit hl hx hne fun h' a b c d k => wpAny_pure (hQ h' a b c d k)) (F.args_enumerate_next_1 _))))
theorem next_enumT_end {e it l : Addr} {i : Nat} {xs : Array Value} {old : Value} {Q : Option Value → Shared → Prop} (hh : A.handled = none) (he : IsEnum s.heap e it i old) (hit : s.heap.IsTupleIter it l i) (hl : s.heap.IsTuple l xs) (hx : xs[i]? = none)
    (hQ : ∀ h', Heap.ExtBut it s.heap h' → Q none { s with heap := h' }) : wpAny (model prog w) A (pyNext (.ref e)) Q E s := by
  have ty : s.TypeIs (.ref e) "enumerate" := ⟨_, he, rfl⟩
  unfold pyNext
  refine wpAny_bind (wpAny_attempt (wpAny_callSpecial?_slot (name := Str.ofString "__next__") ty F.slot_enumerate_next (wpAny_call_entry F.slot_enumerate_next ty F.entry_enumerate_next ?_ (F.args_enumerate_next_1 _))))
  show wpAny _ _ (field (.ref e) 2 >>= _) _ _ _
  refine wpAny_bind (wpAny_field he rfl (x := .ref it) rfl (wpAny_bind (RZ.nextOf_tuple_end hh hit hl hx fun h' x he' hx' => ?_)))
  obtain ⟨o, ho, hc⟩ := hx'
  exact wpAny_bind (wpAny_isInstance (T := "StopIteration") (b := true) ⟨o, ho, hc⟩ isSubtype_stop (wpAny_pure (hQ _ he')))
end
/-- the tuple at a, each item in a new pair -/
def IteT (K : PySem.W.Frag) (a : Addr) : It :=
  ⟨fun i H => ∃ (xs : List V) (x : V), SqT K H a xs ∧ xs[i]? = some x, fun i H v H' => ∃ T x, v = .ref T ∧ H T = none ∧ H' = upd H T (.tup [.int (i : Nat), x]) ∧ ∀ xs, SqT K H a xs → xs[i]? = some x, fun i H => ∃ xs : List V, SqT K H a xs ∧ xs.length ≤ i⟩
theorem turn_enumT {P : Program} {w : World} {K : PySem.W.Frag} {elts : List Expr} {kk : Nat} {tpos : Pos} (a e it : Addr) :
    Turn P w K (.Tuple elts kk tpos) (IteT K a) [e, it] e (fun i h => (∃ old, IsEnum h e it ((i : Nat) : Int) old) ∧ h.IsTupleIter it a i ∧ e ≠ it) where
  mem := by simp
  obj := fun i h st b hb => by
    obtain ⟨⟨old, he⟩, ⟨o, ho, hc, hd⟩, _⟩ := st
    rcases (show b = e ∨ b = it by simpa using hb) with z | z
    · subst z; exact ⟨_, he, fun v q => nomatch q⟩
    · subst z; exact ⟨o, ho, fun v q => by rw [hd] at q; cases q⟩
  keep := fun i h h' st k => ⟨let ⟨old, he⟩ := st.1; ⟨old, k e (by simp) _ he⟩, st.2.1.at fun o q => k it (by simp) o q, st.2.2⟩
  item := by
    intro X hP hw hK hc i pins s σ H E I hf st hg
    subst hP hw hK
    obtain ⟨⟨old, he⟩, hit, hne⟩ := st
    obtain ⟨xs, x, hq, hx⟩ := hg
    obtain ⟨its, rv, p, hz⟩ := I.tuple hq
    obtain ⟨u, hu, ru⟩ := rv.get hx
    have e0 : e < s.heap.objs.size := Heap.lt_size he
    have i0 : it < s.heap.objs.size := by obtain ⟨_, q, _⟩ := hit; exact Heap.lt_size q
    refine next_enumT_item he hit p (x := u) (by simpa using hu) hne fun h' ho hit' hT hsz hk => ?_
    refine ⟨_, rfl, wpAny_letOwnedTupleGo_enum (s := { s with heap := h', toks := s.toks + 1 }) ho fun h'' he' sb => ?_⟩
    have hT2 : h''.get? s.heap.objs.size = some { cls := .type "tuple", data := .seq #[.int i s.toks, u] } := (sb.2 _ (Nat.ne_of_gt e0)).trans hT
    have new : ObjOk X.prog X.w (upd H s.heap.objs.size (.tup [.int (i : Nat), x])) h'' s.heap.objs.size (.tup [.int (i : Nat), x]) := ⟨by show 2 ≤ sizeLine; decide, [.int i s.toks, u], .cons ⟨_, rfl⟩ (.cons ru .nil), ⟨_, hT2, rfl, _, rfl⟩⟩
    have I1 : Inv X pins σ (upd H s.heap.objs.size (.tup [.int (i : Nat), x])) { s with heap := h'', toks := s.toks + 1 } :=
      I.turnedNew (ch := [e, it]) (fun b ob hb q => (sb.2 b (fun z => hb (by simp [z]))).trans (hk b ob (fun z => hb (by simp [z])) (fun z => hb (by simp [z])) q)) hf (Nat.le_refl _) new
    refine ⟨.ref s.heap.objs.size, _, I1, rfl, ⟨_, x, rfl, I.hok.fresh (Nat.le_refl _), rfl, fun ys hy => by rw [I.tuple_inj hy hq]; exact hx⟩, ⟨⟨u, ?_⟩, hit'.at fun o q => (sb.2 it (Ne.symm hne)).trans q, hne⟩, fun b hb => ?_⟩
    · rw [show ((i + 1 : Nat) : Int) = (i : Int) + 1 by omega]
      exact he'
    · have hb' : b < s.heap.objs.size := by
        rcases (show b = e ∨ b = it by simpa using hb) with z | z
        · rw [z]; exact e0
        · rw [z]; exact i0
      rw [upd_ne (Nat.ne_of_lt hb')]
      exact (hf b hb).1
  done := by
    intro X hP hw hK hc i pins s σ H E I hf st hg
    subst hP hw hK
    obtain ⟨⟨old, he⟩, hit, hne⟩ := st
    obtain ⟨xs, hq, hx⟩ := hg
    obtain ⟨its, rv, p, hz⟩ := I.tuple hq
    obtain ⟨f0, f1, f2, f3, f4, f5⟩ := hf it (by simp)
    have hl := rv.length
    exact next_enumT_end (I.ok.hd hc) he hit p (by simp; omega) fun h' eb => ⟨rfl, I.turned (t' := s.toks) (fun b o hb q => eb b o hb q) f0 f1 f3 f4 f5⟩
  self := fun A i s Q E st h => let ⟨⟨_, he⟩, _⟩ := st; wpAny_pyIter_enum he h
def iEnumT (K : PySem.W.Frag) (ta : TA) : TI := fun σ H R => ta σ H fun vs H1 => ∃ a xs, vs = [.ref a] ∧ SqT K H1 a xs ∧ R (IteT K a) H1
theorem pi_enumT {X : Cx} {e : Expr} {ta : TA} {p pos tpos : Pos} {elts : List Expr} {kk : Nat} (hg : Gl X "enumerate") (hm : X.mg "enumerate" = none) (ha : PA X [e] ta) (hs : starEach [e] X.env = [(false, eval e X.env)] := by rfl) :
    PI X (.Tuple elts kk tpos) (.Call (.Name "enumerate" p) [e] [] pos) (iEnumT X.K ta) := by
  refine ⟨fun pins s σ H R I h => Call_ (ld_blt I hg hm boot_enumerate (PyProof.Rows.callWith_type1 (thn (ha.run pos pins s σ H _ I h) fun us s1 ⟨vs, H1, I1, r1, q1⟩ => ?_) hs rfl))⟩
  obtain ⟨a, xs, rfl, hq, q⟩ := q1
  obtain ⟨u, rfl, ru⟩ := r1.one
  obtain rfl : u = Value.ref a := ru
  obtain ⟨its, rv, p', hz⟩ := I1.tuple hq
  refine call_enumT p' fun h' he hit hk => wpAny_pyIter_enum he ?_
  have I2 : Inv X pins σ H1 { s1 with heap := h' } := I1.kept (t' := s1.toks) hk
  refine ⟨s1.heap.objs.size + 1, [s1.heap.objs.size + 1, s1.heap.objs.size], _, _, H1, rfl, I2, turn_enumT a (s1.heap.objs.size + 1) s1.heap.objs.size, ⟨⟨.none, he⟩, hit, Nat.succ_ne_self _⟩, fun b hb => ?_, q⟩
  have hle : s1.heap.objs.size ≤ b := by
    rcases (show b = s1.heap.objs.size + 1 ∨ b = s1.heap.objs.size by simpa using hb) with z | z
    · rw [z]; exact Nat.le_add_right _ _
    · rw [z]; exact Nat.le_refl _
  exact I1.fpOk hle (I1.hok.fresh hle)
/-- how a walk over enumerate(t) goes -/
theorem walk_enumT {K : PySem.W.Frag} {a : Addr} {xs : List V} : L2.Walk (IteT K a) xs.length (fun H => SqT K H a xs) (fun i H v H' => ∃ T x, v = .ref T ∧ H T = none ∧ H' = upd H T (.tup [.int (i : Nat), x]) ∧ xs[i]? = some x) := by
  refine ⟨fun i _ hi q => ⟨xs, xs[i], q, by simp [hi]⟩, fun _ q => ⟨xs, q, Nat.le_refl _⟩, fun i _ x _ hi q y => ?_⟩
  obtain ⟨T, z, e1, e2, e3, e4⟩ := y
  exact ⟨T, z, e1, e2, e3, e4 _ q⟩
/-! ### t.index(k), t a tuple of ints -/
theorem mt_tindex {X : Cx} : MtR X "tuple.index" (fun x xs H Q => ∃ p, ∃ ys : List Int, ∃ z j, x = .ref p ∧ xs = [.int z] ∧ SqT X.K H p (ys.map V.int) ∧ ys[j]? = some z ∧ (∀ m, m < j → ys[m]? ≠ some z) ∧ Q (.int (j : Nat)) H) := by
  intro pins s σ H x xs v us Q I rx rs h
  obtain ⟨p, ys, z, j, rfl, rfl, hq, hy, hno, q⟩ := h
  cases rx
  obtain ⟨u, rfl, t, rfl⟩ := rs.one
  obtain ⟨its, r, ⟨⟨cls, dd, dt, sl⟩, ho, hc, n, hd⟩, hz⟩ := I.tuple hq
  obtain rfl : cls = .type "tuple" := hc
  obtain rfl : dt = .seq its.toArray n := hd
  have hi := ints_of_vals r
  have hl : its.toArray.size = ys.length := by rw [List.size_toArray, ← r.length, List.length_map]
  have hj : j < its.toArray.size := by rw [hl]; exact (List.getElem?_eq_some_iff.mp hy).1
  have at' : ∀ (m : Nat) (hm : m < its.toArray.size), ∃ y t', ys[m]? = some y ∧ its.toArray[m] = Value.int y t' := fun m hm => by
    have hm' : m < ys.length := by rw [← hl]; exact hm
    obtain ⟨t', e⟩ := hi.get m ys[m] (List.getElem?_eq_getElem hm')
    obtain ⟨h1, h2⟩ := List.getElem?_eq_some_iff.mp e
    exact ⟨ys[m], t', List.getElem?_eq_getElem hm', by simpa using h2⟩
  refine call_meets PySem.F.slot_tuple_index ⟨_, ho, rfl⟩ PySem.F.entry_tuple_index (PySem.F.args_tuple_index_2 _ _) (TI.tuple_indexAt p its.toArray n dd sl (.int z t) (eqk z) j hj ?_ ?_)
    ⟨ho, fun w hw => (eqk_gives hi w (by simpa using hw)).at _ _, ⟨.int (j : Nat), H, I.tok _, ⟨_, rfl⟩, q⟩⟩
  · obtain ⟨y, t', h1, h2⟩ := at' j hj
    obtain rfl := Option.some.inj (hy.symm.trans h1)
    rw [h2]
    exact beq_self_eq_true _
  · intro m hm hmj
    obtain ⟨y, t', h1, h2⟩ := at' m hm
    rw [h2]
    exact beq_eq_false_iff_ne.mpr fun e => hno m hmj (by rw [h1, e])
def tIdx (to te : TE) : TE := fun σ H Q => to σ H fun x H1 => ∃ (p : Addr) (ns : List Int), x = .ref p ∧ Tp H1 p (ns.map V.int) ∧ tCons te tNil σ H1 fun vs H2 => ∃ k j, vs = [V.int k] ∧ Tp H2 p (ns.map V.int) ∧ ns[j]? = some k ∧ (∀ m : Nat, m < j → ns[m]? ≠ some k) ∧ Q (.int (j : Nat)) H2
theorem pe_tidx {X : Cx} {o e : Expr} {to te : TE} {apos cpos : Pos} (ho : PE X o to) (he : PE X e te) (hbase : attributeBase o "index" X.env (eval o X.env) = eval o X.env := by rfl)
    (hfew : ((backTo cpos (starEach [e] X.env)).all (fun x => !x.1) && (backToKw cpos (keywordEach [] X.env)).all (fun x => x.1.isSome) && decide (([e] : List Expr).length + ([] : List Keyword).length + (if ([] : List Keyword).isEmpty then 0 else 1) < 30)) = true := by rfl)
    (hline : (apos.endLine == cpos.line) = true := by rfl) (hs : starEach [e] X.env = (false, eval e X.env) :: starEach [] X.env := by rfl) (hplain : (backTo cpos (starEach [] X.env)).any (·.1) = false := by rfl) :
    PE X (.Call (.Attribute o "index" apos) [e] [] cpos) (tIdx to te) := by
  refine ⟨fun pins s σ H Q I h => wpAny_Call_method_late hbase hfew hline rfl (thn (ho.run pins s σ H _ I h) fun v s1 ⟨x, H1, I1, r1, p, ns, ex, hT, q1⟩ => ?_)⟩
  subst ex
  obtain rfl : v = Value.ref p := r1
  obtain ⟨ob, hp, hc, hd⟩ := hT
  obtain ⟨ho', _⟩ := (show ObjOk X.prog X.w H1 s1.heap p (.frz ob (.tup (ns.map V.int))) from I1.hok p _ hp)
  refine ⟨"tuple", "tuple.index", PySem.F.plainAttrs_tuple, PySem.F.slot_tuple_index, PySem.F.type_tuple_index, ⟨ob, ho', hc⟩, fun a ea => by cases ea; exact ⟨ob, ho', hd⟩, ?_⟩
  have hA := (show PA X [e] (tCons te tNil) from pa_cons he pa_nil hs).run cpos pins s1 σ H1 _ I1 q1
  rw [hs] at hA ⊢
  refine Calls.callWith_builtin (by show (false || (backTo cpos (starEach [] X.env)).any (·.1)) = false; rw [hplain] <;> rfl) (Calls.evalArgs_plain (thn hA fun us s2 ⟨vs, H2, I2, r2, k, j, ev, hT2, a1, a2, q2⟩ => ?_))
  subst ev
  exact mt_tindex pins s2 σ H2 (.ref p) [.int k] (.ref p) us Q I2 rfl r2 ⟨p, ns, k, j, rfl, rfl, hT2.sqT, a1, a2, q2⟩
/-! ### len(set(t)), t a tuple of ints -/
def tLenSetT (K : PySem.W.Frag) (ta : TE) : TE := fun σ H Q => ta σ H fun x H1 => ∃ (l : Addr) (ns : List Int), x = .ref l ∧ SqT K H1 l (ns.map V.int) ∧ ns.length ≤ 4000 ∧ ∀ L : List Int, L.Nodup → (∀ z, z ∈ L ↔ z ∈ ns) → Q (.int (L.length : Nat)) H1
theorem pe_lenSetT {X : Cx} {a : Expr} {ta : TE} {p p2 q pos : Pos} (hg : Gl X "len") (hm : X.mg "len" = none) (hg2 : Gl X "set") (hm2 : X.mg "set" = none) (ha : PE X a ta) (hc : X.calm = true := by rfl)
    (na : starEach [a] X.env = (false, eval a X.env) :: starEach [] X.env := by rfl) : PE X (.Call (.Name "len" p) [.Call (.Name "set" p2) [a] [] q] [] pos) (tLenSetT X.K ta) := by
  refine ⟨fun pins s σ H Q I h => Call_ (ld_blt I hg hm boot_len (PyProof.Rows.callWith_builtin1 (PyProof.Rows.args_cons ?_ rfl) rfl rfl))⟩
  refine Call_ (ld_blt I hg2 hm2 boot_set (PyProof.Rows.callWith_type1 (PyProof.Rows.args_cons (thn (ha.run pins s σ H _ I h) fun v s1 ⟨x, H1, I1, r1, q1⟩ => PyProof.Rows.args_nil ?_) na) na rfl))
  obtain ⟨l, ns, rfl, hq, hl, q1⟩ := q1
  cases r1
  obtain ⟨its, r, pl, hz⟩ := I1.tuple hq
  refine call_set_tupI ns (I1.ok.hd hc) pl (by simpa using ints_of_vals r) (by unfold scanBound; omega) fun h' tk c hS hcl hk => PyProof.Rows.args_nil ?_
  have I2 : Inv X pins σ H1 { s1 with heap := h', toks := tk } := I1.kept hk
  obtain ⟨o, es, ep, t, ho, hex, hd, _, hnd, hmem, _, hf, hn, _⟩ := hS
  have e : (es.toList.map keyOf).length = es.size := by rw [List.length_map, Array.length_toList]
  have q2 := q1 _ hnd fun z => by rw [← hmem z]; simp
  rw [e] at q2
  exact call_len_set ho hex hd hf (by rw [hn]; omega) ⟨.int (es.size : Nat), H1, I2.tok _, ⟨_, rfl⟩, q2⟩
/-! ### isinstance(x, (c1, c2)) -/
def rIsV (K : PySem.W.Frag) : List V → Hp → VK → Prop := fun xs H Q => rIsU K xs H Q ∨ rIsiT K xs H Q
theorem call_isV {X : Cx} : CallR X (.builtin "isinstance") (rIsV X.K) := by
  intro pins s σ H xs us Q I r h
  rcases h with h | h
  · exact call_isU pins s σ H xs us Q I r h
  · exact call_isiT pins s σ H xs us Q I r h
/-- isinstance(v, (list, tuple)) -/
theorem kit_seq {K : PySem.W.Frag} {T : String} {b c : Bool} (h1 : kitB T "list" = some b) (h2 : kitB T "tuple" = some c) : PySem.W.kitAny K (.type T) [.type "list", .type "tuple"] = some (b || c) :=
  kitAny_cons (kit_ty h1) (fun e => by rw [e]; exact kitAny_cons (kit_ty h2) (fun e => by rw [e]; rfl) (fun e => by rw [e]; rfl)) (fun e => by rw [e]; rfl)
end XQ

/-! XH: houses as lists of orders: what letters do; core Lean only. -/
namespace XH
open XM
/-- an order of so many places -/
def Ord (N : Nat) (o : List Int) : Prop := o.length = N ∧ (∀ x ∈ o, 0 ≤ x ∧ x < (N : Int)) ∧ o.Nodup
/-- where a letter leads -/
def act (hs : List (List Int)) (l p : Int) : Int := if 0 < l then (hs.getD (l - 1).toNat []).getD p.toNat 0 else (((hs.getD (-l - 1).toNat []).idxOf p : Nat) : Int)
def walk (hs : List (List Int)) (row : List Int) (p : Int) : Int := row.foldl (fun q l => act hs l q) p
structure Hs (N : Nat) (n : Int) (hs : List (List Int)) : Prop where
  len : (hs.length : Int) = n
  ok : ∀ o ∈ hs, Ord N o
def Let (n l : Int) : Prop := -n ≤ l ∧ l ≤ n ∧ l ≠ 0
/-- all values below the bound, none twice: each place is one -/
theorem Ord.full {N : Nat} {o : List Int} (h : Ord N o) {p : Int} (h0 : 0 ≤ p) (h1 : p < N) : p ∈ o := by
  obtain ⟨hl, hb, hn⟩ := h
  -- the values as naturals are a nodup list below N of length N
  have hnn : (o.map Int.toNat).Nodup := by
    refine List.pairwise_map.mpr (hn.imp_of_mem fun {a b} ha hb2 hab e => hab ?_)
    have := hb a ha
    have := hb b hb2
    omega
  have key : ∀ (N : Nat) (l : List Nat), l.Nodup → (∀ x ∈ l, x < N) → l.length = N → ∀ k, k < N → k ∈ l := by
    intro N
    induction N with
    | zero => intro l _ _ _ k hk; omega
    | succ N ih =>
      intro l hl hb hz k hk
      by_cases hN : N ∈ l
      · have h1 : (l.erase N).length = N := by rw [List.length_erase_of_mem hN]; omega
        have h2 : (l.erase N).Nodup := hl.erase N
        have h3 : ∀ x ∈ l.erase N, x < N := fun x hx => by
          have hx' := (List.Nodup.mem_erase_iff hl).mp hx
          have := hb x hx'.2
          have := hx'.1
          omega
        by_cases e : k = N
        · rw [e]; exact hN
        · exact List.mem_of_mem_erase (ih _ h2 h3 h1 k (by omega))
      · exfalso
        have h3 : ∀ x ∈ l, x < N := fun x hx => by
          have := hb x hx
          have : x ≠ N := fun e => hN (e ▸ hx)
          omega
        have h4 : ∀ (N : Nat) (l : List Nat), l.Nodup → (∀ x ∈ l, x < N) → l.length ≤ N := by
          intro N
          induction N with
          | zero =>
            intro l _ h
            cases l with
            | nil => simp
            | cons a r => exact absurd (h a (by simp)) (by omega)
          | succ N ih =>
            intro l hl h
            have h1 : (l.erase N).length ≤ N := ih _ (hl.erase N) fun x hx => by
              have hx' := (List.Nodup.mem_erase_iff hl).mp hx
              have := h x hx'.2
              have := hx'.1
              omega
            by_cases e : N ∈ l
            · rw [List.length_erase_of_mem e] at h1; omega
            · rw [List.erase_of_not_mem e] at h1; omega
        have := h4 N l hl h3
        omega
  have := key N (o.map Int.toNat) hnn (fun x hx => by
    obtain ⟨y, hy, rfl⟩ := List.mem_map.mp hx
    have := hb y hy
    omega) (by rw [List.length_map]; exact hl) p.toNat (by omega)
  obtain ⟨y, hy, e⟩ := List.mem_map.mp this
  have := hb y hy
  rw [show p = y by omega]
  exact hy
section
variable {N : Nat} {n : Int} {hs : List (List Int)}
theorem getD_mem {α : Type} {l : List α} {i : Nat} {d : α} (h : i < l.length) : l.getD i d ∈ l := by
  rw [List.getD_eq_getElem?_getD, List.getElem?_eq_getElem h]
  exact List.getElem_mem h
theorem Hs.ord (H : Hs N n hs) {i : Nat} (h : i < hs.length) : Ord N (hs.getD i []) := H.ok _ (getD_mem h)
theorem act_in (H : Hs N n hs) {l p : Int} (hl : Let n l) (h0 : 0 ≤ p) (h1 : p < N) : 0 ≤ act hs l p ∧ act hs l p < N := by
  obtain ⟨a, b, c⟩ := hl
  have z := H.len
  unfold act
  split
  · have o := H.ord (i := (l - 1).toNat) (by omega)
    exact o.2.1 _ (getD_mem (by rw [o.1]; omega))
  · have o := H.ord (i := (-l - 1).toNat) (by omega)
    have := List.idxOf_lt_length_iff.mpr (o.full h0 h1)
    rw [o.1] at this
    omega
theorem idx_get {o : List Int} (ho : o.Nodup) {i : Nat} (h : i < o.length) : o.idxOf (o.getD i 0) = i := by
  have h3 : o.getD i 0 = o[i] := by rw [List.getD_eq_getElem?_getD, List.getElem?_eq_getElem h] <;> rfl
  rw [h3]
  exact ho.idxOf_getElem i h
theorem get_idx {o : List Int} {p : Int} (h : p ∈ o) : o.getD (o.idxOf p) 0 = p := by
  have h1 := List.idxOf_lt_length_iff.mpr h
  rw [List.getD_eq_getElem?_getD, List.getElem?_eq_getElem h1]
  exact List.getElem_idxOf h1
theorem act_back (H : Hs N n hs) {l p : Int} (hl : Let n l) (h0 : 0 ≤ p) (h1 : p < N) : act hs (-l) (act hs l p) = p := by
  obtain ⟨a, b, c⟩ := hl
  have z := H.len
  by_cases hp : 0 < l
  · have o := H.ord (i := (l - 1).toNat) (by omega)
    unfold act
    rw [if_pos hp, if_neg (by omega), show (- -l - 1).toNat = (l - 1).toNat by omega, idx_get o.2.2 (by rw [o.1]; omega)]
    omega
  · have o := H.ord (i := (-l - 1).toNat) (by omega)
    unfold act
    rw [if_neg hp, if_pos (by omega), Int.toNat_natCast, get_idx (o.full h0 h1)]
theorem walk_app (xs ys : List Int) (p : Int) : walk hs (xs ++ ys) p = walk hs ys (walk hs xs p) := by
  unfold walk
  rw [List.foldl_append]
theorem walk_in (H : Hs N n hs) : ∀ {row : List Int} {p : Int}, (∀ l ∈ row, Let n l) → 0 ≤ p → p < N → 0 ≤ walk hs row p ∧ walk hs row p < N
  | [], _, _, h0, h1 => ⟨h0, h1⟩
  | l :: r, p, hl, h0, h1 => by
    have q := act_in H (hl l (by simp)) h0 h1
    exact walk_in H (row := r) (fun x hx => hl x (by simp [hx])) q.1 q.2
theorem walk_stack (H : Hs N n hs) : ∀ {xs st : List Int} {p : Int}, (∀ l ∈ xs, Let n l) → (∀ l ∈ st, Let n l) → 0 ≤ p → p < N → walk hs (stack st xs).reverse p = walk hs (st.reverse ++ xs) p
  | [], st, p, _, _, _, _ => by simp [stack]
  | x :: xs, st, p, hx, hst, h0, h1 => by
    have hx0 := hx x (by simp)
    have e : stack st (x :: xs) = stack (push st x) xs := rfl
    rw [e, walk_stack H (fun l hl => hx l (by simp [hl])) (fun l hl => (push_mem hl).elim (hst l) fun z => z ▸ hx0) h0 h1, walk_app, walk_app]
    show _ = walk hs xs (act hs x (walk hs st.reverse p))
    congr 1
    cases st with
    | nil => rfl
    | cons y r =>
      by_cases e2 : y = -x
      · rw [push_c r e2, List.reverse_cons, walk_app]
        have hw := walk_in H (row := r.reverse) (fun l hl => hst l (by simp [List.mem_reverse.mp hl])) h0 h1
        show _ = act hs x (act hs y (walk hs r.reverse p))
        rw [show x = -y by omega, act_back H (hst y (by simp)) hw.1 hw.2]
      · rw [push_n r e2, List.reverse_cons, walk_app]
        rfl
/-- the plain row leads as the row does -/
theorem walk_red (H : Hs N n hs) {xs : List Int} {p : Int} (hx : ∀ l ∈ xs, Let n l) (h0 : 0 ≤ p) (h1 : p < N) : walk hs (red xs) p = walk hs xs p := walk_stack H (st := []) hx (fun _ h => nomatch h) h0 h1
theorem walk_inv (H : Hs N n hs) : ∀ {xs : List Int} {p : Int}, (∀ l ∈ xs, Let n l) → 0 ≤ p → p < N → walk hs (inv xs) (walk hs xs p) = p
  | [], _, _, _, _ => rfl
  | x :: xs, p, hx, h0, h1 => by
    have q := act_in H (hx x (by simp)) h0 h1
    have e : inv (x :: xs) = inv xs ++ [-x] := by simp [inv]
    rw [e, walk_app]
    show act hs (-x) (walk hs (inv xs) (walk hs xs (act hs x p))) = p
    rw [walk_inv H (fun l hl => hx l (by simp [hl])) q.1 q.2, act_back H (hx x (by simp)) h0 h1]
/-- which steps are written: of the letters up to a all, of the next one those of the places below b -/
def Dn (a b l p : Int) : Prop := l ≤ a ∨ (l = a + 1 ∧ p < b)
instance (a b l p : Int) : Decidable (Dn a b l p) := by unfold Dn; exact inferInstance
def F (hs : List (List Int)) (a b p l : Int) : Option Int :=
  if 0 < l then (if Dn a b l p then some (act hs l p) else none) else if l < 0 then (if Dn a b (-l) (act hs l p) then some (act hs l p) else none) else none
theorem F_pos {a b p l : Int} (h : 0 < l) : F hs a b p l = if Dn a b l p then some (act hs l p) else none := by
  unfold F
  rw [if_pos h]
theorem F_neg {a b p l : Int} (h : l < 0) : F hs a b p l = if Dn a b (-l) (act hs l p) then some (act hs l p) else none := by
  unfold F
  rw [if_neg (by omega), if_pos h]
theorem F_zero {a b p : Int} : F hs a b p 0 = none := by
  unfold F
  rw [if_neg (by omega), if_neg (by omega)]
theorem act_nn {l p : Int} (h : l < 0) : 0 ≤ act hs l p := by
  unfold act
  rw [if_neg (by omega)]
  omega
theorem F_start {p l : Int} (h0 : 0 ≤ p) : F hs 0 0 p l = none := by
  rcases Int.lt_trichotomy l 0 with h | h | h
  · have := act_nn (hs := hs) (p := p) h
    rw [F_neg h, if_neg]
    unfold Dn; omega
  · rw [h, F_zero]
  · rw [F_pos h, if_neg]
    unfold Dn; omega
theorem if_iff {P Q : Prop} [Decidable P] [Decidable Q] {α : Type} {x y : α} (h : P ↔ Q) : (if P then x else y) = if Q then x else y := by
  by_cases e : P
  · rw [if_pos e, if_pos (h.mp e)]
  · rw [if_neg e, if_neg (fun z => e (h.mpr z))]
theorem F_step (H : Hs N n hs) {a b p l : Int} (ha : 0 ≤ a) (han : a < n) (hb : 0 ≤ b) (hbN : b < N) (h0 : 0 ≤ p) (h1 : p < N) :
    (if p = act hs (a + 1) b ∧ l = -(a + 1) then some b else if p = b ∧ l = a + 1 then some (act hs (a + 1) b) else F hs a b p l) = F hs a (b + 1) p l := by
  by_cases e1 : l = a + 1
  · subst e1
    rw [if_neg (by omega), F_pos (by omega), F_pos (by omega)]
    by_cases e2 : p = b
    · subst e2
      rw [if_pos ⟨rfl, rfl⟩, if_pos (show Dn a (p + 1) (a + 1) p by unfold Dn; omega)]
    · rw [if_neg (fun z => e2 z.1)]
      exact if_iff (by unfold Dn; omega)
  · by_cases e2 : l = -(a + 1)
    · subst e2
      have L : Let n (a + 1) := ⟨by omega, by omega, by omega⟩
      have L2 : Let n (-(a + 1)) := ⟨by omega, by omega, by omega⟩
      have q := act_in H L2 h0 h1
      rw [F_neg (by omega), F_neg (by omega)]
      by_cases e3 : p = act hs (a + 1) b
      · rw [if_pos ⟨e3, rfl⟩]
        have back := act_back H L hb hbN
        rw [← e3] at back
        rw [back, if_pos (show Dn a (b + 1) (- -(a + 1)) b by unfold Dn; omega)]
      · rw [if_neg (fun z => e3 z.1), if_neg (fun z => e1 z.2)]
        have ne : act hs (-(a + 1)) p ≠ b := fun z => e3 (by
          have := act_back H L2 h0 h1
          rw [z, show - -(a + 1) = a + 1 by omega] at this
          exact this.symm)
        exact if_iff (by unfold Dn; omega)
    · rw [if_neg (fun z => e2 z.2), if_neg (fun z => e1 z.2)]
      have same : ∀ m q : Int, m ≠ a + 1 → (Dn a b m q ↔ Dn a (b + 1) m q) := fun m q hm => by unfold Dn; omega
      rcases Int.lt_trichotomy l 0 with h | h | h
      · rw [F_neg h, F_neg h]
        exact if_iff (same _ _ (by omega))
      · rw [h, F_zero, F_zero]
      · rw [F_pos h, F_pos h]
        exact if_iff (same _ _ e1)
theorem F_next (H : Hs N n hs) {a p l : Int} (ha : 0 ≤ a) (han : a < n) (h0 : 0 ≤ p) (h1 : p < N) : F hs a N p l = F hs (a + 1) 0 p l := by
  rcases Int.lt_trichotomy l 0 with h | h | h
  · have := act_nn (hs := hs) (p := p) h
    rw [F_neg h, F_neg h]
    by_cases e : -l ≤ a + 1
    · have q := act_in H (l := l) (p := p) ⟨by omega, by omega, by omega⟩ h0 h1
      exact if_iff (by unfold Dn; omega)
    · exact if_iff (by unfold Dn; omega)
  · rw [h, F_zero, F_zero]
  · rw [F_pos h, F_pos h]
    exact if_iff (by unfold Dn; omega)
theorem F_end {p l : Int} (hl : Let n l) : F hs n 0 p l = some (act hs l p) := by
  obtain ⟨a, b, c⟩ := hl
  by_cases h : 0 < l
  · rw [F_pos h, if_pos (show Dn n 0 l p by unfold Dn; omega)]
  · rw [F_neg (by omega), if_pos (show Dn n 0 (-l) (act hs l p) by unfold Dn; omega)]
end
end XH

set_option linter.all false
set_option maxRecDepth 100000
set_option maxHeartbeats 4000000
/-! XV: values two levels deep, steps as a list of dicts, a few readings. -/
namespace XV
open PySem PySem.Spec PyProof.Rows L2 XA XB XC XD XE XF XG XQ
/-! ### a tuple or list of things -/
inductive Dat2 where
  | one (d : Dat)
  | tups (ds : List Dat)
  | lsts (ds : List Dat)
def Rp2 (K : PySem.W.Frag) (H : Hp) (v : V) : Dat2 → Prop
  | .one d => Rp K H v d
  | .tups ds => ∃ a vs, v = .ref a ∧ SqT K H a vs ∧ Paired (Rp K H) vs ds
  | .lsts ds => ∃ a vs, v = .ref a ∧ SqL K H a vs ∧ Paired (Rp K H) vs ds
section
variable {K : PySem.W.Frag} {H H' : Hp} {v : V} {d : Dat2} {ds : List Dat} {vs : List V}
theorem prs_same (h : Paired (Rp K H) vs ds) (e : Same H H') : Paired (Rp K H') vs ds := L2.Paired.mapP h fun _ _ q => q.same e
theorem Rp2.same (h : Rp2 K H v d) (e : Same H H') : Rp2 K H' v d := by
  cases d with
  | one d => exact Rp.same h e
  | tups ds => obtain ⟨a, vs, q, r, z⟩ := h; exact ⟨a, vs, q, sqT_same e r, prs_same z e⟩
  | lsts ds => obtain ⟨a, vs, q, r, z⟩ := h; exact ⟨a, vs, q, e.seq r, prs_same z e⟩
def Dat2.ty : Dat2 → String
  | .one d => d.ty
  | .tups _ => "tuple"
  | .lsts _ => "list"
theorem tyx_T {a : Addr} {xs : List V} (h : SqT K H a xs) : TyX K H (.ref a) (.type "tuple") := by
  rcases h with (q | ⟨o, q⟩) | q
  · exact .base (.tup q)
  · exact .fTuple q
  · obtain ⟨o, its, n, e, c, _⟩ := q
    exact .kTuple e c
theorem tyx_L {a : Addr} {xs : List V} (h : SqL K H a xs) : TyX K H (.ref a) (.type "list") := by
  rcases h with (q | ⟨o, q⟩) | q
  · exact .base (.lst q)
  · exact .base (.frz q)
  · obtain ⟨o, its, n, e, c, _⟩ := q
    exact .kList e c
theorem Rp2.ty (h : Rp2 K H v d) : TyX K H v (.type d.ty) := by
  cases d with
  | one d => exact Rp.ty h
  | tups ds => obtain ⟨a, vs, rfl, q, _⟩ := h; exact tyx_T q
  | lsts ds => obtain ⟨a, vs, rfl, q, _⟩ := h; exact tyx_L q
/-- isinstance(v, T) -/
theorem rd_isT2 {T : String} {b : Bool} {Q : VK} (h : Rp2 K H v d) (e : kitB d.ty T = some b) (q : Q (.bl b) H) : rIsU K [v, .ty T] H Q :=
  .inl ⟨v, .ty T, .type d.ty, .type T, b, rfl, .ty T, h.ty, kit_ty e, q⟩
def Dat2.isT : Dat2 → Bool
  | .one d => d.isT
  | .tups _ => true
  | .lsts _ => false
def Dat.isL : Dat → Bool
  | .lst _ => true
  | _ => false
def Dat2.isL : Dat2 → Bool
  | .one d => Dat.isL d
  | .tups _ => false
  | .lsts _ => true
theorem kit_list (d : Dat) : kitB d.ty "list" = some (Dat.isL d) := by
  cases d with
  | flat v => cases v <;> (simp only [Dat.ty, Dat.isL]; decide +kernel)
  | tup xs => simp only [Dat.ty, Dat.isL]; decide +kernel
  | lst xs => simp only [Dat.ty, Dat.isL]; decide +kernel
  | dct => simp only [Dat.ty, Dat.isL]; decide +kernel
theorem kit_tuple2 (d : Dat2) : kitB d.ty "tuple" = some d.isT := by
  cases d with
  | one d => exact kit_tuple d
  | tups ds => simp only [Dat2.ty, Dat2.isT]; decide +kernel
  | lsts ds => simp only [Dat2.ty, Dat2.isT]; decide +kernel
theorem kit_list2 (d : Dat2) : kitB d.ty "list" = some d.isL := by
  cases d with
  | one d => exact kit_list d
  | tups ds => simp only [Dat2.ty, Dat2.isL]; decide +kernel
  | lsts ds => simp only [Dat2.ty, Dat2.isL]; decide +kernel
/-- isinstance(v, (list, tuple)) -/
theorem rd_isLT {Q : VK} (h : Rp2 K H v d) (q : ∀ p, H p = none → Q (.bl (d.isL || d.isT)) (upd H p (.tup [.ty "list", .ty "tuple"]))) :
    ∀ p, H p = none → rIsV K [v, .ref p] (upd H p (.tup [.ty "list", .ty "tuple"])) Q := fun p hp =>
  .inr ⟨v, p, [.ty "list", .ty "tuple"], .type d.ty, [.type "list", .type "tuple"], _, rfl, upd_same, .cons (.ty _) (.cons (.ty _) .nil), (h.same (same_new hp)).ty, kit_seq (kit_list2 d) (kit_tuple2 d), q p hp⟩
/-- tuples of whole numbers, their addresses -/
def Tups (K : PySem.W.Frag) (H : Hp) (ps : List Addr) (xss : List (List Int)) : Prop := Paired (fun p xs => SqT K H p (xs.map V.int)) ps xss
theorem Tups.same {ps : List Addr} {xss : List (List Int)} (h : Tups K H ps xss) (e : Same H H') : Tups K H' ps xss := L2.Paired.mapP h fun _ _ q => sqT_same e q
theorem tups_of : ∀ {vs : List V} {xss : List (List Int)}, Paired (Rp K H) vs (xss.map fun xs => Dat.tup (xs.map V.int)) → ∃ ps : List Addr, vs = ps.map V.ref ∧ Tups K H ps xss
  | [], [], _ => ⟨[], rfl, .nil⟩
  | v :: vs, xs :: xss, .cons ⟨a, e, q, _⟩ h => by
    obtain ⟨ps, e2, t⟩ := tups_of (vs := vs) (xss := xss) h
    exact ⟨a :: ps, by rw [e, e2]; rfl, .cons q t⟩
theorem of_tups : ∀ {ps : List Addr} {xss : List (List Int)}, Tups K H ps xss → (∀ xs ∈ xss, xs.length ≤ 20000) → Paired (Rp K H) (ps.map V.ref) (xss.map fun xs => Dat.tup (xs.map V.int))
  | [], [], _, _ => .nil
  | p :: ps, xs :: xss, .cons q h, l => .cons ⟨p, rfl, q, okI (l xs (by simp))⟩ (of_tups h fun z hz => l z (List.mem_cons_of_mem _ hz))
theorem Tups.len {ps : List Addr} {xss : List (List Int)} (h : Tups K H ps xss) : ps.length = xss.length := Paired.length h
theorem Tups.at {ps : List Addr} {xss : List (List Int)} (h : Tups K H ps xss) {i : Nat} {v : V} (e : (ps.map V.ref)[i]? = some v) : ∃ p xs, v = .ref p ∧ ps[i]? = some p ∧ xss[i]? = some xs ∧ SqT K H p (xs.map V.int) := by
  rw [List.getElem?_map] at e
  cases ep : ps[i]? with
  | none => rw [ep] at e; cases e
  | some p =>
    rw [ep] at e
    have key : ∀ {ps : List Addr} {xss : List (List Int)}, Tups K H ps xss → ∀ {i : Nat} {p : Addr}, ps[i]? = some p → ∃ xs, xss[i]? = some xs ∧ SqT K H p (xs.map V.int) := by
      intro ps xss h
      induction h with
      | nil => intro i p e; simp at e
      | cons a _ ih =>
        intro i p e
        cases i with
        | zero => simp at e; subst e; exact ⟨_, rfl, a⟩
        | succ i => simp at e; simpa using ih e
    obtain ⟨xs, e2, q⟩ := key h ep
    exact ⟨p, xs, (Option.some.inj e).symm, rfl, e2, q⟩
end
section
variable {K : PySem.W.Frag} {H H' : Hp} {ps : List Addr} {xss : List (List Int)}
/-- .. that were made by tuple() -/
def TupsP (H : Hp) (ps : List Addr) (xss : List (List Int)) : Prop := Paired (fun p xs => Tp H p (xs.map V.int)) ps xss
theorem TupsP.same (h : TupsP H ps xss) (e : Same H H') : TupsP H' ps xss := L2.Paired.mapP h fun _ _ q => q.same e
theorem TupsP.tups (h : TupsP H ps xss) : Tups K H ps xss := L2.Paired.mapP h fun _ _ q => q.sqT
theorem TupsP.at : ∀ {ps : List Addr} {xss : List (List Int)}, TupsP H ps xss → ∀ {i : Nat}, i < xss.length → ∃ p, ps[i]? = some p ∧ Tp H p ((xss.getD i []).map V.int)
  | [], [], _, i, h => absurd h (by simp)
  | p :: ps, xs :: xss, .cons a b, 0, _ => ⟨p, rfl, a⟩
  | p :: ps, xs :: xss, .cons a b, i + 1, h => by
    obtain ⟨q, e, t⟩ := TupsP.at b (i := i) (by simpa using h)
    exact ⟨q, by simpa using e, by simpa using t⟩
end
/-! ### values that hang not on the great numbers of the draws -/
def Rp2g (K : PySem.W.Frag) (g : Addr) (H : Hp) (v : V) : Dat2 → Prop
  | .one d => Rp K H v d ∧ v ≠ .ref g
  | .tups ds => v ≠ .ref g ∧ ∃ a vs, v = .ref a ∧ SqT K H a vs ∧ Paired (Rp K H) vs ds ∧ ∀ x ∈ vs, x ≠ .ref g
  | .lsts ds => v ≠ .ref g ∧ ∃ a vs, v = .ref a ∧ SqL K H a vs ∧ Paired (Rp K H) vs ds ∧ ∀ x ∈ vs, x ≠ .ref g
section
variable {K : PySem.W.Frag} {H H' : Hp} {s g c : Addr} {m : Nat} {v : V} {d : Dat2}
theorem Rp2g.ne (h : Rp2g K g H v d) : v ≠ .ref g := by
  cases d with
  | one d => exact h.2
  | tups ds => exact h.1
  | lsts ds => exact h.1
theorem Rp2g.rp (h : Rp2g K g H v d) : Rp2 K H v d := by
  cases d with
  | one d => exact h.1
  | tups ds => obtain ⟨_, a, vs, e, q, z, _⟩ := h; exact ⟨a, vs, e, q, z⟩
  | lsts ds => obtain ⟨_, a, vs, e, q, z, _⟩ := h; exact ⟨a, vs, e, q, z⟩
theorem Rp2g.same (h : Rp2g K g H v d) (e : Same H H') : Rp2g K g H' v d := by
  cases d with
  | one d => exact ⟨h.1.same e, h.2⟩
  | tups ds => obtain ⟨n, a, vs, q, r, z, w⟩ := h; exact ⟨n, a, vs, q, sqT_same e r, prs_same z e, w⟩
  | lsts ds => obtain ⟨n, a, vs, q, r, z, w⟩ := h; exact ⟨n, a, vs, q, e.seq r, prs_same z e, w⟩
theorem prs_kept (k : XE.Kept s g H H') (S : StAt m H s g c) : ∀ {vs : List V} {ds : List Dat}, Paired (Rp K H) vs ds → (∀ x ∈ vs, x ≠ .ref g) → Paired (Rp K H') vs ds
  | [], [], _, _ => .nil
  | v :: vs, d :: ds, .cons a b, h => .cons (k.rp S a (h v (by simp))) (prs_kept k S b fun x hx => h x (by simp [hx]))
theorem Rp2g.kept (k : XE.Kept s g H H') (S : StAt m H s g c) (h : Rp2g K g H v d) : Rp2g K g H' v d := by
  cases d with
  | one d => exact ⟨k.rp S h.1 h.2, h.2⟩
  | tups ds => obtain ⟨n, a, vs, q, r, z, w⟩ := h; exact ⟨n, a, vs, q, k.sqT S r, prs_kept k S z w, w⟩
  | lsts ds => obtain ⟨n, a, vs, q, r, z, w⟩ := h; exact ⟨n, a, vs, q, k.sqL S r (fun e => n (by rw [q, e])), prs_kept k S z w, w⟩
theorem prs_ext (e : LamX.ExtN H H') : ∀ {vs : List V} {ds : List Dat}, Paired (Rp K H) vs ds → Paired (Rp K H') vs ds := fun h => L2.Paired.mapP h fun _ _ q => ext_rp e q
theorem ext_rp2 (e : LamX.ExtN H H') (h : Rp2 K H v d) : Rp2 K H' v d := by
  cases d with
  | one d => exact ext_rp e h
  | tups ds => obtain ⟨a, vs, q, r, z⟩ := h; exact ⟨a, vs, q, ext_sqT e r, prs_ext e z⟩
  | lsts ds => obtain ⟨a, vs, q, r, z⟩ := h; exact ⟨a, vs, q, ext_sqL e r, prs_ext e z⟩
end
/-! ### lists of rows compared -/
def dR (rs : List (List Int)) : List PyData := rs.map fun r => PyData.tuple (dI r)
section
variable {K : PySem.W.Frag} {H : Hp} {a b : Addr} {ps qs : List Addr} {rs : List (List Int)} {Q : VK}
theorem dp_rows : ∀ {ps : List Addr} {rs : List (List Int)}, Tups K H ps rs → DpAll K H (ps.map V.ref) (dR rs)
  | [], [], _ => .nil
  | p :: ps, r :: rs, .cons x t => .cons (dpT x) (dp_rows t)
theorem can_rows : ∀ rs : List (List Int), PyData.canLayAll0 (dR rs) = true
  | [] => by simp [dR, PyData.canLayAll0]
  | r :: rs => by
    have h := can_rows rs
    have h2 := can_dI r
    simp only [dR, List.map_cons, PyData.canLayAll0, PyData.canLay0] at h ⊢
    rw [h2, h] <;> rfl
theorem dep_rows : ∀ rs : List (List Int), PyData.depthAll (dR rs) ≤ 3
  | [] => by simp [dR, PyData.depthAll]
  | r :: rs => by
    have h := dep_rows rs
    have h2 := dep_dI r
    simp only [dR, List.map_cons, PyData.depthAll, PyData.depth] at h ⊢
    omega
theorem sh_rows (rs : List (List Int)) : SeqAt.shaped (.list (dR rs)) = true := by
  have h := dep_rows rs
  have e : PyData.depth (.list (dR rs)) ≤ 64 := by
    rw [PyData.depth]
    omega
  have e2 : PyData.canLay0 (.list (dR rs)) = true := by
    rw [PyData.canLay0]
    exact can_rows rs
  unfold SeqAt.shaped
  rw [e2, decide_eq_true e] <;> rfl
/-- two lists of the same rows -/
theorem neRows (h1 : SqL K H a (ps.map V.ref)) (t1 : Tups K H ps rs) (h2 : SqL K H b (qs.map V.ref)) (t2 : Tups K H qs rs) (q : Q (.bl false) H) : rNeU K (.ref a) (.ref b) H Q :=
  .inr ⟨_, _, .lst h1 (dp_rows t1), .lst h2 (dp_rows t2), sh_rows rs, sh_rows rs, by
    rw [SeqAt.eqv_refl _ (by rw [PyData.canLay0]; exact can_rows rs)]
    exact q⟩
end
/-! ### readings -/
section
variable {K : PySem.W.Frag} {σ : L2.St} {H : Hp} {Q : VK} {ta tb : TE}
theorem rd_din (h : ta σ H fun y H1 => tb σ H1 fun x H2 => ∃ a o, x = .ref a ∧ DGet H2 a y o ∧ Q (.bl o.isSome) H2) : tDIn ta tb σ H Q := h
theorem rd_dnin (h : ta σ H fun y H1 => tb σ H1 fun x H2 => ∃ a o, x = .ref a ∧ DGet H2 a y o ∧ Q (.bl (!o.isSome)) H2) : tDNotIn ta tb σ H Q := h
theorem rd_dnew (h : ∀ p, H p = none → Q (.ref p) (upd H p (.dK []))) : tDNewK σ H Q := h
theorem rd_lset (h : ta σ H fun x H1 => ∃ (l : Addr) (ns : List Int), x = .ref l ∧ SqT K H1 l (ns.map V.int) ∧ ns.length ≤ 4000 ∧ ∀ L : List Int, L.Nodup → (∀ z, z ∈ L ↔ z ∈ ns) → Q (.int (L.length : Nat)) H1) : tLenSetT K ta σ H Q := h
theorem rd_enT {t : TA} {R : It → Hp → Prop} (h : t σ H fun vs H1 => ∃ a xs, vs = [.ref a] ∧ SqT K H1 a xs ∧ R (IteT K a) H1) : iEnumT K t σ H R := h
theorem rd_idx (h : ta σ H fun x H1 => ∃ (p : Addr) (ns : List Int), x = .ref p ∧ Tp H1 p (ns.map V.int) ∧ tCons tb tNil σ H1 fun vs H2 => ∃ k j, vs = [V.int k] ∧ Tp H2 p (ns.map V.int) ∧ ns[j]? = some k ∧ (∀ m : Nat, m < j → ns[m]? ≠ some k) ∧ Q (.int (j : Nat)) H2) : tIdx ta tb σ H Q := h
theorem rd_rg1 {Q : Int → Int → Hp → Prop} (h : ta σ H fun x H1 => ∃ j, x = .int j ∧ Q 0 j H1) : tRg1 ta σ H Q := h
theorem rd_tupRg {t : L2.St → Hp → (Int → Int → Hp → Prop) → Prop} (h : t σ H fun a b H1 => RgOk a b ∧ ∀ q, H1 q = none → Q (.ref q) (upd H1 q (.tup (rgV a b)))) : tTupRg t σ H Q := h
theorem rd_branch {b : Bool} (C : V → Hp → Prop) (key : ∀ x H, C x H → Q x H) (h : (∀ x H, C x H → Q x H) → if b = true then ta σ H Q else tb σ H Q) : if b = true then ta σ H Q else tb σ H Q := h key
theorem rd_ifE {c : TT} (h : c σ H fun b H1 => if b = true then ta σ H1 Q else tb σ H1 Q) : tIf c ta tb σ H Q := h
end
section
variable {K : PySem.W.Frag} {σ : L2.St} {H : Hp}
/-- a walk over a tuple or a list -/
theorem overU {i : Nat} {a : Addr} {vs : List V} {R : It → Hp → Prop} (hv : σ[i]? = some (some (.ref a))) (h : SqT K H a vs ∨ SqL K H a vs)
    (q : ∀ (J : It) (G : Hp → Prop), L2.Walk J vs.length G (fun i H x H' => H' = H ∧ vs[i]? = some x) → (∀ H', Same H H' → G H') → R J H) : iU K (tVar i) σ H R := by
  rcases h with h | h
  · exact .inr ⟨.ref a, hv, a, rfl, ⟨vs, h⟩, q _ _ walk_tup fun H' e => sqT_same e h⟩
  · exact .inl ⟨.ref a, hv, a, rfl, ⟨vs, h⟩, q _ _ walk_list fun H' e => e.seq h⟩
theorem lenU {p : Addr} {xs : List V} {R : Nat → Prop} (h : SqT K H p xs ∨ SqL K H p xs) (q : R xs.length) : ∃ x n, [V.ref p] = [x] ∧ LenV K x H n ∧ R n := by
  rcases h with h | h
  · exact lenT h q
  · exact lenL h q
end
/-- raise C(e): e is read -/
theorem ps_raiseR {X : Cx} {W : WX} {C : Addr} {x : Str} {e : Expr} {ta : TE} {p pos pos2 : Pos} (T : Xc X.K X.mg x C) (hg : Gl X x) (he : PE X e ta) (tk : Takes X W) (hc : X.calm = true := by rfl)
    (hs : starEach [e] X.env = (false, eval e X.env) :: starEach [] X.env := by rfl) (hdb : (x == ("__debug__" : Str)) = false := by decide) :
    PS X (.Raise (some (.Call (.Name x p) [e] [] pos)) none pos2) (fun _ σ H => ta σ H fun _ H1 => W (.ref C) none σ H1) :=
  ⟨fun pins s σ H D I h => (ps_raise hc tk (pmkx T hg he hs hdb)).run pins s σ H D I h⟩
/-! ### lists and tuples, so many times -/
def rMulV (K : PySem.W.Frag) : R2 := fun x y H Q => rMulU K x y H Q ∨ rRep x y H Q
theorem op_mulV {X : Cx} : OpR X (binaryOp .Mult) (rMulV X.K) := opr_or op_mulU op_rep
/-- a tuple that is known to the heap -/
def Tk (H : Hp) (p : Addr) (xs : List V) : Prop := H p = some (.tup xs) ∨ ∃ o, H p = some (.frz o (.tup xs))
section
variable {K : PySem.W.Frag} {H H' : Hp} {p : Addr} {xs : List V}
theorem Tk.sqT (h : Tk H p xs) : SqT K H p xs := .inl h
theorem Tk.same (h : Tk H p xs) (e : Same H H') : Tk H' p xs := h.elim (fun q => .inl (e _ _ q)) fun ⟨o, q⟩ => .inr ⟨o, e _ _ q⟩
theorem Tk.upd {D : Addr} {acc : List V} {o : HO} (h : Tk H p xs) (e : H D = some (.lst acc)) : Tk (upd H D o) p xs := h.elim
  (fun q => .inl (by rw [upd_ne (ne_of q e (by intro z; cases z))]; exact q)) fun ⟨u, q⟩ => .inr ⟨u, by rw [upd_ne (ne_of q e (by intro z; cases z))]; exact q⟩
theorem Tk.ne_g {s g c : Addr} {n : Nat} (h : Tk H p xs) (S : StAt n H s g c) : p ≠ g := h.elim (fun q => S.ne_g q (by intro _ z; cases z)) fun ⟨o, q⟩ => S.ne_g q (by intro _ z; cases z)
theorem Tk.kept {s g c : Addr} {n : Nat} (k : XE.Kept s g H H') (S : StAt n H s g c) (h : Tk H p xs) : Tk H' p xs := h.elim
  (fun q => .inl (k _ _ q (S.ne_s q (by intro _ z; cases z)) (S.ne_g q (by intro _ z; cases z)))) fun ⟨o, q⟩ => .inr ⟨o, k _ _ q (S.ne_s q (by intro _ z; cases z)) (S.ne_g q (by intro _ z; cases z))⟩
theorem Tk.ext (e : LamX.ExtN H H') (h : Tk H p xs) : Tk H' p xs := h.elim (fun q => .inl (e _ _ q (by intro _ z; cases z))) fun ⟨o, q⟩ => .inr ⟨o, e _ _ q (by intro _ z; cases z)⟩
/-- one thing, so many times: a tuple -/
theorem repOne {Q : VK} {v : V} {k : Int} (h : Tk H p [v]) (h1 : -1000 ≤ k) (h2 : k ≤ 1000) (q : ∀ p' H', Same H H' → Tk H' p' (List.replicate k.toNat v) → Q (.ref p') H') : rMulU K (.ref p) (.int k) H Q := by
  refine .inr ⟨p, k, [v], rfl, rfl, h.sqT, h1, h2, by simp, fun e => ?_, fun e p' o hp ho hd => q p' _ (same_new hp) (.inr ⟨o, by rw [List.flatten_replicate_singleton]; exact upd_same⟩)⟩
  rcases e with e | e
  · cases e
  · subst e
    exact q p H (Same.refl _) h
/-- tuple + tuple -/
theorem catTk {Q : VK} {a b : Addr} {xs ys : List V} (h1 : Tk H a xs) (h2 : Tk H b ys) (hz : xs.length + ys.length ≤ 100000) (q : ∀ p H', Same H H' → Tk H' p (xs ++ ys) → Q (.ref p) H') : rAddU K (.ref a) (.ref b) H Q :=
  .inr (.inl ⟨a, b, xs, ys, rfl, rfl, h1.sqT, h2.sqT, lz hz, fun e => q b H (Same.refl _) (by rw [e]; exact h2), fun _ e => q a H (Same.refl _) (by rw [e, List.append_nil]; exact h1), fun _ _ p hp => q p _ (same_new hp) (.inl upd_same)⟩)
/-- .. a list -/
theorem repOneL {Q : VK} {v : V} {k : Int} (h : H p = some (.lst [v])) (h1 : -1000 ≤ k) (h2 : k ≤ 1000) (q : ∀ p', H p' = none → Q (.ref p') (upd H p' (.lst (List.replicate k.toNat v)))) : rMulV K (.ref p) (.int k) H Q := by
  refine .inr ⟨p, k, [v], rfl, rfl, h, by omega, by omega, lz (by simp; omega), fun p' hp => ?_⟩
  rw [List.flatten_replicate_singleton]
  exact q p' hp
theorem prs_rep {v : V} {d : Dat} (h : Rp K H v d) : ∀ k : Nat, Paired (Rp K H) (List.replicate k v) (List.replicate k d)
  | 0 => .nil
  | k + 1 => .cons h (prs_rep h k)
end
/-! ### a comprehension whose items are made one by one -/
theorem lc_rel {J : It} {n : Nat} {G : Hp → Prop} {Y : Nat → Hp → V → Hp → Prop} (w : L2.Walk J n G Y) {g : TG} {tt : TT} {te : TE} {vs : List Nat} {σ : L2.St} {H1 : Hp} {D : Addr} {Qd : Hp → Prop} (hD : H1 D = none) (hz : n < 100000)
    (Φ : Nat → V → Hp → Prop) (hΦ : ∀ i y H H', Same H H' → Φ i y H → Φ i y H') (hu : ∀ i y H acc o, H D = some (.lst acc) → Φ i y H → Φ i y (upd H D (.lst o)))
    (hG : ∀ H', Same H1 H' → G H')
    (hs : ∀ i x H H', i < n → Same H1 H → Y i H x H' → Same H H' ∧ ∀ (R : V → Hp → Prop) (R0 : Hp → Prop), (∀ y H'', Same H' H'' → Φ i y H'' → R y H'') →
      g x (wipe σ vs) H' fun σ2 H2 => wipe σ2 vs = wipe σ vs ∧ tt σ2 H2 fun b H3 => if b = true then te σ2 H3 R else R0 H3)
    (hd : ∀ H' ys, Same H1 H' → H' D = some (.lst ys) → ys.length = n → (∀ i y, ys[i]? = some y → Φ i y H') → Qd H') :
    ∃ W : Nat → Nat → Hp → Prop, (∃ m, W 0 m (upd H1 D (.lst []))) ∧ ∀ i m H, W i m H →
      (J.stop i H ∧ Qd H) ∨ (J.go i H ∧ ∃ Nx : Hp → Prop, (∀ H', Nx H' → ∃ m', m' < m ∧ W (i + 1) m' H') ∧ ∀ x H', J.yld i H x H' → g x (wipe σ vs) H' fun σ2 H2 => wipe σ2 vs = wipe σ vs ∧ tt σ2 H2 fun b H3 =>
        if b = true then te σ2 H3 fun y H4 => ∃ acc, H4 D = some (.lst acc) ∧ acc.length < sizeLine ∧ Nx (upd H4 D (.lst (acc ++ [y]))) else Nx H3) := by
  refine lc_it w (fun i H => Same H1 H ∧ ∃ ys, H D = some (.lst ys) ∧ ys.length = i ∧ ∀ j y, ys[j]? = some y → Φ j y H) ⟨same_new hD, [], upd_same, rfl, fun j y h => by simp at h⟩ (fun i H _ h => hG H h.1) (fun i x H H' hi h y => ?_) fun H h => ?_
  · obtain ⟨e, ys, eD, hl, hp⟩ := h
    obtain ⟨e2, q⟩ := hs i x H H' hi e y
    refine q _ _ fun y H'' e3 hy => ⟨ys, e3 _ _ (e2 _ _ eD), lzl (by omega), same_mut (e.trans (e2.trans e3)) hD, ys ++ [y], upd_same, by simp [hl], fun j z hj => ?_⟩
    refine hu j z H'' ys _ (e3 _ _ (e2 _ _ eD)) ?_
    by_cases hji : j < ys.length
    · rw [List.getElem?_append_left hji] at hj
      exact hΦ j z H H'' (e2.trans e3) (hp j z hj)
    · have : j = ys.length := by
        have := (List.getElem?_eq_some_iff.mp hj).1
        simp only [List.length_append, List.length_cons, List.length_nil] at this
        omega
      subst this
      rw [List.getElem?_append_right (Nat.le_refl _)] at hj
      simp at hj
      rw [← hj, hl]
      exact hy
  · obtain ⟨e, ys, eD, hl, hp⟩ := h
    exact hd H ys e eD hl hp
/-- truth values, one by one -/
theorem bools_of : ∀ {ys : List V}, (∀ (i : Nat) y, ys[i]? = some y → ∃ b, y = V.bl b) → ∃ bs : List Bool, ys = bs.map V.bl
  | [], _ => ⟨[], rfl⟩
  | y :: r, h => by
    obtain ⟨b, e⟩ := h 0 y rfl
    obtain ⟨bs, e2⟩ := bools_of (ys := r) fun i y hi => h (i + 1) y (by simpa using hi)
    exact ⟨b :: bs, by rw [e, e2] <;> rfl⟩
theorem bools_all {bs : List Bool} {n : Nat} {P : Nat → Prop} (hl : bs.length = n) (h : ∀ i b, bs[i]? = some b → (b = true ↔ P i)) : bs.all id = true ↔ ∀ i, i < n → P i := by
  rw [List.all_eq_true]
  constructor
  · intro a i hi
    have hi2 : i < bs.length := by omega
    exact (h i bs[i] (List.getElem?_eq_getElem hi2)).mp (a _ (List.getElem_mem hi2))
  · intro a b hb
    obtain ⟨i, hi, e⟩ := List.mem_iff_getElem.mp hb
    exact (h i b (by rw [List.getElem?_eq_getElem hi, e])).mpr (a i (by omega))
/-! ### none twice, by counting -/
theorem sub_len {α : Type} [BEq α] [LawfulBEq α] : ∀ {L M : List α}, L.Nodup → (∀ z ∈ L, z ∈ M) → L.length ≤ M.length
  | [], _, _, _ => Nat.zero_le _
  | a :: r, M, hn, hs => by
    obtain ⟨h1, h2⟩ := List.nodup_cons.mp hn
    have hm := hs a (by simp)
    have := sub_len (L := r) (M := M.erase a) h2 fun z hz => (List.mem_erase_of_ne (fun e : z = a => h1 (by rw [← e]; exact hz))).mpr (hs z (by simp [hz]))
    rw [List.length_erase_of_mem hm] at this
    have : 0 < M.length := List.length_pos_of_mem hm
    simp only [List.length_cons]
    omega
theorem not_nodup {α : Type} : ∀ {M : List α}, ¬ M.Nodup → ∃ M' : List α, M'.length + 1 = M.length ∧ ∀ z ∈ M, z ∈ M'
  | [], h => absurd List.nodup_nil h
  | x :: r, h => by
    by_cases hx : x ∈ r
    · exact ⟨r, rfl, fun z hz => (List.mem_cons.mp hz).elim (fun e => e ▸ hx) id⟩
    · have hr : ¬ r.Nodup := fun n => h (List.nodup_cons.mpr ⟨hx, n⟩)
      obtain ⟨M', a, b⟩ := not_nodup hr
      exact ⟨x :: M', by simp [a], fun z hz => (List.mem_cons.mp hz).elim (fun e => by simp [e]) fun e => by simp [b z e]⟩
/-- as many members as places exactly if none stands twice -/
theorem nodup_len {L M : List Int} (hL : L.Nodup) (hm : ∀ z, z ∈ L ↔ z ∈ M) : L.length = M.length ↔ M.Nodup := by
  constructor
  · intro e
    refine Classical.byContradiction fun hn => ?_
    obtain ⟨M', a, b⟩ := not_nodup hn
    have := sub_len (M := M') hL fun z hz => b z ((hm z).mp hz)
    omega
  · intro hM
    have h1 := sub_len (M := M) hL fun z hz => (hm z).mp hz
    have h2 := sub_len (M := L) hM fun z hz => (hm z).mpr hz
    omega
theorem putK_len1 {κ : Type} [DecidableEq κ] (c : List (κ × V)) (k : κ) (x : V) : (putK c k x).length ≤ c.length + 1 := by
  unfold putK
  split
  · simp
  · simp
/-- a number at a text's end -/
theorem num_log {i : Int} (h0 : 0 ≤ i) (h1 : i < 10 ^ 18) : i.natAbs.log2 < 1920 := by
  by_cases e : i.natAbs = 0
  · rw [e]; decide
  · exact Nat.lt_of_lt_of_le (Nat.log2_lt e |>.mpr (show i.natAbs < 2 ^ 64 by omega)) (by decide)
theorem num_len {a : Str} {i : Int} (ha : a.length ≤ 1000) (h0 : 0 ≤ i) (h1 : i < 10 ^ 18) : (Str.empty ++ a ++ (toString i : Str)).length ≤ sizeLine := by
  have h := PyProof.Rows.toString_length_le h0 (k := 18) (by decide) h1
  have e : (Str.empty ++ a ++ (toString i : Str)).length = Str.empty.length + a.length + (Str.ofString (toString i)).length := by
    rw [Str.length_append, Str.length_append]
  rw [e]
  have z : Str.empty.length = 0 := by decide +kernel
  exact lz (by omega)
/-! ### steps: a list of dicts -/
structure StpAt (H : Hp) (S : Addr) (ds : List Addr) (B : Nat) (f : Int → Int → Option Int) : Prop where
  ls : H S = some (.lst (ds.map V.ref))
  nd : ds.Nodup
  dt : ∀ (i : Nat) (d : Addr), ds[i]? = some d → ∃ kvs : List (Key × V), H d = some (.dK kvs) ∧ kvs.length ≤ B ∧ ∀ l : Int, valV kvs (Sum.inl l) = (f i l).map V.int
  cl : ∀ p l q, 0 ≤ p → p < (ds.length : Int) → f p l = some q → 0 ≤ q ∧ q < (ds.length : Int)
/-- all but these is as it was -/
def Off (ds : List Addr) (H H' : Hp) : Prop := ∀ b o, H b = some o → b ∉ ds → H' b = some o
theorem Off.refl {ds : List Addr} {H : Hp} : Off ds H H := fun _ _ h _ => h
theorem Off.trans {ds : List Addr} {H H1 H2 : Hp} (a : Off ds H H1) (b : Off ds H1 H2) : Off ds H H2 := fun c o h n => b c o (a c o h n) n
theorem Off.of {ds : List Addr} {H H' : Hp} (e : Same H H') : Off ds H H' := fun b o h _ => e b o h
/-- of objects that weren't there ahead -/
theorem Off.new {ds : List Addr} {H0 H H' : Hp} (a : Off ds H H') (e : Same H0 H) (n : ∀ d ∈ ds, H0 d = none) : Same H0 H' := fun b o h => a b o (e b o h) fun m => by
  rw [n b m] at h
  cases h
def put1 (f : Int → Int → Option Int) (p l g : Int) : Int → Int → Option Int := fun i m => if i = p ∧ m = l then some g else f i m
section
variable {K : PySem.W.Frag} {H H' : Hp} {S : Addr} {ds : List Addr} {B : Nat} {f : Int → Int → Option Int}
theorem StpAt.same (h : StpAt H S ds B f) (e : Same H H') : StpAt H' S ds B f :=
  ⟨e _ _ h.ls, h.nd, fun i d hd => by obtain ⟨kvs, a, b⟩ := h.dt i d hd; exact ⟨kvs, e _ _ a, b⟩, h.cl⟩
theorem StpAt.mem (h : StpAt H S ds B f) {d : Addr} (hd : d ∈ ds) : ∃ kvs : List (Key × V), H d = some (.dK kvs) := by
  obtain ⟨i, hi, e⟩ := List.mem_iff_getElem.mp hd
  obtain ⟨kvs, a, _⟩ := h.dt i d (by rw [List.getElem?_eq_getElem hi, e])
  exact ⟨kvs, a⟩
theorem StpAt.ls_off (h : StpAt H S ds B f) : S ∉ ds := fun m => by
  obtain ⟨kvs, a⟩ := h.mem m
  rw [h.ls] at a
  cases a
/-- one more step is written -/
theorem StpAt.put (h : StpAt H S ds B f) {i : Nat} {d : Addr} (hd : ds[i]? = some d) {l g : Int} (g0 : 0 ≤ g) (g1 : g < (ds.length : Int)) {kvs : List (Key × V)} (hk : H d = some (.dK kvs)) :
    StpAt (upd H d (.dK (putK kvs (Sum.inl l) (.int g)))) S ds (B + 1) (put1 f i l g) ∧ Off ds H (upd H d (.dK (putK kvs (Sum.inl l) (.int g)))) := by
  have hdm : d ∈ ds := List.mem_of_getElem? hd
  refine ⟨⟨?_, h.nd, fun j e he => ?_, fun p m q p0 p1 hq => ?_⟩, fun b o hb hn => ?_⟩
  · rw [upd_ne (fun z : S = d => h.ls_off (by rw [z]; exact hdm))]
    exact h.ls
  · obtain ⟨kv2, a1, a2, a3⟩ := h.dt j e he
    by_cases ed : e = d
    · subst ed
      have ij : j = i := by
        have hi := (List.getElem?_eq_some_iff.mp hd)
        have hj := (List.getElem?_eq_some_iff.mp he)
        obtain ⟨hi1, hi2⟩ := hi
        obtain ⟨hj1, hj2⟩ := hj
        exact (List.getElem_inj h.nd).mp (hj2.trans hi2.symm)
      subst ij
      obtain rfl : kv2 = kvs := by rw [a1] at hk; exact HO.dK.inj (Option.some.inj hk)
      refine ⟨_, upd_same, Nat.le_trans (putK_len1 _ _ _) (by omega), fun m => ?_⟩
      rw [valV_put, a3]
      unfold put1
      by_cases em : m = l
      · rw [if_pos (by rw [em]), if_pos ⟨rfl, em⟩]; rfl
      · rw [if_neg (fun z => em (Sum.inl.inj z)), if_neg (fun z => em z.2)]
    · refine ⟨kv2, by rw [upd_ne ed]; exact a1, by omega, fun m => ?_⟩
      rw [a3]
      unfold put1
      rw [if_neg (fun z => ed ?_)]
      have e1 : j = i := by have := z.1; omega
      rw [e1, hd] at he
      exact (Option.some.inj he).symm
  · unfold put1 at hq
    split at hq
    · cases hq; exact ⟨g0, g1⟩
    · exact h.cl p m q p0 p1 hq
  · rw [upd_ne (fun z : b = d => hn (by rw [z]; exact hdm))]
    exact hb
theorem StpAt.congr {C : Nat} {g : Int → Int → Option Int} (h : StpAt H S ds B f) (e : ∀ p l, 0 ≤ p → p < (ds.length : Int) → f p l = g p l) (hB : B ≤ C) : StpAt H S ds C g :=
  ⟨h.ls, h.nd, fun i d hd => by
    obtain ⟨kvs, a, b, c⟩ := h.dt i d hd
    have := (List.getElem?_eq_some_iff.mp hd).1
    exact ⟨kvs, a, by omega, fun l => by rw [c l, e _ _ (by omega) (by omega)]⟩, fun p l q p0 p1 hq => h.cl p l q p0 p1 (by rw [e p l p0 p1]; exact hq)⟩
/-- where letters are read to -/
def walkF (f : Int → Int → Option Int) : List Int → Int → Option Int
  | [], p => some p
  | l :: r, p => (f p l).bind (walkF f r)
theorem walkF_snoc (f : Int → Int → Option Int) : ∀ (xs : List Int) (l p : Int), walkF f (xs ++ [l]) p = (walkF f xs p).bind fun q => f q l
  | [], l, p => by
    show (f p l).bind (walkF f []) = f p l
    cases f p l <;> rfl
  | x :: xs, l, p => by
    show (f p x).bind (walkF f (xs ++ [l])) = ((f p x).bind (walkF f xs)).bind fun q => f q l
    cases e : f p x with
    | none => rfl
    | some q => exact walkF_snoc f xs l q
def optI : Option Int → V
  | none => .non
  | some i => .int i
end
end XV

set_option linter.all false
set_option maxRecDepth 100000
set_option maxHeartbeats 4000000
/-! XS: an own error whose __init__ says super().__init__(e, ..) first. -/
namespace XS
open PySem PySem.Spec PyProof.Rows L2 NdefX XA XB XC XD XM XE XF XG
/-- what the written part says of the class, its __class__ cell, its __init__ -/
structure SupC (K : PySem.W.Frag) (C : Addr) : Prop where
  ox : OexC K C
  sub : PySem.W.mroIn K C (.ref C) = some true
  ve : PySem.W.subIn K (.ref C) (.type "ValueError") = some true
  nx : PySem.W.ks_superIn K C C "__init__" = some (some (.builtin "ValueError.__init__"))
  st : PySem.W.nsIn K PySem.cStatics "thirdparty.any" = some none
/-! ### the call -/
section
variable {X : Cx} {pins : List (Addr × Obj)} {σ : L2.St} {H : Hp} {s : Shared} {f cc cda C a : Addr} {body : List Stmt} {oc ccl cl : Value} {od cdd cld : Option Addr} {osl ccs csl : Array (Option Value)} {fd : FuncData} {vs0 : Array Value} {file : Str} {tf : Tok}
  {e : Expr} {es : List Expr} {p0 p1 p2 p3 : Pos} {ar : Arg} {pl : Sem Bool} {m : Str → Option Value} {ta : TA} {R : Hp → Prop}
theorem newNe (I : Inv X pins σ H s) {h' : Heap} {t' : Nat} {o : Obj} (k : ∀ b u, s.heap.get? b = some u → h'.get? b = some u) (ho : h'.get? s.heap.objs.size = some o) (hc : ∀ v, o.data ≠ .cell v) :
    Inv X ((s.heap.objs.size, o) :: pins) σ H { s with heap := h', toks := t' } := by
  have I1 : Inv X pins σ H { s with heap := h', toks := t' } := I.kept (t' := t') k
  have new : ∀ {b : Addr} {u : Obj}, s.heap.get? b = some u → b ≠ s.heap.objs.size := fun {b u} q => Nat.ne_of_lt (Heap.lt_size q)
  refine I1.pins_of fun p hp => ?_
  rcases List.mem_cons.mp hp with rfl | hp
  · exact ⟨ho, I.hok.fresh (Nat.le_refl _), Ne.symm (Nat.ne_of_lt I.lt), I.nofs (Nat.le_refl _), hc⟩
  · exact I1.pin p (List.mem_append_right _ hp)
/-- the bound ValueError.__init__, called -/
theorem mw_call {u : Addr} {us : List Value} {Q : Value → Shared → Prop} {E : Value → Shared → Prop} {A : Around} (T : OexC X.K C) (I : Inv X pins σ H s) (e : H a = some (exo a C none)) (hu : s.heap.get? u = some (PySem.W.kxs_mw "ValueError.__init__" a)) (hz : us.length ≤ sizeLine)
    (h : ∀ s', Inv X pins σ H s' → Q .none s') : wpAny (model X.prog X.w) A (call (.ref u) us) Q E s := by
  obtain ⟨nm, q, N, bs, bm, sn, sub, ab, col, dd, k0, k1, k2, k3, k5, hC, hbm⟩ := T.cls
  obtain ⟨t1, ho⟩ := exo_at I.hok e
  have FB := F.excBase_ValueError
  have hC' := I.kIn _ _ hC
  obtain ⟨hp, g, d, t, os⟩ := s
  refine wpAny_call (codeAny_of_tree ?_)
  show wpAny _ A.in1 (callAny (.ref u) ⟨us, []⟩) _ _ _
  simp only [callAny]
  refine wpAny_bind (wpAny_load hu ?_)
  simp only [PySem.W.kxs_mw, show (Value.type "method-wrapper" == Value.type "method" || Value.type "method-wrapper" == Value.type "builtin_function_or_method" || Value.type "method-wrapper" == Value.type "method-wrapper") = true by decide, if_true]
  refine PySem.W.KFB.if_so (by decide) ?_
  refine wpAny_bind (PySem.W.check_bound_init FB.toExcCallFacts hC' ho rfl ?_)
  refine wpAny_bind (wpAny_pure (wpAny_pure ?_))
  refine ⟨plainId_quiet FB.init.plain _, codeAny_builtin FB.initEntry ?_⟩
  refine PySem.W.exc_init_tree (cls := .ref C) (t0 := t1) (dv := none) (c2 := .none) (c3 := .none) (b4 := .bool false) ho hz fun h' k hx _ => ?_
  have J := I.write (t' := t) (x := a) (e := a) (o := exo a C none) (by rw [e]; exact True.intro) (.inl rfl) k ⟨_, hx⟩ (exo_ok hx)
  have eu : upd H a (exo a C none) = H := by
    funext b
    by_cases hb : b = a
    · rw [hb, upd_same, e]
    · rw [upd_ne hb]
  rw [eu] at J
  exact h _ J
theorem super_init (I : Inv X pins σ H s) (SC : SupC X.K C) (hcell : X.K.lookup cc = some ⟨cl, cld, .cell (some (.ref C)), csl⟩) (lk : X.K.lookup f = some ⟨oc, od, .func fd, osl⟩) (hcode : X.K.lookup cda = some ⟨ccl, cdd, .fields vs0, ccs⟩) (hvs : vs0[2]? = some (.str file tf))
    (hfile : ((X.prog.main.file : Str) == file) = true) (htop : (X.prog.main.scope.names.lookup ("super" : Str)).isSome = false) (hsup : X.mg "super" = none) (hfu : X.env.func = some f) (hco : X.env.code = .ref cda)
    (hks : X.env.kindOf "super" = some .globalImplicit) (hkc : X.env.kindOf "__class__" = some .free) (hcl : X.env.cells.lookup ("__class__" : Str) = some cc) (hp : (fd.params.posonlyargs ++ fd.params.args).head? = some ar) (hka : X.env.kindOf ar.arg = some .local)
    (hns : s.heap.Ns X.env.locals m) (hm : m ar.arg = some (.ref a)) (ha : H a = some (exo a C none)) (hta : PA X (e :: es) ta) (hq : ta σ H fun xs H1 => xs.length ≤ 1000 ∧ H1 a = some (exo a C none) ∧ R H1)
    (hec : eval (.Call (.Attribute (.Call (.Name "super" p0) [] [] p1) "__init__" p2) (e :: es) [] p3) X.env = (do
      let ov ← attributeBase (.Call (.Name "super" p0) [] [] p1) "__init__" X.env (eval (.Call (.Name "super" p0) [] [] p1) X.env)
      standAt p2.atName
      let (f, first) ← holding [ov] (getMethod ov "__init__" pl)
      callWith p3 f first (backTo p3 (starEach (e :: es) X.env)) []))
    (he : starEach (e :: es) X.env = (false, eval e X.env) :: starEach es X.env) (hpl : (backTo p3 (starEach es X.env)).any (·.1) = false) :
    PySem.wpAt (model X.prog X.w) X.A (.func body X.env) (eval (.Call (.Attribute (.Call (.Name "super" p0) [] [] p1) "__init__" p2) (e :: es) [] p3) X.env) (fun _ s' => ∃ H1, Inv X pins σ H1 s' ∧ R H1) X.xe s := by
  obtain ⟨nm, q, Nn, bs, bm, sn, sub, ab, col, dd, k0, k1, k2, k3, k5, hC, hbm⟩ := SC.ox.cls
  obtain ⟨t1, ho⟩ := exo_at I.hok ha
  have KI := I.kIn
  have hC' := KI _ _ hC
  have hcd : PySem.W.clsIn X.K C = some { name := nm, bases := bs, mro := .ref C :: bm, ns := Nn, qualname := q, hasDict := true, slotNames := sn, subclasses := sub, abstract := ab, collection := col, hasDel := false } := by unfold PySem.W.clsIn; rw [hC] <;> rfl
  obtain ⟨mb, b1, b2⟩ := I.mod.blt
  refine PySem.ks_wpAt_MethodCall ?_ hec
  refine PySem.ks_wpAt_super_base (env := X.env) hks hkc rfl hfu (KI _ _ lk) rfl hp hco (KI _ _ hcode) rfl hvs hfile htop ?_
  refine PySem.W.ks_loadName_global I.ok.kind hks (Calls.loadGlobal_builtin (by rw [I.ok.glob]; exact I.mod.glob.keeps I.bk) hsup (by rw [I.ok.blt]; exact b1.keeps I.bk) ((b2 _ (by decide)).trans (by rfl)) ⟨rfl, ?_⟩)
  refine wpAny_loadName_free I.ok.kind hkc hcl ⟨_, KI _ _ hcell, rfl⟩ ?_
  refine wpAny_loadName_local I.ok.kind hka hns hm ?_
  refine PySem.ks_wpAny_isType_cls hC' rfl ⟨rfl, ?_⟩
  obtain ⟨hh, g, d, t, os⟩ := s
  refine PySem.ks_wpAny_call_super hC' rfl ho rfl (fun c z => nomatch z) (PySem.W.looks_mroIn KI SC.sub) (fun h2 e2 u2 => ?_)
  have I2 := newNe I (t' := t) u2 e2 (fun v z => nomatch z)
  have ho2 := u2 _ _ ho
  have hix : PySem.W.InstAt h2 a { cls := .ref C, dict := none, data := .fields #[.ref t1, .none, .none, .none, .bool false, .none] } C none := ⟨ho2, rfl, rfl, trivial⟩
  have sm : PySem.W.alongIn X.K "__init__" (((Value.ref C :: bm).dropWhile (· != .ref C)).drop 1) = some (some (.builtin "ValueError.__init__")) := by
    have z := SC.nx
    unfold PySem.W.ks_superIn at z
    rw [hcd] at z
    exact z
  refine PySem.W.kxs_getMethod PySem.W.kxs_ValueError (l₀ := .ref C :: bm) e2 (PySem.W.looks_opaque I2.kIn SC.st) (fun A Q E s k q => wpAny_bind ((PySem.W.looks_clsIn I2.kIn hcd) A _ E s k (wpAny_pure q))) rfl I2.kIn sm (hix.type.andThen (PySem.W.looks_subIn I2.kIn SC.ve)) (PySem.W.ks_ne I2.kIn hix hcd) rfl ?_
  have I3 := newNe I2 (t' := t + 1) (h' := h2.push (PySem.W.kxs_mw "ValueError.__init__" a)) (fun b o e => Heap.get?_push_of_some _ e) (Heap.get?_push_size _ rfl) (fun v z => nomatch z)
  show wpAny _ _ (callWith p3 (.ref h2.objs.size) [] (backTo p3 (starEach (e :: es) X.env)) []) _ _ _
  rw [he]
  refine PySem.W.kxs_callWith (i := "ValueError.__init__") (x := a) (by show (false || (backTo p3 (starEach es X.env)).any (·.1)) = false; rw [hpl]; rfl) ?_
  refine PySem.Calls.evalArgs_plain ?_
  have run := hta.run p3 _ _ σ H _ I3 hq
  rw [he] at run
  refine thn run fun us s1 ⟨xs, H1, I4, r1, hz, ha1, q⟩ => ⟨(I4.pin _ (List.mem_append_right _ List.mem_cons_self)).1, ?_⟩
  refine mw_call SC.ox I4 ha1 (I4.pin _ (List.mem_append_right _ List.mem_cons_self)).1 (by show us.length ≤ _; rw [← Paired.length r1, sizeLine_eq]; omega) fun s' J => ⟨H1, J.pins_of (fun p hp => J.pin p (List.mem_append_right _ (List.mem_cons_of_mem _ (List.mem_cons_of_mem _ hp)))), q⟩
end
section
variable {CX : CXT} {P : Program} {w : World} {K : PySem.W.Frag} {mg : Str → Option Value} {base : Heap} {k : Nat} {f cc cda C : Addr} {name qual : Str} {params : Arguments} {rest : List Stmt} {scope : Scope}
  {dV kV doc pm ct oc ccl cl : Value} {an od cdd cld : Option Addr} {osl ccs csl : Array (Option Value)} {vs0 : Array Value} {file : Str} {tf : Tok} {N ps : List Str} {sp : Sp} {e : Expr} {es : List Expr} {p0 p1 p2 p3 p4 : Pos} {ar : Arg}
abbrev supBody (e : Expr) (es : List Expr) (p0 p1 p2 p3 p4 : Pos) (rest : List Stmt) : List Stmt := .Expr (.Call (.Attribute (.Call (.Name "super" p0) [] [] p1) "__init__" p2) (e :: es) [] p3) p4 :: rest
/-- its words, as a nested def's -/
abbrev supF (name qual : Str) (params : Arguments) (body : List Stmt) (scope : Scope) (cc cda : Addr) : NF := ⟨name, qual, params, body, scope, [("__class__", cc)], cda⟩
theorem fn_super (lk : K.lookup f = some ⟨oc, od, .func (PySem.W.ksFn name qual params (supBody e es p0 p1 p2 p3 p4 rest) scope dV kV doc pm an (.ref cda) ct cc), osl⟩) (hcd : PySem.W.codeIn K (.ref cda) qual = true)
    (hcode : K.lookup cda = some ⟨ccl, cdd, .fields vs0, ccs⟩) (hvs : vs0[2]? = some (.str file tf)) (hfile : ((P.main.file : Str) == file) = true) (hcell : K.lookup cc = some ⟨cl, cld, .cell (some (.ref C)), csl⟩) (SC : SupC K C)
    (S : NScope N ps ["__class__"] scope) (hp : (params.posonlyargs ++ params.args).head? = some ar) (h0 : ps[0]? = some ar.arg)
    (hks : scope.names.lookup ("super" : Str) = some .globalImplicit) (hsup : mg "super" = none) (htop : (P.main.scope.names.lookup ("super" : Str)).isSome = false)
    (len : ∀ vs H Q E, sp vs H Q E → vs.length = ps.length)
    (hbody : ∀ (A : Around) (outer : List Env) (s : Shared) (H : Hp) (vs : List V) (Q : VK) (E : XK), Room k (A.deeper (envF (supF name qual params (supBody e es p0 p1 p2 p3 p4 rest) scope cc cda) f s.heap.objs.size)) → sp vs H Q E →
      ∃ ta t a, PA (ncx CX P w K mg base N (supF name qual params (supBody e es p0 p1 p2 p3 p4 rest) scope cc cda) f A outer s H E) (e :: es) ta ∧ PSs (ncx CX P w K mg base N (supF name qual params (supBody e es p0 p1 p2 p3 p4 rest) scope cc cda) f A outer s H E) rest t ∧
        vs[0]? = some (.ref a) ∧ H a = some (exo a C none) ∧ ta (startF N vs [none]) H fun xs H1 => xs.length ≤ 1000 ∧ H1 a = some (exo a C none) ∧ t { nx := fun _ H' => Q .non H', rt := Q } (startF N vs [none]) H1)
    (hec : ∀ env, ∃ pl : Sem Bool, eval (.Call (.Attribute (.Call (.Name "super" p0) [] [] p1) "__init__" p2) (e :: es) [] p3) env = (do
      let ov ← attributeBase (.Call (.Name "super" p0) [] [] p1) "__init__" env (eval (.Call (.Name "super" p0) [] [] p1) env)
      standAt p2.atName
      let (f, first) ← holding [ov] (getMethod ov "__init__" pl)
      callWith p3 f first (backTo p3 (starEach (e :: es) env)) []))
    (he : ∀ env, starEach (e :: es) env = (false, eval e env) :: starEach es env := by intro env; rfl) (hpl : ∀ env, (backTo p3 (starEach es env)).any (·.1) = false := by intro env; rfl)
    (hsw : ∀ env, swapsWith (.Call (.Attribute (.Call (.Name "super" p0) [] [] p1) "__init__" p2) (e :: es) [] p3) none p4.line env = pure false := by intro env; rfl) :
    FnOk P w K mg base CX (k + 1) f (PySem.W.ksFn name qual params (supBody e es p0 p1 p2 p3 p4 rest) scope dV kV doc pm an (.ref cda) ct cc) ps sp := by
  refine ⟨len, fun A outer s H args us vs Q E hr e0 hb r hsp => ?_⟩
  have hl := len _ _ _ _ hsp
  have KX : K.In s.heap := e0.mod.kin.keeps fun b o e => (e0.bs b o e).1
  have lim : s.heap.NoLimit := e0.mod.nolimit.keeps fun b o e => (e0.bs b o e).1
  refine PySem.ks_codeAny_call_defAt hr.depth (KX _ _ lk) rfl lim (PySem.W.codeRec_of KX hcd) rfl hb S.nocell (fun ⟨n, _⟩ hy => S.par n (List.of_mem_zip hy).1) (fun h₁ hns kp => ?_) S.co S.gen S.kind
  have C0 : CellsAt [("__class__", cc)] ["__class__"] [none] s.heap H := by
    obtain ⟨c1, c2⟩ := e0.bs _ _ (e0.mod.kin _ _ hcell)
    have key : ∀ {y : Str} {c : Addr}, List.lookup y [(("__class__" : Str), cc)] = some c → y = "__class__" ∧ c = cc := fun {y c} q => by
      have q2 : (match y == ("__class__" : Str) with | true => some cc | false => none) = some c := q
      cases z : (y == ("__class__" : Str)) with
      | true =>
        rw [z] at q2
        exact ⟨beq_iff_eq.mp z, (Option.some.inj q2).symm⟩
      | false =>
        rw [z] at q2
        cases q2
    refine ⟨rfl, fun y c q => ?_, fun x y c q1 q2 => ?_, fun i y q => ?_⟩
    · obtain ⟨_, rfl⟩ := key q
      exact ⟨c2, _, _, c1, rfl⟩
    · rw [(key q1).1, (key q2).1]
    · cases i with
      | zero =>
        have q2 : ("__class__" : Str) = y := Option.some.inj q
        subst q2
        exact ⟨cc, rfl, fun v z => nomatch (Option.some.inj z)⟩
      | succ i => exact absurd q (by simp)
  obtain ⟨ta, t, a, hta, ht, hv0, ha0, hq⟩ := hbody A outer s H vs Q E (hr.deeper _) hsp
  have I : Inv (ncx CX P w K mg base N (supF name qual params (supBody e es p0 p1 p2 p3 p4 rest) scope cc cda) f A outer s H E) [] (startF N vs [none]) H { s with heap := h₁, toks := s.toks + (ps.zip us).length } := inv_startN S hr.hd e0 hl r C0 hns kp
  have hm : (ps.zip us).reverse.lookup ar.arg = some (.ref a) := by
    obtain ⟨u, hu, ru⟩ := r.get hv0
    cases (show u = Value.ref a from ru)
    have ndP : ps.Nodup := by
      have q := S.nd.sublist (List.take_sublist (ps.length + [("__class__" : Str)].length) N)
      rw [S.pre] at q
      exact (List.nodup_append.mp q).1
    exact zip_look ndP h0 hu
  refine PySem.ks_wpAt_execs_cons (env := envF (supF name qual params (supBody e es p0 p1 p2 p3 p4 rest) scope cc cda) f s.heap.objs.size) (PySem.ks_wpAt_Expr_any ?_ I.quiet (hsw _))
  obtain ⟨pl, hec⟩ := hec (ncx CX P w K mg base N (supF name qual params (supBody e es p0 p1 p2 p3 p4 rest) scope cc cda) f A outer s H E).env
  have SI := super_init (body := supBody e es p0 p1 p2 p3 p4 rest) I SC hcell lk hcode hvs hfile htop hsup rfl rfl hks (S.frk _ (List.mem_singleton_self _)) rfl hp (S.par _ (List.mem_of_getElem? h0)) hns hm ha0 hta hq hec (he _) (hpl _)
  refine PySem.ks_wpAt_mono SI (fun v s' ⟨H1, J, q⟩ => ?_) fun _ _ z => z
  refine PySem.wpAt_of_wpAny ?_
  refine wpAny_mono (ht.run [] s' _ H1 _ J q) (fun fl s' hs => ?_) fun e s' hs => hs
  have fin : ∀ {σ' : L2.St} {H' : Hp} {v : V} {u : Value}, Inv (ncx CX P w K mg base N (supF name qual params (supBody e es p0 p1 p2 p3 p4 rest) scope cc cda) f A outer s H E) [] σ' H' s' → L2.RelV v u → Q v H' → CE outer P w H s Q u s' :=
    fun {σ' H' v u} J rv q => ⟨v, H', J.os, J.bare, J.base, J.hok, rv, q⟩
  cases fl with
  | ret u =>
    obtain ⟨v, σ', H', J, rv, q⟩ := hs
    exact fin J rv q
  | next =>
    obtain ⟨σ', H', J, q⟩ := hs
    exact fin (v := V.non) (u := Value.none) J rfl q
  | brk =>
    obtain ⟨_, _, _, q⟩ := hs
    exact False.elim q
  | cont =>
    obtain ⟨_, _, _, q⟩ := hs
    exact False.elim q
end
/-! ### C(n), C's __init__ being: super().__init__(f'..{par}'); self.fld = par -/
/-- such an __init__'s text -/
def IniTx (par fld : Str) (params : Arguments) (body : List Stmt) (scope : Scope) : Prop := (∃ (z : Str) (j : Nat) (pz q1 q2 q3 p0 p1 p2 p3 p4 r1 r2 r3 r4 : Pos),
    body = supBody (.JoinedStr [.Constant (.str z) j pz, .FormattedValue (.Name par q1) (-1) none q2] q3) [] p0 p1 p2 p3 p4 [.Assign [.Attribute (.Name "self" r1) fld r2] (.Name par r3) r4] ∧ z.length ≤ 1000 ∧
    ∀ env, ∃ pl : Sem Bool, eval (.Call (.Attribute (.Call (.Name "super" p0) [] [] p1) "__init__" p2) [.JoinedStr [.Constant (.str z) j pz, .FormattedValue (.Name par q1) (-1) none q2] q3] [] p3) env = (do
      let ov ← attributeBase (.Call (.Name "super" p0) [] [] p1) "__init__" env (eval (.Call (.Name "super" p0) [] [] p1) env)
      standAt p2.atName
      let (f, first) ← holding [ov] (getMethod ov "__init__" pl)
      callWith p3 f first (backTo p3 (starEach [.JoinedStr [.Constant (.str z) j pz, .FormattedValue (.Name par q1) (-1) none q2] q3] env)) [])) ∧
  NScope ["self", par, "__class__"] ["self", par] ["__class__"] scope ∧ scope.names.lookup ("super" : Str) = some .globalImplicit ∧ (∃ ar, (params.posonlyargs ++ params.args).head? = some ar ∧ ar.arg = "self") ∧ (par == ("__debug__" : Str)) = false ∧ (par == ("__classdict__" : Str)) = false ∧
  ∀ (qual : Str) (kV doc pm : Value) (an : Option Addr) (cda : Value) (ct : Value) (cc : Addr) (us : List Value), us.length = 2 → bindArgs (PySem.W.ksFn "__init__" qual params body scope .none kV doc pm an cda ct cc) ⟨us, []⟩ = pure ([("self" : Str), par].zip us)
/-- what the top holds of it -/
structure Ini (P : Program) (K : PySem.W.Frag) (C : Addr) (fld qual : Str) (params : Arguments) (body : List Stmt) (scope : Scope) (f : Addr) (fd : FuncData) : Prop where
  sc : SupC K C
  ex : ExcC K C
  ini : PySem.W.findIn K (.ref C) "__init__" = some (some (.ref f))
  ty : PySem.W.typeIn K (.ref f) = some (.type "function")
  nof : PySem.W.findIn K (.ref C) fld = some none
  fn : ∃ (cc cda : Addr) (oc : Value) (od : Option Addr) (kV doc pm : Value) (an : Option Addr) (ct : Value) (osl : Array (Option Value)) (ccl : Value) (cdd : Option Addr) (vs0 : Array Value) (ccs : Array (Option Value)) (file : Str) (tf : Tok) (cl : Value) (cld : Option Addr) (csl : Array (Option Value)),
    fd = PySem.W.ksFn "__init__" qual params body scope .none kV doc pm an (.ref cda) ct cc ∧ K.lookup f = some ⟨oc, od, .func fd, osl⟩ ∧ PySem.W.codeIn K (.ref cda) qual = true ∧ K.lookup cda = some ⟨ccl, cdd, .fields vs0, ccs⟩ ∧ vs0[2]? = some (.str file tf) ∧ ((P.main.file : Str) == file) = true ∧
    K.lookup cc = some ⟨cl, cld, .cell (some (.ref C)), csl⟩
def spIni (C : Addr) (fld : Str) : Sp := fun vs H Q _ => ∃ (a : Addr) (n : Int), vs = [.ref a, .int n] ∧ 0 ≤ n ∧ n < 10 ^ 18 ∧ H a = some (exo a C none) ∧ ∀ d, H d = none → d ≠ a → Q .non (upd (upd H d (exd d [(fld, .int n)])) a (exo a C (some d)))
section
variable {P : Program} {w : World} {K : PySem.W.Frag} {mg : Str → Option Value} {base : Heap} {CX : CXT} {k : Nat} {C f : Addr} {par fld qual : Str} {params : Arguments} {body : List Stmt} {scope : Scope} {fd : FuncData}
theorem ini_binds (T : IniTx par fld params body scope) (I : Ini P K C fld qual params body scope f fd) : Binds K fd ["self", par] [] := by
  obtain ⟨_, _, _, _, _, _, hb⟩ := T
  obtain ⟨cc, cda, oc, od, kV, doc, pm, an, ct, osl, ccl, cdd, vs0, ccs, file, tf, cl, cld, csl, rfl, _⟩ := I.fn
  exact Binds.all fun us hl => hb _ _ _ _ _ _ _ _ us hl
theorem ini_ok (T : IniTx par fld params body scope) (I : Ini P K C fld qual params body scope f fd) (hsup : mg "super" = none) (htop : (P.main.scope.names.lookup ("super" : Str)).isSome = false) : FnOk P w K mg base CX (k + 1) f fd ["self", par] (spIni C fld) := by
  obtain ⟨⟨z, j, pz, q1, q2, q3, p0, p1, p2, p3, p4, r1, r2, r3, r4, rfl, hz, hec⟩, S, hks, ⟨ar, hp, har⟩, hd1, hd2, _⟩ := T
  obtain ⟨cc, cda, oc, od, kV, doc, pm, an, ct, osl, ccl, cdd, vs0, ccs, file, tf, cl, cld, csl, rfl, lk, hcd, hcode, hvs, hfile, hcell⟩ := I.fn
  refine fn_super lk hcd hcode hvs hfile hcell I.sc S hp (by rw [har] <;> rfl) hks hsup htop (fun vs H Q E h => ?_) (fun A outer s H vs Q E hr h => ?_) hec
  · obtain ⟨a, n, rfl, _⟩ := h
    rfl
  · obtain ⟨a, n, rfl, hn, hn2, ha, q⟩ := h
    have v1 : Vis scope par := .inl (S.par _ (by simp))
    have v0 : Vis scope "self" := .inl (S.par _ (by simp))
    refine ⟨_, _, a, pa_cons (pe_joined (.cons pe_str (.cons (pe_fmt (pe_var (i := 1) rfl v1 hd1 hd2)) .nil))) pa_nil, pss_one (ps_ost (pe_var (i := 0) rfl v0) (pe_var (i := 1) rfl v1 hd1 hd2)), rfl, ha, ?_⟩
    refine ⟨z, rfl, ?_, .int n, rfl, .inr ⟨n, rfl, XV.num_log hn hn2, toString n, rfl, XV.num_len hz hn hn2, ?_⟩⟩
    · rw [Str.length_append]
      have e : Str.empty.length = 0 := by decide +kernel
      exact lz (by omega)
    · refine ⟨by simp, ha, ?_⟩
      exact ⟨.int n, rfl, .ref a, rfl, a, C, rfl, I.sc.ox, I.nof, .inl ⟨ha, fun d hd hda => q d hd hda⟩⟩
end
section
variable {X : Cx} {C f : Addr} {x par fld qual : Str} {params : Arguments} {body : List Stmt} {scope : Scope} {fd : FuncData} {te : TE} {e : Expr} {p pos pos2 : Pos} {k : Nat} {CX : CXT} {W : WX}
/-- a reading, weakened -/
def mon (te : TE) : TE := fun σ H Q => ∃ Q' : V → Hp → Prop, te σ H Q' ∧ ∀ v H1, Q' v H1 → Q v H1
theorem pe_mon (he : PE X e te) : PE X e (mon te) := ⟨fun pins s σ H Q I ⟨Q', h, k⟩ => thn (he.run pins s σ H Q' I h) fun u s' ⟨v, H1, J, r, q⟩ => ⟨v, H1, J, r, k v H1 q⟩⟩
/-- raise C(e) -/
def tIni (C : Addr) (fld : Str) (te : TE) (W : WX) : TS := fun _ σ H => te σ H fun v H1 => ∃ n : Int, v = .int n ∧ 0 ≤ n ∧ n < 10 ^ 18 ∧ ∀ d, H1 d = none → W (.ref C) (some d) σ (upd H1 d (.xd [(fld, .int n)]))
theorem ps_raiseI (T : IniTx par fld params body scope) (I : Ini X.prog X.K C fld qual params body scope f fd) (hsup : X.mg "super" = none) (htop : (X.prog.main.scope.names.lookup ("super" : Str)).isSome = false) (hr : Room (k + 2) X.A) (hg : Gl X x) (hm : X.mg x = some (.ref C)) (he : PE X e te) (tk : Takes X W)
    (hc : X.calm = true := by rfl) (hs : starEach [e] X.env = (false, eval e X.env) :: starEach [] X.env := by rfl) (hdb : (x == ("__debug__" : Str)) = false := by decide) :
    PS X (.Raise (some (.Call (.Name x p) [e] [] pos)) none pos2) (tIni C fld te W) := by
  refine ⟨fun pins s σ H D I0 h => (ps_raise hc tk (pmk_oex (CX := CX0) I.sc.ox I.ini I.ty (ini_ok (k := k) T I hsup htop) hr (ini_binds T I) .nil pass0 hg hm (pa_cons (pe_mon he) pa_nil hs) hdb hs)).run pins s σ H D I0 ?_⟩
  refine ⟨_, h, fun v H1 ⟨n, ev, n0, n1, q⟩ => ?_⟩
  subst ev
  refine ⟨by simp, fun a ha => ?_⟩
  refine ⟨a, n, rfl, n0, n1, upd_same, fun d hd hda => ⟨rfl, d, _, upd_same, (upd_ne hda).trans upd_same, (upd_ne hda).symm.trans hd, ?_⟩⟩
  have hd1 : H1 d = none := (upd_ne hda).symm.trans hd
  have e2 : upd (del (upd (upd (upd H1 a (exo a C none)) d (exd d [(fld, .int n)])) a (exo a C (some d))) a) d (.xd [(fld, .int n)]) = upd H1 d (.xd [(fld, .int n)]) := by
    funext b
    by_cases hb : b = d
    · rw [hb, upd_same, upd_same]
    · rw [upd_ne hb, upd_ne hb]
      by_cases hba : b = a
      · rw [hba, del_same, ha]
      · rw [del_ne hba, upd_ne hba, upd_ne hb, upd_ne hba]
  rw [e2]
  exact q d hd1
end
/-! ### it, caught -/
theorem inst_of {X : Cx} {pins : List (Addr × Obj)} {σ : L2.St} {H : Hp} {s : Shared} {a d D : Addr} {fs : List (Str × V)} (I : Inv X pins σ H s) (ha : H a = some (ExV (.ref D) (some d) a)) (hd : H d = some (.xd fs)) :
    ∃ oe od, PySem.W.InstAt s.heap a oe D (some od) ∧ ∀ f v, fs.lookup f = some v → ∃ u, PySem.W.lookIn f od = some (some u) ∧ L2.RelV v u := by
  obtain ⟨⟨oe, vs, ho, hz, hdd⟩, _, _⟩ := (show ObjOk X.prog X.w H s.heap a (ExV (.ref D) (some d) a) from I.hok a _ ha)
  have hx : ObjOk X.prog X.w H s.heap d (.xd fs) := I.hok d _ hd
  obtain ⟨mA, hns, hr⟩ := hx
  obtain ⟨od, ho2, hl⟩ := lookIn_ns hns
  refine ⟨oe, od, ⟨ho, hz.1, by unfold PySem.W.notCls; rw [hdd] <;> rfl, by rw [hz.2]; exact ho2⟩, fun f v l => ?_⟩
  obtain ⟨u, hu, ru⟩ := RelO.some_of (v := v) (o := mA f) (by rw [← l]; exact hr f)
  exact ⟨u, by rw [hl, hu], ru⟩
/-- isinstance(x, c): as before, or a caught exception of the class D that has fields -/
def rIsW (K : PySem.W.Frag) (r : List V → Hp → VK → Prop) : List V → Hp → VK → Prop := fun xs H Q => r xs H Q ∨ ∃ (a d D : Addr) (fs : List (Str × V)) (c : V) (cv : Value) (b : Bool), xs = [.ref a, c] ∧ H a = some (ExV (.ref D) (some d) a) ∧ H d = some (.xd fs) ∧ ExcC K D ∧ ClsV c cv ∧ PySem.W.kitOne K (.ref D) cv = some b ∧ Q (.bl b) H
theorem call_isW {X : Cx} {r : List V → Hp → VK → Prop} (hr : CallR X (.builtin "isinstance") r) : CallR X (.builtin "isinstance") (rIsW X.K r) := by
  intro pins s σ H xs us Q I r1 h
  rcases h with h | ⟨a, d, D, fs, c, cv, b, rfl, ha, hd, C, k, e, q⟩
  · exact hr pins s σ H xs us Q I r1 h
  · obtain ⟨u1, u2, rfl, r1, r2⟩ := vals2 r1
    cases (show u1 = Value.ref a from r1)
    have e2 := k.eq r2
    subst e2
    obtain ⟨oe, od, J, _⟩ := inst_of I ha hd
    have hcl : (PySem.W.clsIn X.K D).isSome = true := by
      have z := C.hd
      unfold PySem.W.hasDictIn at z
      cases q : PySem.W.clsIn X.K D with
      | none =>
        rw [q] at z
        cases z
      | some cd => rfl
    exact PySem.W.kia_one (PySem.W.kitx_exc hcl C.hg C.hk C.hs C.ha C.hn C.ht C.hm) I.kIn J e (fun z => nomatch z) fun tk => ⟨.bl b, H, I.kept (t' := tk) fun _ _ z => z, rfl, q⟩
/-- its field -/
def tFl (K : PySem.W.Frag) (f : Str) (te : TE) : TE := fun σ H Q => te σ H fun x H1 => ∃ (a d D : Addr) (fs : List (Str × V)) (v : V), x = .ref a ∧ H1 a = some (ExV (.ref D) (some d) a) ∧ H1 d = some (.xd fs) ∧ ExcC K D ∧ PySem.W.findIn K (.ref D) f = some none ∧ fs.lookup f = some v ∧ Q v H1
theorem pe_fl {X : Cx} {e : Expr} {te : TE} {pos : Pos} {n : Str} (he : PE X e te) (hb : attributeBase e n X.env (eval e X.env) = eval e X.env := by rfl) : PE X (.Attribute e n pos) (tFl X.K n te) := by
  refine ⟨fun pins s σ H Q I h => ?_⟩
  refine attr_of hb (thn (he.run pins s σ H _ I h) fun u s1 hh => ?_)
  obtain ⟨x, H1, I1, rx, a, d, D, fs, v, ex, ha, hd, C, hno, l, q⟩ := hh
  subst ex
  obtain rfl : u = Value.ref a := rx
  obtain ⟨oe, od, J, lk⟩ := inst_of I1 ha hd
  obtain ⟨u, hu, ru⟩ := lk n v l
  exact HandSPX.exc_get I1.kIn J C.hg C.hk C.hs (PySem.W.findObj_own C.hd hno rfl hu) (handed_of ru) ⟨v, H1, I1.tok _, ru, q⟩
end XS

set_option linter.all false
set_option maxRecDepth 100000
set_option maxHeartbeats 4000000
/-! XU: the head's facts of such error classes. -/
namespace XU
open PySem PySem.Spec PyProof.Rows L2 He XS
/-- the class with its __init__: name, field, the text -/
structure IniD where
  x : Str
  fld : Str
  qual : Str
  params : Arguments
  body : List Stmt
  scope : Scope
abbrev FnI : Type := Option (Str × Str × Arguments × FuncBody × Scope × Addr × Addr)
def fI (K : PySem.W.Frag) (x : Str) : Addr := fAd K (x, some "__init__")
def fnI (K : PySem.W.Frag) (x : Str) : FnI := match K.lookup (fI K x) with
  | some ⟨_, _, .func fd, _⟩ => some (fd.name, fd.qualname, fd.params, fd.body, fd.scope, fd.globals, fd.builtins)
  | _ => none
def IniD.val (d : IniD) : FnI := some ("__init__", d.qual, d.params, .stmts d.body, d.scope, mainGlobals, builtinsNs)
def oexB (K : PySem.W.Frag) (C : Addr) : Bool := match K.lookup C with
  | some ⟨.type t, _, .cls cd, sl⟩ => (match cd.mro, sl.toList with
    | .ref C' :: bm, [_, _, _, _, some (.builtin n), _] => decide (t = "type") && (decide (C' = C) && (decide (n = "ValueError.__new__") && (cd.hasDict && (!cd.hasDel && PySem.HandSPX.refsVE bm))))
    | _, _ => false)
  | _ => false
def shpB (K : PySem.W.Frag) (file : Str) (C f : Addr) (qual : Str) : Bool := match K.lookup f with
  | some ⟨_, _, .func fd, _⟩ => (match fd.defaults, fd.code, fd.closure with
    | .none, .ref cda, [(nm, cc)] => decide (nm = "__class__") && (PySem.W.codeIn K (.ref cda) qual && ((match K.lookup cc with
      | some ⟨_, _, .cell (some (.ref C')), _⟩ => decide (C' = C)
      | _ => false) && (match K.lookup cda with
      | some ⟨_, _, .fields vs, _⟩ => (match (vs[2]? : Option Value) with
        | some (Value.str z _) => file == z
        | _ => false)
      | _ => false)))
    | _, _, _ => false)
  | _ => false
def iniB (K : PySem.W.Frag) (file : Str) (d : IniD) : Bool := oexB K (ga K d.x) && (shpB K file (ga K d.x) (fI K d.x) d.qual && (eqO (PySem.W.findIn K (.ref (ga K d.x)) "__setattr__") (some (some (.builtin "object.__setattr__"))) &&
  (decide (PySem.W.subIn K (.ref (ga K d.x)) (.type "BaseException") = some true) && (decide (PySem.W.typeIn K (.ref (ga K d.x)) = some (.type "type")) && (PySem.W.keepIn K (.ref (ga K d.x)) &&
  (decide (PySem.W.mroIn K (ga K d.x) (.ref (ga K d.x)) = some true) && (decide (PySem.W.subIn K (.ref (ga K d.x)) (.type "ValueError") = some true) && (eqO (PySem.W.ks_superIn K (ga K d.x) (ga K d.x) "__init__") (some (some (.builtin "ValueError.__init__"))) &&
  (eqO (PySem.W.nsIn K PySem.cStatics "thirdparty.any") (some none) && (eqO (PySem.W.findIn K (.ref (ga K d.x)) "__init__") (some (some (.ref (fI K d.x)))) && (decide (PySem.W.typeIn K (.ref (fI K d.x)) = some (.type "function")) &&
  eqO (PySem.W.findIn K (.ref (ga K d.x)) d.fld) (some none))))))))))))
theorem oexB_ok {K : PySem.W.Frag} {C : Addr} (h : oexB K C = true) : ∃ nm q N bs bm sn sub ab col dd k0 k1 k2 k3 k5, K.lookup C = some (excClassObj nm q C N bs bm true sn sub ab col dd k0 k1 k2 k3 k5 "ValueError.__new__") ∧ PySem.HandSPX.refsVE bm = true := by
  unfold oexB at h
  split at h
  · rename_i t dd cd sl ho
    split at h
    · rename_i C' bm k0 k1 k2 k3 n k5 hm hs
      simp only [Bool.and_eq_true, decide_eq_true_eq, Bool.not_eq_true'] at h
      obtain ⟨rfl, rfl, rfl, hd, hdel, ht⟩ := h
      obtain ⟨nm, bs, mro, ns, qn, hd', sn, sub, ab, col, del⟩ := cd
      dsimp only at hm hdel hd
      subst hm hdel hd
      have hsl : sl = #[k0, k1, k2, k3, some (.builtin "ValueError.__new__"), k5] := by
        obtain ⟨l⟩ := sl
        simp only at hs
        rw [hs]
      subst hsl
      exact ⟨nm, qn, ns, bs, bm, sn, sub, ab, col, dd, k0, k1, k2, k3, k5, ho, ht⟩
    · cases h
  · cases h
theorem ini_of {P : Program} {K : PySem.W.Frag} {d : IniD} (h : iniB K P.main.file d = true) (e : fnI K d.x = d.val) (hx : ExcC K (ga K d.x)) : ∃ fd, Ini P K (ga K d.x) d.fld d.qual d.params d.body d.scope (fI K d.x) fd := by
  obtain ⟨h1, h⟩ := ba h
  obtain ⟨h2, h⟩ := ba h
  obtain ⟨h3, h⟩ := ba h
  obtain ⟨h4, h⟩ := ba h
  obtain ⟨h5, h⟩ := ba h
  obtain ⟨h6, h⟩ := ba h
  obtain ⟨h7, h⟩ := ba h
  obtain ⟨h8, h⟩ := ba h
  obtain ⟨h9, h⟩ := ba h
  obtain ⟨h10, h⟩ := ba h
  obtain ⟨h11, h⟩ := ba h
  obtain ⟨h12, h13⟩ := ba h
  have SC : SupC K (ga K d.x) := ⟨⟨oexB_ok h1, eqO_ok h3, of_decide_eq_true h4, of_decide_eq_true h5, h6⟩, of_decide_eq_true h7, of_decide_eq_true h8, eqO_ok h9, eqO_ok h10⟩
  unfold fnI at e
  unfold shpB at h2
  cases q : K.lookup (fI K d.x) with
  | none =>
    rw [q] at e
    cases e
  | some o =>
    obtain ⟨oc, od, dt, osl⟩ := o
    rw [q] at e h2
    cases dt with
    | func fd =>
      obtain ⟨n1, n2, n3, n4, n5, n6, n7, n8, n9, n10, n11, n12, n13, n14, n15⟩ := fd
      have e2 : (some (n1, n2, n3, n4, n5, n6, n15) : FnI) = some (("__init__" : Str), d.qual, d.params, FuncBody.stmts d.body, d.scope, mainGlobals, builtinsNs) := e
      simp only [Option.some.injEq, Prod.mk.injEq] at e2
      obtain ⟨a1, a2, a3, a4, a5, a6, a7⟩ := e2
      subst a1 a2 a3 a4 a5 a6 a7
      dsimp only at h2
      split at h2
      · rename_i cda nm cc
        simp only [Bool.and_eq_true, decide_eq_true_eq] at h2
        obtain ⟨rfl, c1, c2, c3⟩ := h2
        split at c2
        · rename_i cl cld C' csl qc
          have ec : C' = ga K d.x := of_decide_eq_true c2
          subst ec
          split at c3
          · rename_i ccl cdd vs ccs qd
            split at c3
            · rename_i z tz qz
              exact ⟨_, SC, hx, eqO_ok h11, of_decide_eq_true h12, eqO_ok h13, cc, cda, oc, od, n9, n10, n11, n12, n14, osl, ccl, cdd, vs, ccs, z, tz, cl, cld, csl, rfl, q, c1, qd, qz, c3, qc⟩
            · cases c3
          · cases c3
        · cases c2
      · cases h2
    | _ => cases e
/-! ### the hook -/
abbrev asY (g : Addr → Option Obj) (n : Nat) : List Addr := PySem.cStatics :: asD g n
abbrev AlY : Type := AlX × List FnI
def obsY (n : Nat) (fa : List Fa) (fn : List DefD) (ts : List Tab) (tf : List Defn) (ex : PySem.W.Frag → Bool) (ini : List IniD) (g : Addr → Option Obj) : AlY :=
  ((obsT fa fn ts (frT g (asY g n)), ex (frT g (asY g n)) && tabsB g tf (frT g (asY g n))), ini.map fun d => fnI (frT g (asY g n)) d.x)
def valY (fn : List DefD) (ts : List Tab) (ini : List IniD) (w : World) : AlY := (valX fn ts w, ini.map IniD.val)
theorem saysX_at {fa : List Fa} {fn : List DefD} {ts : List Tab} {tf : List Defn} {ex : PySem.W.Frag → Bool} {w : World} {h : Heap} {as : List Addr} (e : ((obsT fa fn ts (frT h.get? as), ex (frT h.get? as) && tabsB h.get? tf (frT h.get? as)) : AlX) = valX fn ts w) : SaysX fa fn ts tf ex w h (frT h.get? as) := by
  have e1 : obsT fa fn ts (frT h.get? as) = valT fn ts w := congrArg (fun z : AlX => z.1) e
  have e2 : (ex (frT h.get? as) && tabsB h.get? tf (frT h.get? as)) = true := congrArg (fun z : AlX => z.2) e
  obtain ⟨h1, h2⟩ := ba e2
  have key : ∀ p ∈ tf, PySem.W.codeHdIn (frT h.get? as) (cT (frT h.get? as) p).1 (cT (frT h.get? as) p).2 = true ∧ ∃ o, h.get? (cT (frT h.get? as) p).2 = some o ∧ emptyTab o = true := fun p hp => by
    obtain ⟨h3, h4⟩ := ba (List.all_eq_true.mp h2 p hp)
    refine ⟨h3, ?_⟩
    cases q : h.get? (cT (frT h.get? as) p).2 with
    | none =>
      rw [q] at h4
      cases h4
    | some o =>
      rw [q] at h4
      exact ⟨o, rfl, h4⟩
  exact ⟨e1, h1, fun p hp => (key p hp).1, fun p hp => by
    obtain ⟨_, o, q, z⟩ := key p hp
    exact frT_none q z, fun p hp => by
    obtain ⟨_, o, q, z⟩ := key p hp
    rw [q, emptyTab_eq z]⟩
def SaysI (ini : List IniD) (K : PySem.W.Frag) : Prop := ini.map (fun d => fnI K d.x) = ini.map IniD.val
theorem SaysI.at_ {ini : List IniD} {K : PySem.W.Frag} (c : SaysI ini K) (i : Nat) {d : IniD} (h : ini[i]? = some d := by rfl) : fnI K d.x = d.val := by
  have e2 : (ini.map fun d => fnI K d.x)[i]? = (ini.map IniD.val)[i]? := by rw [show ini.map (fun d => fnI K d.x) = ini.map IniD.val from c]
  rw [List.getElem?_map, List.getElem?_map, h] at e2
  exact Option.some.inj e2
def hookY (n : Nat) (fa : List Fa) (fn : List DefD) (ts : List Tab) (tf : List Defn) (ex : PySem.W.Frag → Bool) (ini : List IniD) : PySem.W.Hook where
  α := AlY
  obs := fun s => obsY n fa fn ts tf ex ini s.heap.get?
  val := fun w => valY fn ts ini w
  says := fun w h => ∃ K : PySem.W.Frag, K.In h ∧ SaysX fa fn ts tf ex w h K ∧ SaysI ini K
  of := fun _ _ e => ⟨_, frT_in, saysX_at (congrArg (fun z : AlY => z.1) e), congrArg (fun z : AlY => z.2) e⟩
  keeps := fun _ _ _ ⟨K, hK, c, i⟩ k => ⟨K, PySem.W.Frag.In.keeps hK k, ⟨c.t, c.more, c.hd, c.out, fun p hp => k _ _ (c.empty p hp)⟩, i⟩
theorem obsY_eq {n : Nat} {fa : List Fa} {fn : List DefD} {ts : List Tab} {tf : List Defn} {ex : PySem.W.Frag → Bool} {ini : List IniD} {g : Addr → Option Obj} {s : Shared} (h : ∀ a, g a = s.heap.get? a) : obsY n fa fn ts tf ex ini g = (hookY n fa fn ts tf ex ini).obs s := by
  have e : g = s.heap.get? := funext h
  rw [e] <;> rfl
end XU

set_option linter.all false
set_option maxRecDepth 100000
set_option maxHeartbeats 0
namespace KP
open PySem PySem.Spec PyProof.Rows L2
def topR (i : Nat) : Stmt := PySem.Challenge.pw_meankept_k21_numbers_and_errors.main.body.getD i (.Pass ⟨0, 0, 0, 0⟩)
def dfn (x : Str) (i : Nat) : He.DefD := ⟨(x, none), x, x, defArgs (topR i), defBody (topR i), defScope (topR i), [], []⟩
def hf1 : List He.DefD := [dfn "is_whole" 28, dfn "is_number" 30, dfn "number" 31, dfn "_law_begun" 33, dfn "_law_blended" 34, dfn "_law_draw" 35, dfn "_law_pick" 36, dfn "_law_caught" 37, dfn "_law_is_truth" 38, dfn "_law_mk_gcd" 39, dfn "_law_mk_made" 40, dfn "_law_mk_is_number" 41, dfn "_law_mr_great" 42, dfn "_law_mr_near" 43]
def hf2 : List He.DefD := [dfn "_law_mr_classes" 44, dfn "_law_mr_made" 45, dfn "_law_mr_errors_hold" 46, dfn "_law_mr_number_faults" 47, dfn "law" 48]
def hfn : List He.DefD := hf1 ++ hf2
def hfr : List Str := ["isinstance", "int", "bool", "tuple", "list", "len", "abs", "min", "range", "enumerate", "str", "ValueError", "super"]
def hfx : List Str := ["KeepError", "BadChange", "BadDeeds", "BadHouse", "BadMove", "BadName", "BadNumber", "BadPlace", "BadPlaces", "BadRank", "BadRenaming", "BadRow", "BadRows", "BadSpelling", "BadWeb", "NoName", "NotFree", "NotFull", "NotMade", "NotOver", "UnlikeMany", "UnlikeWebs"]
def hfa : List He.Fa := hfr.map He.Fa.free ++ (hfn.map fun d => He.Fa.glo d.name) ++ hfx.map He.Fa.glo ++ hfx.map He.Fa.exc ++ [.exm "BadChange" "KeepError" true, .exm "BadDeeds" "KeepError" true, .exm "BadHouse" "KeepError" true, .exm "BadMove" "KeepError" true, .exm "BadName" "KeepError" true, .exm "BadNumber" "KeepError" true, .exm "BadPlace" "KeepError" true, .exm "BadPlaces" "KeepError" true, .exm "BadRank" "KeepError" true, .exm "BadRenaming" "KeepError" true, .exm "BadRow" "KeepError" true, .exm "BadRows" "KeepError" true, .exm "BadSpelling" "KeepError" true, .exm "BadWeb" "KeepError" true, .exm "NoName" "KeepError" true, .exm "NotFree" "KeepError" true, .exm "NotFull" "KeepError" true, .exm "NotMade" "KeepError" true, .exm "NotOver" "KeepError" true, .exm "UnlikeMany" "KeepError" true, .exm "UnlikeWebs" "KeepError" true, .glo "BadJournal", .glo "BadText", .glo "TooMany"]
def clsB : Stmt → List Stmt
  | .ClassDef (body := b) .. => b
  | _ => []
def iniR (i : Nat) : Stmt := (clsB (topR i)).getD 0 (.Pass ⟨0, 0, 0, 0⟩)
def hini : List XU.IniD := [⟨"BadJournal", "at", "BadJournal.__init__", defArgs (iniR 6), defBody (iniR 6), defScope (iniR 6)⟩, ⟨"BadText", "at", "BadText.__init__", defArgs (iniR 17), defBody (iniR 17), defScope (iniR 17)⟩, ⟨"TooMany", "most", "TooMany.__init__", defArgs (iniR 24), defBody (iniR 24), defScope (iniR 24)⟩]
def nmsR : List Str := ["BadChange", "BadDeeds", "BadHouse", "BadMove", "BadName", "BadNumber", "BadPlace", "BadPlaces", "BadRank", "BadRenaming", "BadRow", "BadRows", "BadSpelling", "BadWeb", "NoName", "NotFree", "NotFull", "NotMade", "NotOver", "UnlikeMany", "UnlikeWebs", "TooMany", "BadText", "BadJournal"]
abbrev HR : PySem.W.OpenRow := PySem.W.OpenLaw.row PySem.Challenge.rw_meankept_k21_numbers_and_errors
def htf : List He.Defn := [("_law_mr_number_faults", none)]
def excCB (K : PySem.W.Frag) (x : Str) : Bool := He.eqO (PySem.W.findIn K (.ref (He.ga K x)) "__getattribute__") (some (some (.builtin "BaseException.__getattribute__"))) && (He.eqO (PySem.W.findIn K (.ref (He.ga K x)) "__getattr__") (some none) &&
  (decide (PySem.W.subIn K (.ref (He.ga K x)) (.type "BaseException") = some true) && (PySem.W.hasDictIn K (He.ga K x) && (He.eqO (PySem.W.findIn K (.ref (He.ga K x)) "__class__") (some (some (.builtin "object.__class__"))) &&
  (He.eqO (PySem.W.specialIn K (.builtin "object.__class__") "__get__") (some (some (.builtin "getset_descriptor.__get__"))) && (decide (PySem.W.takesIn K (.builtin "object.__class__") = some true) && decide (PySem.W.mroIn K (He.ga K x) (.type "object") = some true)))))))
def kitB1 (K : PySem.W.Frag) (x : Str) : Bool := decide (PySem.W.kitOne K (.ref (He.ga K x)) (.ref (He.ga K x)) = some true)
def kitB2 (K : PySem.W.Frag) : Bool := nmsR.all fun x => nmsR.all fun y => decide (PySem.W.kitOne K (.ref (He.ga K x)) (.ref (He.ga K y)) = some (x == y))
def kitB3 (K : PySem.W.Frag) (x : Str) : Bool := decide (PySem.W.kitOne K (.ref (He.ga K x)) (.ref (He.ga K "KeepError")) = some true) && decide (PySem.W.kitOne K (.ref (He.ga K x)) (.type "ValueError") = some true)
def hex_ (K : PySem.W.Frag) : Bool := hfx.all (excCB K) && hfx.all (kitB1 K) && He.eqO (PySem.W.nsIn K mainGlobals "gcd") (some (some (.builtin "math.gcd"))) && hini.all (XU.iniB K HR.prog.main.file) && (nmsR.all (excCB K) && (kitB2 K && nmsR.all (kitB3 K)))
abbrev hk : PySem.W.Hook := XU.hookY 5 hfa hfn [] htf hex_ hini
def hob (s : PySem.W.SharedT) : XU.AlY := XU.obsY 5 hfa hfn [] htf hex_ hini (HandSHeadRun.getT s)
theorem hob_eq (s : PySem.W.SharedT) : hob s = hk.obs s.abs := XU.obsY_eq (HandSHeadRun.getT_eq s)
def hl1 : List Str := ["KeepError", "BadChange", "BadDeeds", "BadHouse", "BadJournal", "BadMove", "BadName", "BadNumber", "BadPlace", "BadPlaces", "BadRank", "BadRenaming", "BadRow", "BadRows", "BadSpelling"]
def hl2 : List Str := ["BadText", "BadWeb", "NoName", "NotFree", "NotFull", "NotMade", "NotOver", "TooMany", "UnlikeMany", "UnlikeWebs", "is_whole", "is_number", "number", "_law_begun", "_law_blended"]
def hl3 : List Str := ["_law_draw", "_law_pick", "_law_caught", "_law_is_truth", "_law_mk_gcd", "_law_mk_made", "_law_mk_is_number", "_law_mr_great", "_law_mr_near", "_law_mr_classes", "_law_mr_made", "_law_mr_errors_hold", "_law_mr_number_faults"]
def hloose : List Str := hl1 ++ hl2 ++ hl3
theorem hrun (w : World) : HandSHeadRun.RunEqI HR (PySem.W.view HR.prog [0, 48]) hk hob 12000 hloose w := by
  unfold HandSHeadRun.RunEqI
  kernel_rfl
end KP

set_option linter.all false
set_option maxRecDepth 100000
set_option maxHeartbeats 4000000
namespace KP
open PySem PySem.Spec PyProof.Rows L2 XA XB XC XD XM XE XF XG XV
def top (i : Nat) : Stmt := PySem.Challenge.pw_meankept_k21_numbers_and_errors.main.body.getD i (.Pass ⟨0, 0, 0, 0⟩)
/-- what the top holds: built-ins by their own names, constants, error classes -/
structure Bs (K : PySem.W.Frag) (mg : Str → Option Value) : Prop where
  n_isinstance : mg "isinstance" = none
  n_int : mg "int" = none
  n_bool : mg "bool" = none
  n_tuple : mg "tuple" = none
  n_list : mg "list" = none
  n_len : mg "len" = none
  n_abs : mg "abs" = none
  n_min : mg "min" = none
  n_range : mg "range" = none
  n_enumerate : mg "enumerate" = none
  n_str : mg "str" = none
  n_ValueError : mg "ValueError" = none
  t_gcd : mg "gcd" = some (.builtin "math.gcd")
  x_KeepError : Xc K mg "KeepError" (He.ga K "KeepError")
  x_BadChange : Xc K mg "BadChange" (He.ga K "BadChange")
  x_BadDeeds : Xc K mg "BadDeeds" (He.ga K "BadDeeds")
  x_BadHouse : Xc K mg "BadHouse" (He.ga K "BadHouse")
  x_BadMove : Xc K mg "BadMove" (He.ga K "BadMove")
  x_BadName : Xc K mg "BadName" (He.ga K "BadName")
  x_BadNumber : Xc K mg "BadNumber" (He.ga K "BadNumber")
  x_BadPlace : Xc K mg "BadPlace" (He.ga K "BadPlace")
  x_BadPlaces : Xc K mg "BadPlaces" (He.ga K "BadPlaces")
  x_BadRank : Xc K mg "BadRank" (He.ga K "BadRank")
  x_BadRenaming : Xc K mg "BadRenaming" (He.ga K "BadRenaming")
  x_BadRow : Xc K mg "BadRow" (He.ga K "BadRow")
  x_BadRows : Xc K mg "BadRows" (He.ga K "BadRows")
  x_BadSpelling : Xc K mg "BadSpelling" (He.ga K "BadSpelling")
  x_BadWeb : Xc K mg "BadWeb" (He.ga K "BadWeb")
  x_NoName : Xc K mg "NoName" (He.ga K "NoName")
  x_NotFree : Xc K mg "NotFree" (He.ga K "NotFree")
  x_NotFull : Xc K mg "NotFull" (He.ga K "NotFull")
  x_NotMade : Xc K mg "NotMade" (He.ga K "NotMade")
  x_NotOver : Xc K mg "NotOver" (He.ga K "NotOver")
  x_UnlikeMany : Xc K mg "UnlikeMany" (He.ga K "UnlikeMany")
  x_UnlikeWebs : Xc K mg "UnlikeWebs" (He.ga K "UnlikeWebs")
/-- what is known of error classes -/
structure Es (K : PySem.W.Frag) : Prop where
  m_BadChange : PySem.W.exmOne K (.ref (He.ga K "BadChange")) (.ref (He.ga K "KeepError")) = some true
  m_BadDeeds : PySem.W.exmOne K (.ref (He.ga K "BadDeeds")) (.ref (He.ga K "KeepError")) = some true
  m_BadHouse : PySem.W.exmOne K (.ref (He.ga K "BadHouse")) (.ref (He.ga K "KeepError")) = some true
  m_BadMove : PySem.W.exmOne K (.ref (He.ga K "BadMove")) (.ref (He.ga K "KeepError")) = some true
  m_BadName : PySem.W.exmOne K (.ref (He.ga K "BadName")) (.ref (He.ga K "KeepError")) = some true
  m_BadNumber : PySem.W.exmOne K (.ref (He.ga K "BadNumber")) (.ref (He.ga K "KeepError")) = some true
  m_BadPlace : PySem.W.exmOne K (.ref (He.ga K "BadPlace")) (.ref (He.ga K "KeepError")) = some true
  m_BadPlaces : PySem.W.exmOne K (.ref (He.ga K "BadPlaces")) (.ref (He.ga K "KeepError")) = some true
  m_BadRank : PySem.W.exmOne K (.ref (He.ga K "BadRank")) (.ref (He.ga K "KeepError")) = some true
  m_BadRenaming : PySem.W.exmOne K (.ref (He.ga K "BadRenaming")) (.ref (He.ga K "KeepError")) = some true
  m_BadRow : PySem.W.exmOne K (.ref (He.ga K "BadRow")) (.ref (He.ga K "KeepError")) = some true
  m_BadRows : PySem.W.exmOne K (.ref (He.ga K "BadRows")) (.ref (He.ga K "KeepError")) = some true
  m_BadSpelling : PySem.W.exmOne K (.ref (He.ga K "BadSpelling")) (.ref (He.ga K "KeepError")) = some true
  m_BadWeb : PySem.W.exmOne K (.ref (He.ga K "BadWeb")) (.ref (He.ga K "KeepError")) = some true
  m_NoName : PySem.W.exmOne K (.ref (He.ga K "NoName")) (.ref (He.ga K "KeepError")) = some true
  m_NotFree : PySem.W.exmOne K (.ref (He.ga K "NotFree")) (.ref (He.ga K "KeepError")) = some true
  m_NotFull : PySem.W.exmOne K (.ref (He.ga K "NotFull")) (.ref (He.ga K "KeepError")) = some true
  m_NotMade : PySem.W.exmOne K (.ref (He.ga K "NotMade")) (.ref (He.ga K "KeepError")) = some true
  m_NotOver : PySem.W.exmOne K (.ref (He.ga K "NotOver")) (.ref (He.ga K "KeepError")) = some true
  m_UnlikeMany : PySem.W.exmOne K (.ref (He.ga K "UnlikeMany")) (.ref (He.ga K "KeepError")) = some true
  m_UnlikeWebs : PySem.W.exmOne K (.ref (He.ga K "UnlikeWebs")) (.ref (He.ga K "KeepError")) = some true
  k_BadChange : PySem.W.kitOne K (.ref (He.ga K "BadChange")) (.ref (He.ga K "BadChange")) = some true
  k_BadDeeds : PySem.W.kitOne K (.ref (He.ga K "BadDeeds")) (.ref (He.ga K "BadDeeds")) = some true
  k_BadHouse : PySem.W.kitOne K (.ref (He.ga K "BadHouse")) (.ref (He.ga K "BadHouse")) = some true
  k_BadMove : PySem.W.kitOne K (.ref (He.ga K "BadMove")) (.ref (He.ga K "BadMove")) = some true
  k_BadName : PySem.W.kitOne K (.ref (He.ga K "BadName")) (.ref (He.ga K "BadName")) = some true
  k_BadNumber : PySem.W.kitOne K (.ref (He.ga K "BadNumber")) (.ref (He.ga K "BadNumber")) = some true
  k_BadPlace : PySem.W.kitOne K (.ref (He.ga K "BadPlace")) (.ref (He.ga K "BadPlace")) = some true
  k_BadPlaces : PySem.W.kitOne K (.ref (He.ga K "BadPlaces")) (.ref (He.ga K "BadPlaces")) = some true
  k_BadRank : PySem.W.kitOne K (.ref (He.ga K "BadRank")) (.ref (He.ga K "BadRank")) = some true
  k_BadRenaming : PySem.W.kitOne K (.ref (He.ga K "BadRenaming")) (.ref (He.ga K "BadRenaming")) = some true
  k_BadRow : PySem.W.kitOne K (.ref (He.ga K "BadRow")) (.ref (He.ga K "BadRow")) = some true
  k_BadRows : PySem.W.kitOne K (.ref (He.ga K "BadRows")) (.ref (He.ga K "BadRows")) = some true
  k_BadSpelling : PySem.W.kitOne K (.ref (He.ga K "BadSpelling")) (.ref (He.ga K "BadSpelling")) = some true
  k_BadWeb : PySem.W.kitOne K (.ref (He.ga K "BadWeb")) (.ref (He.ga K "BadWeb")) = some true
  k_NoName : PySem.W.kitOne K (.ref (He.ga K "NoName")) (.ref (He.ga K "NoName")) = some true
  k_NotFree : PySem.W.kitOne K (.ref (He.ga K "NotFree")) (.ref (He.ga K "NotFree")) = some true
  k_NotFull : PySem.W.kitOne K (.ref (He.ga K "NotFull")) (.ref (He.ga K "NotFull")) = some true
  k_NotMade : PySem.W.kitOne K (.ref (He.ga K "NotMade")) (.ref (He.ga K "NotMade")) = some true
  k_NotOver : PySem.W.kitOne K (.ref (He.ga K "NotOver")) (.ref (He.ga K "NotOver")) = some true
  k_UnlikeMany : PySem.W.kitOne K (.ref (He.ga K "UnlikeMany")) (.ref (He.ga K "UnlikeMany")) = some true
  k_UnlikeWebs : PySem.W.kitOne K (.ref (He.ga K "UnlikeWebs")) (.ref (He.ga K "UnlikeWebs")) = some true
local macro_rules | `(tactic| walk_at "rd") => `(tactic| repeat (first
  | (with_reducible refine rd_seq ?_) | (with_reducible refine rd_asg ?_) | ((with_reducible refine' rd_var ?hv ?_); (case hv => exact rfl)) | (with_reducible refine rd_c ?_) | (with_reducible refine rd_gn ?_)
  | (with_reducible refine rd_op ?_) | (with_reducible refine rd_un ?_) | (with_reducible refine rd_cons ?_) | (with_reducible refine rd_nil ?_) | (with_reducible refine rd_cl ?_) | (with_reducible refine rd_ck ?_) | (with_reducible refine rd_cb ?_)
  | (with_reducible refine rd_ret ?_) | (with_reducible refine rd_drop ?_) | (with_reducible refine rd_ifs ?_) | (with_reducible refine rd_if ?_) | (with_reducible refine rd_test ?_) | (with_reducible refine rd_tb ?_) | (with_reducible refine rd_and ?_) | (with_reducible refine rd_or ?_)
  | (with_reducible refine rd_not ?_) | (with_reducible refine rd_andV ?_) | (with_reducible refine rd_orV ?_) | (with_reducible refine rd_notV ?_) | (with_reducible refine rd_chain ?_) | (with_reducible refine rd_tup ?_) | (with_reducible refine rd_lst ?_)
  | (with_reducible refine rd_bm0 ?_) | (with_reducible refine rd_bm ?_) | (with_reducible refine rd_sl ?_) | (with_reducible refine rd_part ?_) | (with_reducible refine rd_nopart ?_) | (with_reducible refine rd_dget ?_) | (with_reducible refine rd_dput ?_)
  | (with_reducible refine rd_next ?_) | (with_reducible refine rd_lc ?_) | ((with_reducible refine' rd_aug ?hv ?_); (case hv => exact rfl)) | (with_reducible refine rd_cont ?_) | (with_reducible refine rd_gcons ?_) | (with_reducible refine rd_gnil ?_) | (with_reducible refine rd_ifT ?_) | (with_reducible refine rd_yes ?_) | (with_reducible refine rd_tru ?_) | (with_reducible refine rd_cntE ?_) | (with_reducible refine rd_rng1 ?_) | (with_reducible refine rd_lrg ?_) | (with_reducible refine rd_rg2 ?_) | (with_reducible refine rd_back ?_) | (with_reducible refine rd_disp ?_) | (with_reducible refine rd_prN ?_) | (with_reducible refine rd_prC ?_) | (with_reducible refine rd_par ?_) | (with_reducible refine rd_par3 ?_) | (with_reducible refine rd_two ?_) | (with_reducible refine rd_three ?_) | (with_reducible refine rd_one ?_) | (with_reducible refine rd_onei ?_) | (with_reducible refine rd_iL ?_) | (with_reducible refine rd_iT ?_) | (with_reducible refine rd_rng2 ?_) | (with_reducible refine rd_bl ?_) | (with_reducible refine rd_int ?_) | (with_reducible refine rd_I0 ?_) | (with_reducible refine rd_U ?_) | (with_reducible refine rd_din ?_) | (with_reducible refine rd_dnin ?_) | (with_reducible refine rd_dnew ?_) | (with_reducible refine rd_lset ?_) | (with_reducible refine rd_enT ?_) | (with_reducible refine rd_idx ?_) | (with_reducible refine rd_rg1 ?_) | (with_reducible refine rd_tupRg ?_)))

section
variable {P : Program} {w : World} {K : PySem.W.Frag} {mg : Str → Option Value} {base : Heap}
/-! ### plain_letters -/
theorem forU {i : Nat} {a : Addr} {xs : List V} {g : TG} {tb : TS} {D : Ends} {σ : L2.St} {H H0 : Hp} (Pv : Nat → L2.St → Hp → Prop) (hv : σ[i]? = some (some (.ref a))) (hS : SqT K H0 a xs ∨ SqL K H0 a xs) (hH : Same H0 H) (h0 : Pv 0 σ H) (hl : ∀ i σ H', i ≤ xs.length → Pv i σ H' → Same H0 H')
    (hs : ∀ i x σ H, xs[i]? = some x → Pv i σ H → g x σ H fun σ2 H2 => tb { D with nx := Pv (i + 1), ct := Pv (i + 1), bk := D.nx } σ2 H2) (hd : ∀ σ H, Pv xs.length σ H → D.nx σ H) : tFor (iU K (tVar i)) g tb D σ H :=
  hS.elim (fun q => forT Pv hv (sqT_same hH q) h0 (fun i σ H' l p => sqT_same (hl i σ H' l p) q) hs hd) fun q => forL Pv hv (hH.seq q) h0 (fun i σ H' l p => (hl i σ H' l p).seq q) hs hd
def spPlain (K : PySem.W.Frag) : Sp := fun vs H Q _ => ∃ (a : Addr) (xs : List Int), vs = [.ref a] ∧ (SqT K H a (xs.map V.int) ∨ SqL K H a (xs.map V.int)) ∧ xs.length ≤ 10000 ∧ ∀ p H', Same H H' → Tp H' p ((red xs).map V.int) → Q (.ref p) H'
/-! ### own: undone -/
def negV : V → V
  | .int i => .int (-i)
  | v => v
def spUndone (K : PySem.W.Frag) : Sp := fun vs H Q _ => ∃ (a : Addr) (xs : List Int), vs = [.ref a] ∧ SqT K H a (xs.map V.int) ∧ xs.length ≤ 10000 ∧ ∀ p H', Same H H' → Tp H' p ((inv xs).map V.int) → Q (.ref p) H'
theorem neg_map (xs : List Int) : ((xs.map V.int).reverse.filter (fun _ => true)).map negV = (inv xs).map V.int := by
  rw [List.filter_eq_self.mpr fun _ _ => rfl]
  simp [inv, List.map_reverse, Function.comp_def, negV]
theorem mem_int {xs : List Int} {x : V} (h : x ∈ (xs.map V.int).reverse) : ∃ z, x = .int z := by
  obtain ⟨z, _, e⟩ := List.mem_map.mp (List.mem_reverse.mp h)
  exact ⟨z, e.symm⟩
/-! ### is_whole and its like -/
def isI2 : Dat2 → Bool
  | .one d => d.isI
  | _ => false
def isB2 : Dat2 → Bool
  | .one d => d.isB
  | _ => false
theorem kit_int2 (d : Dat2) : kitB d.ty "int" = some (isI2 d) := by
  cases d with
  | one d => exact kit_int d
  | tups ds => simp only [Dat2.ty, isI2]; decide +kernel
  | lsts ds => simp only [Dat2.ty, isI2]; decide +kernel
theorem kit_bool2 (d : Dat2) : kitB d.ty "bool" = some (isB2 d) := by
  cases d with
  | one d => exact kit_bool d
  | tups ds => simp only [Dat2.ty, isB2]; decide +kernel
  | lsts ds => simp only [Dat2.ty, isB2]; decide +kernel
def wh2 (d : Dat2) : Bool := isI2 d && !isB2 d
def spWhole (K : PySem.W.Frag) : Sp := fun vs H Q _ => ∃ (v : V) (d : Dat2), vs = [v] ∧ Rp2 K H v d ∧ Q (.bl (wh2 d)) H
abbrev s_is_whole : Stmt := top 28
abbrev N_is_whole : List Str := ["value"]
theorem sc_is_whole : FnScope ["value"] ["value"] (defScope s_is_whole) := ⟨rfl, rfl, rfl, by decide +kernel, rfl, by decide +kernel, by decide +kernel⟩
theorem bd_is_whole : Bnd s_is_whole "is_whole" ["value"] := fun _ _ _ _ _ _ us hl => match us, hl with | [_], _ => rfl

theorem d_is_whole (T : Bs K mg) (R : Rw K mg "is_whole" s_is_whole) : Df P w K mg base CX0 1 "is_whole" s_is_whole ["value"] (spWhole K) := by
  refine mk0 R sc_is_whole bd_is_whole (fun vs H Q E h => ?_) fun f cdv A outer s H vs Q E hr h => ?_
  · obtain ⟨v, d, rfl, _⟩ := h; rfl
  obtain ⟨v, d, rfl, hv, q⟩ := h
  refine ⟨_, (pss_one (ps_ret (pe_and (pe_callB call_isU (by rfl) T.n_isinstance (by decide +kernel) (pa_cons (pv 0) (pa_cons (pe_bltn (v := .ty "int") (by rfl) T.n_int (by decide +kernel) rfl) pa_nil))) (pe_one (pe_not (pe_callB call_isU (by rfl) T.n_isinstance (by decide +kernel) (pa_cons (pv 0) (pa_cons (pe_bltn (v := .ty "bool") (by rfl) T.n_bool (by decide +kernel) rfl) pa_nil)))))))), ?_⟩
  walk_at "rd"
  refine rd_isT2 hv (kit_int2 d) ?_
  walk_at "rd"
  unfold wh2 at q
  refine rd_ite (fun e => ?_) fun e => ?_
  · walk_at "rd"
    refine rd_isT2 hv (kit_bool2 d) ?_
    walk_at "rd"
    rw [e] at q
    exact q
  · rw [e] at q
    exact q
def spFrom (K : PySem.W.Frag) : Sp := fun vs H Q _ => ∃ (v : V) (d : Dat) (lo hi : Int), vs = [v, .int lo, .int hi] ∧ Rp K H v d ∧ Q (.bl (d.from lo hi)) H
def spLetter (K : PySem.W.Frag) : Sp := fun vs H Q _ => ∃ (n : Int) (v : V) (d : Dat), vs = [.int n, v] ∧ Rp K H v d ∧ Q (.bl (d.letter n)) H
def spLRow (K : PySem.W.Frag) : Sp := fun vs H Q _ => ∃ (n : Int) (v : V) (d : Dat), vs = [.int n, v] ∧ Rp K H v d ∧ ∀ H', Same H H' → Q (.bl (d.row n)) H'
theorem let_map (n : Int) (xs : List V) : (xs.filter (fun _ => true)).map (fun x => V.bl (letV n x)) = (xs.map (letV n)).map V.bl := by
  rw [List.filter_eq_self.mpr fun _ _ => rfl, List.map_map] <;> rfl
def spARow (K : PySem.W.Frag) : Sp := fun vs H Q _ => ∃ (n : Int) (v : V) (d : Dat), vs = [.int n, v] ∧ Rp K H v d ∧ ∀ H', Same H H' → Q (.bl (d.lets n)) H'
/-! ### check_deeds -/
def Dat.deeds (d : Dat) : Bool := d.from 1 4
def spDeeds (K : PySem.W.Frag) : Sp := fun vs H Q E => ∃ (v : V) (d : Dat), vs = [v] ∧ Rp K H v d ∧ (d.from 1 4 = true → Q .non H) ∧ (d.from 1 4 = false → E (.ref (He.ga K "BadDeeds")) none H)
/-! ### own: rows' letters -/
def spTaken (K : PySem.W.Frag) : Sp := fun vs H Q E => ∃ (n : Int) (v : V) (d : Dat), vs = [.int n, v] ∧ Rp K H v d ∧
  (∀ xs : List Int, d = .tup (xs.map V.int) → d.row n = true → ∀ p H', Same H H' → Tp H' p ((red xs).map V.int) → Q (.ref p) H') ∧ (d.row n = false → ∀ H', Same H H' → E (.ref (He.ga K "BadRow")) none H')
theorem Dat.row_ints {n : Int} {d : Dat} (h : d.row n = true) : ∃ xs : List Int, d = .tup (xs.map V.int) ∧ xs.length ≤ 200 ∧ ∀ x ∈ xs, -n ≤ x ∧ x ≤ n ∧ x ≠ 0 := by
  cases d with
  | flat v => cases h
  | lst xs => cases h
  | dct => cases h
  | tup vs =>
    have h : (decide (vs.length ≤ 200) && vs.all (letV n)) = true := h
    obtain ⟨h1, h2⟩ := Bool.and_eq_true_iff.mp h
    have h1 := of_decide_eq_true h1
    have key : ∀ ws : List V, ws.all (letV n) = true → ∃ xs : List Int, ws = xs.map V.int ∧ ∀ x ∈ xs, -n ≤ x ∧ x ≤ n ∧ x ≠ 0 := by
      intro ws
      induction ws with
      | nil => intro _; exact ⟨[], rfl, fun _ z => nomatch z⟩
      | cons v r ih =>
        intro hw
        obtain ⟨a, b⟩ := Bool.and_eq_true_iff.mp (show (letV n v && r.all (letV n)) = true from hw)
        obtain ⟨xs, e, m⟩ := ih b
        cases v with
        | int i =>
          have a : (decide (-n ≤ i) && decide (i ≤ n) && !decide (i = 0)) = true := a
          simp only [Bool.and_eq_true, decide_eq_true_eq, Bool.not_eq_true', decide_eq_false_iff_not] at a
          refine ⟨i :: xs, by rw [e] <;> rfl, fun x hx => ?_⟩
          rcases List.mem_cons.mp hx with z | z
          · rw [z]; exact ⟨a.1.1, a.1.2, a.2⟩
          · exact m x z
        | _ => cases a
    obtain ⟨xs, e, m⟩ := key vs h2
    subst e
    exact ⟨xs, rfl, by simpa using h1, m⟩
end
end KP

set_option linter.all false
set_option maxRecDepth 100000
set_option maxHeartbeats 4000000
namespace KP
open PySem PySem.Spec PyProof.Rows L2 XA XB XC XD XM XE XF XG
local macro_rules | `(tactic| walk_at "rd") => `(tactic| repeat (first
  | (with_reducible refine rd_seq ?_) | (with_reducible refine rd_asg ?_) | ((with_reducible refine' rd_var ?hv ?_); (case hv => exact rfl)) | (with_reducible refine rd_c ?_) | (with_reducible refine rd_gn ?_)
  | (with_reducible refine rd_op ?_) | (with_reducible refine rd_un ?_) | (with_reducible refine rd_cons ?_) | (with_reducible refine rd_nil ?_) | (with_reducible refine rd_cl ?_) | (with_reducible refine rd_ck ?_) | (with_reducible refine rd_cb ?_)
  | (with_reducible refine rd_ret ?_) | (with_reducible refine rd_drop ?_) | (with_reducible refine rd_ifs ?_) | (with_reducible refine rd_if ?_) | (with_reducible refine rd_test ?_) | (with_reducible refine rd_tb ?_) | (with_reducible refine rd_and ?_) | (with_reducible refine rd_or ?_)
  | (with_reducible refine rd_not ?_) | (with_reducible refine rd_andV ?_) | (with_reducible refine rd_orV ?_) | (with_reducible refine rd_notV ?_) | (with_reducible refine rd_chain ?_) | (with_reducible refine rd_tup ?_) | (with_reducible refine rd_lst ?_)
  | (with_reducible refine rd_bm0 ?_) | (with_reducible refine rd_bm ?_) | (with_reducible refine rd_sl ?_) | (with_reducible refine rd_part ?_) | (with_reducible refine rd_nopart ?_) | (with_reducible refine rd_dget ?_) | (with_reducible refine rd_dput ?_)
  | (with_reducible refine rd_next ?_) | (with_reducible refine rd_lc ?_) | ((with_reducible refine' rd_aug ?hv ?_); (case hv => exact rfl)) | (with_reducible refine rd_cont ?_) | (with_reducible refine rd_gcons ?_) | (with_reducible refine rd_gnil ?_) | (with_reducible refine rd_ifT ?_) | (with_reducible refine rd_yes ?_) | (with_reducible refine rd_tru ?_) | (with_reducible refine rd_cntE ?_) | (with_reducible refine rd_rng1 ?_) | (with_reducible refine rd_lrg ?_) | (with_reducible refine rd_rg2 ?_) | (with_reducible refine rd_back ?_) | (with_reducible refine rd_disp ?_) | (with_reducible refine rd_prN ?_) | (with_reducible refine rd_prC ?_) | (with_reducible refine rd_par ?_) | (with_reducible refine rd_par3 ?_) | (with_reducible refine rd_two ?_) | (with_reducible refine rd_three ?_) | (with_reducible refine rd_one ?_) | (with_reducible refine rd_onei ?_) | (with_reducible refine rd_iL ?_) | (with_reducible refine rd_iT ?_) | (with_reducible refine rd_rng2 ?_) | (with_reducible refine rd_bl ?_) | (with_reducible refine rd_int ?_) | (with_reducible refine rd_I0 ?_) | (with_reducible refine rd_U ?_) | (with_reducible refine rd_din ?_) | (with_reducible refine rd_dnin ?_) | (with_reducible refine rd_dnew ?_) | (with_reducible refine rd_lset ?_) | (with_reducible refine rd_enT ?_) | (with_reducible refine rd_idx ?_) | (with_reducible refine rd_rg1 ?_) | (with_reducible refine rd_tupRg ?_)))

section
variable {P : Program} {w : World} {K : PySem.W.Frag} {mg : Str → Option Value} {base : Heap}
abbrev eDeeds (K : PySem.W.Frag) : Value := .ref (He.ga K "BadDeeds")
abbrev eRow (K : PySem.W.Frag) : Value := .ref (He.ga K "BadRow")
abbrev eNum (K : PySem.W.Frag) : Value := .ref (He.ga K "BadNumber")
/-! ### plain, undone, sums: one row -/
def spOne (K : PySem.W.Frag) (g : Int → List Int → List Int) : Sp := fun vs H Q E => ∃ (v1 : V) (d1 : Dat) (v2 : V) (d2 : Dat), vs = [v1, v2] ∧ Rp K H v1 d1 ∧ Rp K H v2 d2 ∧
  (d1.from 1 4 = false → E (eDeeds K) none H) ∧ ∀ n, d1 = .flat (.int n) → d1.from 1 4 = true → (d2.row n = false → ∀ H', Same H H' → E (eRow K) none H') ∧
    ∀ xs : List Int, d2 = .tup (xs.map V.int) → d2.row n = true → ∀ p H', Same H H' → Tp H' p ((g n xs).map V.int) → Q (.ref p) H'
/-! ### own: lengths -/
theorem row_len {n : Int} {xs : List Int} (h : (Dat.tup (xs.map V.int)).row n = true) : xs.length ≤ 200 := by
  have h : (decide ((xs.map V.int).length ≤ 200) && (xs.map V.int).all (letV n)) = true := h
  have := of_decide_eq_true (Bool.and_eq_true_iff.mp h).1
  simpa using this
/-! ### own: beside -/
def spBeside (K : PySem.W.Frag) : Sp := fun vs H Q E => ∃ (v1 : V) (d1 : Dat) (v2 : V) (d2 : Dat) (v3 : V) (d3 : Dat), vs = [v1, v2, v3] ∧ Rp K H v1 d1 ∧ Rp K H v2 d2 ∧ Rp K H v3 d3 ∧
  (d1.from 1 4 = false → E (eDeeds K) none H) ∧ ∀ n, d1 = .flat (.int n) → d1.from 1 4 = true → (d2.row n = false → ∀ H', Same H H' → E (eRow K) none H') ∧ (d3.row n = false → ∀ H', Same H H' → E (eRow K) none H') ∧
    ∀ xs ys : List Int, d2 = .tup (xs.map V.int) → d2.row n = true → d3 = .tup (ys.map V.int) → d3.row n = true → ∀ p H', Same H H' → Tp H' p ((red (red xs ++ red ys)).map V.int) → Q (.ref p) H'
/-! ### own: so many times -/
def rep (n : Int) (xs : List Int) : List Int := (List.replicate n.toNat xs).flatten
def times (xs : List Int) (n : Int) : List Int := if n < 0 then red (rep (-n) (inv xs)) else red (rep n xs)
def spTimes (K : PySem.W.Frag) : Sp := fun vs H Q E => ∃ (v1 : V) (d1 : Dat) (v2 : V) (d2 : Dat) (v3 : V) (d3 : Dat), vs = [v1, v2, v3] ∧ Rp K H v1 d1 ∧ Rp K H v2 d2 ∧ Rp K H v3 d3 ∧
  (d1.from 1 4 = false → E (eDeeds K) none H) ∧ ∀ n, d1 = .flat (.int n) → d1.from 1 4 = true → (d2.row n = false → ∀ H', Same H H' → E (eRow K) none H') ∧ (d2.row n = true → d3.from (-20) 20 = false → ∀ H', Same H H' → E (eNum K) none H') ∧
    ∀ (xs : List Int) (m : Int), d2 = .tup (xs.map V.int) → d2.row n = true → d3 = .flat (.int m) → d3.from (-20) 20 = true → ∀ p H', Same H H' → Tp H' p ((times (red xs) m).map V.int) → Q (.ref p) H'
/-! ### own: sums -/
def sumsOf (n : Int) (xs : List Int) : List Int := (List.range n.toNat).map fun (i : Nat) => bal (1 + (i : Int)) xs
end
end KP

set_option linter.all false
set_option maxRecDepth 100000
set_option maxHeartbeats 4000000
namespace KP
open PySem PySem.Spec PyProof.Rows L2 XA XB XC XD XM XE XF XG
local macro_rules | `(tactic| walk_at "rd") => `(tactic| repeat (first
  | (with_reducible refine rd_seq ?_) | (with_reducible refine rd_asg ?_) | ((with_reducible refine' rd_var ?hv ?_); (case hv => exact rfl)) | (with_reducible refine rd_c ?_) | (with_reducible refine rd_gn ?_)
  | (with_reducible refine rd_op ?_) | (with_reducible refine rd_un ?_) | (with_reducible refine rd_cons ?_) | (with_reducible refine rd_nil ?_) | (with_reducible refine rd_cl ?_) | (with_reducible refine rd_ck ?_) | (with_reducible refine rd_cb ?_)
  | (with_reducible refine rd_ret ?_) | (with_reducible refine rd_drop ?_) | (with_reducible refine rd_ifs ?_) | (with_reducible refine rd_if ?_) | (with_reducible refine rd_test ?_) | (with_reducible refine rd_tb ?_) | (with_reducible refine rd_and ?_) | (with_reducible refine rd_or ?_)
  | (with_reducible refine rd_not ?_) | (with_reducible refine rd_andV ?_) | (with_reducible refine rd_orV ?_) | (with_reducible refine rd_notV ?_) | (with_reducible refine rd_chain ?_) | (with_reducible refine rd_tup ?_) | (with_reducible refine rd_lst ?_)
  | (with_reducible refine rd_bm0 ?_) | (with_reducible refine rd_bm ?_) | (with_reducible refine rd_sl ?_) | (with_reducible refine rd_part ?_) | (with_reducible refine rd_nopart ?_) | (with_reducible refine rd_dget ?_) | (with_reducible refine rd_dput ?_)
  | (with_reducible refine rd_next ?_) | (with_reducible refine rd_lc ?_) | ((with_reducible refine' rd_aug ?hv ?_); (case hv => exact rfl)) | (with_reducible refine rd_cont ?_) | (with_reducible refine rd_gcons ?_) | (with_reducible refine rd_gnil ?_) | (with_reducible refine rd_ifT ?_) | (with_reducible refine rd_yes ?_) | (with_reducible refine rd_tru ?_) | (with_reducible refine rd_cntE ?_) | (with_reducible refine rd_rng1 ?_) | (with_reducible refine rd_lrg ?_) | (with_reducible refine rd_rg2 ?_) | (with_reducible refine rd_back ?_) | (with_reducible refine rd_disp ?_) | (with_reducible refine rd_prN ?_) | (with_reducible refine rd_prC ?_) | (with_reducible refine rd_par ?_) | (with_reducible refine rd_par3 ?_) | (with_reducible refine rd_two ?_) | (with_reducible refine rd_three ?_) | (with_reducible refine rd_one ?_) | (with_reducible refine rd_onei ?_) | (with_reducible refine rd_iL ?_) | (with_reducible refine rd_iT ?_) | (with_reducible refine rd_rng2 ?_) | (with_reducible refine rd_bl ?_) | (with_reducible refine rd_int ?_) | (with_reducible refine rd_I0 ?_) | (with_reducible refine rd_U ?_) | (with_reducible refine rd_din ?_) | (with_reducible refine rd_dnin ?_) | (with_reducible refine rd_dnew ?_) | (with_reducible refine rd_lset ?_) | (with_reducible refine rd_enT ?_) | (with_reducible refine rd_idx ?_) | (with_reducible refine rd_rg1 ?_) | (with_reducible refine rd_tupRg ?_)))

section
variable {P : Program} {w : World} {K : PySem.W.Frag} {mg : Str → Option Value} {base : Heap}
/-! ### the draws -/
def spBegun (K : PySem.W.Frag) : Sp := fun vs H Q _ => ∃ (a : Addr) (ns : List Int), vs = [.ref a] ∧ SqL K H a (ns.map V.int) ∧ ns.length ≤ 1000 ∧ ∀ s g c H', Same H H' → StAt 0 H' s g c → Q (.ref s) H'
theorem abs_ints (l : List V) (f : V → V) (h : ∀ x ∈ l, ∃ i, f x = .int i) : ∃ gs : List Int, l.map f = gs.map V.int := intsOf _ fun x hx => by
  obtain ⟨y, hy, rfl⟩ := List.mem_map.mp hx
  exact h y hy
def absV : V → V
  | .int i => .int (if i < 0 then -i else i)
  | v => v
def bigV : V → V
  | .int i => .int ((if i < 0 then -i else i) - 10 ^ 18)
  | v => v
def isBig : V → Bool
  | .int i => decide ((if i < 0 then -i else i) ≥ 10 ^ 18)
  | _ => false
theorem mem_i {xs : List Int} {x : V} (h : x ∈ xs.map V.int) : ∃ z, x = .int z := by
  obtain ⟨z, _, e⟩ := List.mem_map.mp h
  exact ⟨z, e.symm⟩
abbrev s__law_begun : Stmt := top 33
abbrev N__law_begun : List Str := ["script", "great", "cell"]
theorem sc__law_begun : FnScope ["script", "great", "cell"] ["script"] (defScope s__law_begun) := ⟨rfl, rfl, rfl, by decide +kernel, rfl, by decide +kernel, by decide +kernel⟩
theorem bd__law_begun : Bnd s__law_begun "_law_begun" ["script"] := fun _ _ _ _ _ _ us hl => match us, hl with | [_], _ => rfl

theorem d__law_begun (T : Bs K mg) (R : Rw K mg "_law_begun" s__law_begun) : Df P w K mg base CX0 1 "_law_begun" s__law_begun ["script"] (spBegun K) := by
  refine mk0 R sc__law_begun bd__law_begun (fun vs H Q E h => ?_) fun f cdv A outer s H vs Q E hr h => ?_
  · obtain ⟨a, ns, rfl, _⟩ := h; rfl
  obtain ⟨a, ns, rfl, hS, hz, q⟩ := h
  refine ⟨_, (pss_cons (ps_setLc (i := 1) (own := [("cell", 2)]) rfl sc__law_begun.nd rfl rfl (sw_true rfl rfl rfl (by decide +kernel)) (pi_U (pv 0)) (blkOk_by (own := [("cell", 2)]) (N := ["script", "great", "cell"]) (sc := defScope s__law_begun) (by decide +kernel)) (fun _ _ _ _ _ => (pg_name (i := 2) sc__law_begun.nd rfl (Or.inl rfl))) (fun _ _ _ _ _ => pts_one (pt_cmpR op_ge (pe_callB call_abs (by rfl) T.n_abs (by decide +kernel) (pa_cons (pv 2) pa_nil)) (pe_op op_pow pe_int pe_int) (nomark _))) (fun _ _ _ _ _ => (pe_op op_sub (pe_callB call_abs (by rfl) T.n_abs (by decide +kernel) (pa_cons (pv 2) pa_nil)) (pe_op op_pow pe_int pe_int))))
      (pss_one (ps_ret (pe_disp (pps_cons pe_str (pv 1) (pps_cons pe_str (pe_lc (own := [("cell", 2)]) rfl sc__law_begun.nd (pi_U (pv 0)) (blkOk_by (own := [("cell", 2)]) (N := ["script", "great", "cell"]) (sc := defScope s__law_begun) (by decide +kernel)) (fun _ _ _ _ _ => (pg_name (i := 2) sc__law_begun.nd rfl (Or.inl rfl))) (fun _ _ _ _ _ => pts_nil) (fun _ _ _ _ _ => (pe_callB call_abs (by rfl) T.n_abs (by decide +kernel) (pa_cons (pv 2) pa_nil)))) (pps_cons pe_str pe_int (pps_cons pe_str pe_int pps_nil)))) (by rfl) (by rfl) (fun z => by cases z) (by decide))))), ?_⟩
  walk_at "rd"
  refine .inl ⟨_, rfl, a, rfl, ⟨_, hS⟩, fun D hD => ?_⟩
  refine lc_pure walk_list hD (ns.map V.int) isBig bigV rfl (by simp only [List.length_map]; omega) (fun H' e => e.seq hS) (fun i H x H' hi y => y) (fun x H' hx e R R0 h1 h0 => ?_) fun H' e hD' => ?_
  · obtain ⟨z, rfl⟩ := mem_i hx
    walk_at "rd"
    refine ⟨rfl, ?_⟩
    walk_at "rd"
    refine rd_I pow18 ?_
    walk_at "rd"
    have h1 : (decide ((if z < 0 then -z else z) ≥ 10 ^ 18)) = true → ∀ H'', Same H' H'' → R (.int ((if z < 0 then -z else z) - 10 ^ 18)) H'' := h1
    have h0 : (decide ((if z < 0 then -z else z) ≥ 10 ^ 18)) = false → ∀ H'', Same H' H'' → R0 H'' := h0
    refine rd_ite (fun e1 => ?_) fun e1 => ?_
    · walk_at "rd"
      refine rd_I pow18 ?_
      walk_at "rd"
      exact h1 e1 _ (Same.refl _)
    · exact h0 e1 _ (Same.refl _)
  · walk_at "rd"
    refine fun p hp => ?_
    walk_at "rd"
    refine .inl ⟨_, rfl, a, rfl, ⟨_, (e.trans (same_new hp)).seq hS⟩, fun D2 hD2 => ?_⟩
    refine lc_pure walk_list hD2 (ns.map V.int) (fun _ => true) absV rfl (by simp only [List.length_map]; omega) (fun H' e2 => ((e.trans (same_new hp)).trans e2).seq hS) (fun i H x H' hi y => y) (fun x H' hx e R R0 h1 h0 => ?_) fun H2 e2 hD3 => ?_
    · obtain ⟨z, rfl⟩ := mem_i hx
      walk_at "rd"
      refine ⟨rfl, ?_⟩
      walk_at "rd"
      refine iteT ?_
      walk_at "rd"
      exact h1 rfl _ (Same.refl _)
    · walk_at "rd"
      have ep : H2 p = some (.dK []) := e2 _ _ upd_same
      refine ⟨ep, [(kG, .ref D), (kC, .ref D2), (kR, .int 0), (kT, .int 0)], rfl, by simp, ?_⟩
      rw [st_new]
      have e3 : Same H H2 := (e.trans (same_new hp)).trans e2
      have eD : H2 D = some (.lst (List.map bigV (List.filter isBig (List.map V.int ns)))) := e2 _ _ (same_new hp _ _ hD')
      have n1 : D ≠ p := ne_of eD ep (by intro z; cases z)
      have n2 : D2 ≠ p := ne_of hD3 ep (by intro z; cases z)
      have n3 : D2 ≠ D := fun z => by
        rw [z, same_new hp _ _ hD'] at hD2
        cases hD2
      obtain ⟨gs, eg⟩ := intsOf (List.map bigV (List.filter isBig (List.map V.int ns))) fun x hx => by
        obtain ⟨y, hy, rfl⟩ := List.mem_map.mp hx
        obtain ⟨z, rfl⟩ := mem_i (List.mem_filter.mp hy).1
        exact ⟨_, rfl⟩
      obtain ⟨cs, ec⟩ := intsOf (List.map absV (List.filter (fun _ => true) (List.map V.int ns))) fun x hx => by
        obtain ⟨y, hy, rfl⟩ := List.mem_map.mp hx
        obtain ⟨z, rfl⟩ := mem_i (List.mem_filter.mp hy).1
        exact ⟨_, rfl⟩
      have lg := congrArg List.length eg
      have lc := congrArg List.length ec
      have l1 := List.length_filter_le isBig (List.map V.int ns)
      have l2 := List.length_filter_le (fun _ => true) (List.map V.int ns)
      simp only [List.length_map] at lg lc l1 l2
      rw [eg] at eD
      rw [ec] at hD3
      exact q p D D2 _ (same_mut e3 (none_of e hp)) ⟨0, 0, gs, cs, upd_same, by rw [upd_ne n1]; exact eD, by rw [upd_ne n2]; exact hD3, n3, by omega, by omega, by omega, by omega⟩

/-! ### _law_blended -/
def spBlended (K : PySem.W.Frag) : Sp := fun vs H Q _ => ∃ (s g c : Addr) (r t : Int) (cs : List Int), vs = [.ref s] ∧ H s = some (.dK (stD g c r t)) ∧ H c = some (.lst (cs.map V.int)) ∧ cs.length ≤ 1000 ∧ 0 ≤ t ∧ t < 1000000 ∧
  ∀ v H', H' s = some (.dK (stD g c r (t + 1))) → Kept s s H H' → Q (.int v) H'
abbrev s__law_blended : Stmt := top 34
abbrev N__law_blended : List Str := ["state", "turn", "found", "prime", "blend", "cell"]
theorem sc__law_blended : FnScope ["state", "turn", "found", "prime", "blend", "cell"] ["state"] (defScope s__law_blended) := ⟨rfl, rfl, rfl, by decide +kernel, rfl, by decide +kernel, by decide +kernel⟩
theorem bd__law_blended : Bnd s__law_blended "_law_blended" ["state"] := fun _ _ _ _ _ _ us hl => match us, hl with | [_], _ => rfl

theorem d__law_blended (T : Bs K mg) (R : Rw K mg "_law_blended" s__law_blended) : Df P w K mg base CX0 1 "_law_blended" s__law_blended ["state"] (spBlended K) := by
  refine mk0 R sc__law_blended bd__law_blended (fun vs H Q E h => ?_) fun f cdv A outer sh H vs Q E hr h => ?_
  · obtain ⟨s, g, c, r, t, cs, rfl, _⟩ := h; rfl
  obtain ⟨s, g, c, r, t, cs, rfl, hs, hc, hz, ht, hT, q⟩ := h
  have hu := lt1 hr.units
  refine ⟨_, (pss_cons (ps_par (i := 1) (j := 2) rfl sc__law_blended.nd rfl rfl (by decide) rfl rfl (pa_cons (pe_op op_addU (pe_dget hu (pv 0) pe_str (fun _ _ => rfl)) pe_int) (pa_cons pe_int pa_nil)) (by rfl))
      (pss_cons (ps_dput hu (pv 0) pe_str (pv 1) rfl)
      (pss_cons (ps_for PassesOwn.never rfl (pi_U (pe_lst (pa_cons pe_int (pa_cons pe_int (pa_cons pe_int pa_nil))))) (pg_name (i := 3) sc__law_blended.nd rfl (Or.inl rfl))
        (pss_cons (ps_set (i := 4) sc__law_blended.nd rfl (Or.inl rfl) (pe_op op_addU (pe_op op_mulU pe_int (pv 1)) (pe_op op_fdivN (pv 3) pe_int)))
        (pss_cons (ps_for PassesOwn.never rfl (pi_U (pe_dget hu (pv 0) pe_str (fun _ _ => rfl))) (pg_name (i := 5) sc__law_blended.nd rfl (Or.inl rfl))
          (pss_one (ps_set (i := 4) sc__law_blended.nd rfl (Or.inl rfl) (pe_op op_modN (pe_callTy call_int1 (by rfl) T.n_int (by decide +kernel) (pa_cons (pe_op op_addU (pe_op op_addU (pe_op op_mulU (pv 4) pe_int) (pv 5)) (pv 1)) pa_nil)) (pv 3)))))
        (pss_one (ps_set (i := 2) sc__law_blended.nd rfl (Or.inl rfl) (pe_op op_addU (pe_op op_mulU (pv 2) pe_int) (pe_op op_modN (pe_callTy call_int1 (by rfl) T.n_int (by decide +kernel) (pa_cons (pe_op op_pow (pv 4) pe_int) pa_nil)) (pv 3))))))))
      (pss_one (ps_ret (pv 2)))))), ?_⟩
  walk_at "rd"
  refine ⟨s, .int t, rfl, by rw [← at_T (g := g) (c := c) (r := r)]; exact DGet.k (k := kT) hs, ?_⟩
  walk_at "rd"
  refine rd_addI ?_
  walk_at "rd"
  refine ⟨s, _, rfl, DPut.k (k := kT) hs (by show 4 < sizeLine; decide), ?_⟩
  rw [put_T]
  walk_at "rd"
  refine .inl ?_
  walk_at "rd"
  refine ⟨lz (by simp), fun p hp => ?_⟩
  have n1 : s ≠ p := ne_of_none upd_same hp
  have n2 : c ≠ s := ne_of hc hs (by intro z; cases z)
  have n3 : c ≠ p := ne_of_none (by rw [upd_ne n2]; exact hc) hp
  have ec : upd (upd H s (.dK (stD g c r (t + 1)))) p (.lst [.int 2147483579, .int 2147483629, .int 2147483563]) c = some (.lst (cs.map V.int)) := by rw [upd_ne n3, upd_ne n2]; exact hc
  have es : upd (upd H s (.dK (stD g c r (t + 1)))) p (.lst [.int 2147483579, .int 2147483629, .int 2147483563]) s = some (.dK (stD g c r (t + 1))) := by rw [upd_ne n1, upd_same]
  have hk : XE.Kept s s H (upd (upd H s (.dK (stD g c r (t + 1)))) p (.lst [.int 2147483579, .int 2147483629, .int 2147483563])) := fun b o e m _ => by
    have e2 : upd H s (.dK (stD g c r (t + 1))) b = some o := by rw [upd_ne m]; exact e
    rw [upd_ne (ne_of_none e2 hp), e2]
  refine ⟨p, rfl, ⟨_, .inl (.inl upd_same)⟩, ?_⟩
  have ep : upd (upd H s (.dK (stD g c r (t + 1)))) p (.lst [.int 2147483579, .int 2147483629, .int 2147483563]) p = some (.lst [.int 2147483579, .int 2147483629, .int 2147483563]) := upd_same
  generalize upd (upd H s (.dK (stD g c r (t + 1)))) p (.lst [.int 2147483579, .int 2147483629, .int 2147483563]) = H1 at ec es hk ep ⊢
  refine for_list (xs := [.int 2147483579, .int 2147483629, .int 2147483563]) (fun i σ H' => ∃ (fd : Int) (y1 y2 y3 : Option V), σ = [some (.ref s), some (.int (t + 1)), some (.int fd), y1, y2, y3] ∧ H' = H1) ⟨0, none, none, none, rfl, rfl⟩
    (fun i σ H' _ h => ?_) (fun i x σ H' hx h => ?_) (fun σ H' h => ?_)
  · obtain ⟨fd, y1, y2, y3, rfl, rfl⟩ := h
    exact .inl (.inl ep)
  · obtain ⟨fd, y1, y2, y3, rfl, rfl⟩ := h
    obtain ⟨pr, rfl, p1, p2⟩ : ∃ pr : Int, x = .int pr ∧ 0 < pr ∧ pr < 2 ^ 32 := by
      rcases List.mem_cons.mp (List.mem_of_getElem? hx) with e | e
      · exact ⟨_, e, by decide, by decide⟩
      rcases List.mem_cons.mp e with e | e
      · exact ⟨_, e, by decide, by decide⟩
      rcases List.mem_cons.mp e with e | e
      · exact ⟨_, e, by decide, by decide⟩
      · cases e
    walk_at "rd"
    refine rd_mulI (.inl ⟨by decide, by decide⟩) ?_
    walk_at "rd"
    refine rd_I ⟨by decide, by decide⟩ ?_
    walk_at "rd"
    refine rd_addI ?_
    walk_at "rd"
    have b0 : (48271 * (t + 1) + pr.fdiv 53).natAbs < 2 ^ 62 := by
      have e : pr.fdiv 53 = pr / 53 := Int.fdiv_eq_ediv_of_nonneg _ (by decide)
      rw [e]
      omega
    refine .inl ?_
    walk_at "rd"
    refine ⟨s, .ref c, rfl, by rw [← at_C (g := g) (c := c) (r := r) (t := t + 1)]; exact DGet.k (k := kC) es, c, rfl, ⟨_, .inl (.inl ec)⟩, ?_⟩
    refine for_list (xs := cs.map V.int) (fun i σ H'' => ∃ (bl : Int) (y3 : Option V), σ = [some (.ref s), some (.int (t + 1)), some (.int fd), some (.int pr), some (.int bl), y3] ∧ H'' = H' ∧ bl.natAbs < 2 ^ 62) ⟨_, y3, rfl, rfl, b0⟩
      (fun i σ H' _ h => ?_) (fun i x σ H' hx h => ?_) (fun σ H' h => ?_)
    · obtain ⟨bl, y3, rfl, rfl, b⟩ := h
      exact .inl (.inl ec)
    · obtain ⟨bl, y3, rfl, rfl, b⟩ := h
      obtain ⟨z, hz2, rfl⟩ := item_of hx
      walk_at "rd"
      refine rd_mulI (.inr ⟨by decide, by decide⟩) ?_
      walk_at "rd"
      refine rd_addI ?_
      walk_at "rd"
      refine rd_addI ?_
      walk_at "rd"
      refine .inl ⟨_, rfl, ?_⟩
      walk_at "rd"
      refine rd_I (by omega) ?_
      walk_at "rd"
      refine ⟨_, _, rfl, rfl, ?_⟩
      have e : (bl * 69621 + z + (t + 1)).fmod pr = (bl * 69621 + z + (t + 1)) % pr := Int.fmod_eq_emod_of_nonneg _ (by omega)
      rw [e]
      have a1 := Int.emod_nonneg (bl * 69621 + z + (t + 1)) (show pr ≠ 0 by omega)
      have a2 := Int.emod_lt_of_pos (bl * 69621 + z + (t + 1)) p1
      omega
    · obtain ⟨bl, y3, rfl, rfl, b⟩ := h
      walk_at "rd"
      refine rd_mulI (.inr ⟨by decide, by decide⟩) ?_
      walk_at "rd"
      refine rd_I ⟨by decide, by decide, by omega⟩ ?_
      walk_at "rd"
      refine .inl ⟨_, rfl, ?_⟩
      walk_at "rd"
      refine rd_I (by omega) ?_
      walk_at "rd"
      refine rd_addI ?_
      walk_at "rd"
      exact ⟨_, _, _, _, rfl, rfl⟩
  · obtain ⟨fd, y1, y2, y3, rfl, rfl⟩ := h
    walk_at "rd"
    exact q _ _ es hk
end
end KP

set_option linter.all false
set_option maxRecDepth 100000
/-! XDz: // by wide divisors of either sign. -/
namespace XDz
open PySem PySem.Spec PyProof.Rows L2
/-- // by any divisor but 0 of less than 9000 bits -/
def CDivZ (_ j : Int) : Prop := j ≠ 0 ∧ j.natAbs.log2 < 9000
theorem op_fdivZ {X : Cx} : OpR X (binaryOp .FloorDiv) (rI CDivZ fun i j => .int (i.fdiv j)) := opI fun i j _ _ _ _ _ hc q => floordiv_int hc.1 q (.inl (PyProof.noPylong_of_log2 hc.2))
theorem divZ {i j : Int} (h : j ≠ 0) (hb : j.natAbs < 2 ^ 200) : CDivZ i j := ⟨h, Nat.lt_of_lt_of_le (PySem.Flt.log2_lt_of (k := 200) (by decide) hb) (by decide)⟩
end XDz

set_option linter.all false
set_option maxRecDepth 100000
set_option maxHeartbeats 4000000
namespace KP
open PySem PySem.Spec PyProof.Rows L2 XA XB XC XD XM XE XF XG XDz
local macro_rules | `(tactic| walk_at "rd") => `(tactic| repeat (first
  | (with_reducible refine rd_seq ?_) | (with_reducible refine rd_asg ?_) | ((with_reducible refine' rd_var ?hv ?_); (case hv => exact rfl)) | (with_reducible refine rd_c ?_) | (with_reducible refine rd_gn ?_)
  | (with_reducible refine rd_op ?_) | (with_reducible refine rd_un ?_) | (with_reducible refine rd_cons ?_) | (with_reducible refine rd_nil ?_) | (with_reducible refine rd_cl ?_) | (with_reducible refine rd_ck ?_) | (with_reducible refine rd_cb ?_)
  | (with_reducible refine rd_ret ?_) | (with_reducible refine rd_drop ?_) | (with_reducible refine rd_ifs ?_) | (with_reducible refine rd_if ?_) | (with_reducible refine rd_test ?_) | (with_reducible refine rd_tb ?_) | (with_reducible refine rd_and ?_) | (with_reducible refine rd_or ?_)
  | (with_reducible refine rd_not ?_) | (with_reducible refine rd_andV ?_) | (with_reducible refine rd_orV ?_) | (with_reducible refine rd_notV ?_) | (with_reducible refine rd_chain ?_) | (with_reducible refine rd_tup ?_) | (with_reducible refine rd_lst ?_)
  | (with_reducible refine rd_bm0 ?_) | (with_reducible refine rd_bm ?_) | (with_reducible refine rd_sl ?_) | (with_reducible refine rd_part ?_) | (with_reducible refine rd_nopart ?_) | (with_reducible refine rd_dget ?_) | (with_reducible refine rd_dput ?_)
  | (with_reducible refine rd_next ?_) | (with_reducible refine rd_lc ?_) | ((with_reducible refine' rd_aug ?hv ?_); (case hv => exact rfl)) | (with_reducible refine rd_cont ?_) | (with_reducible refine rd_gcons ?_) | (with_reducible refine rd_gnil ?_) | (with_reducible refine rd_ifT ?_) | (with_reducible refine rd_yes ?_) | (with_reducible refine rd_tru ?_) | (with_reducible refine rd_cntE ?_) | (with_reducible refine rd_rng1 ?_) | (with_reducible refine rd_lrg ?_) | (with_reducible refine rd_rg2 ?_) | (with_reducible refine rd_back ?_) | (with_reducible refine rd_disp ?_) | (with_reducible refine rd_prN ?_) | (with_reducible refine rd_prC ?_) | (with_reducible refine rd_par ?_) | (with_reducible refine rd_par3 ?_) | (with_reducible refine rd_two ?_) | (with_reducible refine rd_three ?_) | (with_reducible refine rd_one ?_) | (with_reducible refine rd_onei ?_) | (with_reducible refine rd_iL ?_) | (with_reducible refine rd_iT ?_) | (with_reducible refine rd_rng2 ?_) | (with_reducible refine rd_bl ?_) | (with_reducible refine rd_int ?_) | (with_reducible refine rd_I0 ?_) | (with_reducible refine rd_U ?_) | (with_reducible refine rd_din ?_) | (with_reducible refine rd_dnin ?_) | (with_reducible refine rd_dnew ?_) | (with_reducible refine rd_lset ?_) | (with_reducible refine rd_enT ?_) | (with_reducible refine rd_idx ?_) | (with_reducible refine rd_rg1 ?_) | (with_reducible refine rd_tupRg ?_)))

section
variable {P : Program} {w : World} {K : PySem.W.Frag} {mg : Str → Option Value} {base : Heap}
/-! ### _law_draw -/
def spDraw (K : PySem.W.Frag) : Sp := fun vs H Q _ => ∃ (s g c : Addr) (n : Nat) (room : Int), vs = [.ref s, .int room] ∧ StAt n H s g c ∧ n < 1000000 ∧ 0 < room ∧ room < 10 ^ 16 ∧
  ∀ r H', 0 ≤ r → r < room → StAt (n + 1) H' s g c → XE.Kept s g H H' → Q (.int r) H'
abbrev s__law_draw : Stmt := top 35
abbrev N__law_draw : List Str := ["state", "room", "found"]
theorem sc__law_draw : FnScope ["state", "room", "found"] ["state", "room"] (defScope s__law_draw) := ⟨rfl, rfl, rfl, by decide +kernel, rfl, by decide +kernel, by decide +kernel⟩
theorem bd__law_draw : Bnd s__law_draw "_law_draw" ["state", "room"] := fun _ _ _ _ _ _ us hl => match us, hl with | [_, _], _ => rfl

theorem d__law_draw (T : Bs K mg) (R : Rw K mg "_law_draw" s__law_draw) (D__law_blended : Df P w K mg base CX0 1 "_law_blended" s__law_blended ["state"] (spBlended K)) :
    Df P w K mg base CX0 2 "_law_draw" s__law_draw ["state", "room"] (spDraw K) := by
  refine mk0 R sc__law_draw bd__law_draw (fun vs H Q E h => ?_) fun f cdv A outer sh H vs Q E hr h => ?_
  · obtain ⟨s, g, c, n, room, rfl, _⟩ := h; rfl
  obtain ⟨s, g, c, n, room, rfl, hS, hn, hr0, hr1, q⟩ := h
  have hu := lt1 hr.units
  refine ⟨_, (pss_cons (ps_if (pt_cmpR (op_eqU hr.units) (pe_dget hu (pv 0) pe_str (fun _ _ => rfl)) pe_int (nomark _)) (pss_one (ps_dput hu (pv 0) pe_str (pe_ifExp (pt_cmpR (op_neU hr.units) (pe_dget hu (pv 0) pe_str (fun _ _ => rfl)) (pe_lst pa_nil) (nomark _)) (pe_bm PySem.F.plainAttrs_list PySem.F.slot_list_pop PySem.F.type_list_pop mt_popAt (pe_dget hu (pv 0) pe_str (fun _ _ => rfl)) (pa_cons pe_int pa_nil)) (pe_d D__law_blended hr (by decide) (by rfl) pass0 (pa_cons (pv 0) pa_nil))) rfl)) pss_nil)
      (pss_cons (ps_set (i := 2) sc__law_draw.nd rfl (Or.inl rfl) (pe_op op_modN (pe_callTy call_int1 (by rfl) T.n_int (by decide +kernel) (pa_cons (pe_dget hu (pv 0) pe_str (fun _ _ => rfl)) pa_nil)) (pv 1)))
      (pss_cons (ps_dput hu (pv 0) pe_str (pe_op op_fdivZ (pe_dget hu (pv 0) pe_str (fun _ _ => rfl)) (pv 1)) rfl)
      (pss_one (ps_ret (pv 2)))))), ?_⟩
  obtain ⟨r, t, gs, cs, h1, h2, h3, n1, l1, l2, t0, t1⟩ := hS
  have fin : ∀ (H1 : Hp) (r1 t1 : Int) (gs1 : List Int), H1 s = some (.dK (stD g c r1 t1)) → H1 g = some (.lst (gs1.map V.int)) → XE.Kept s g H H1 → gs1.length ≤ 1000 → 0 ≤ t1 → t1 ≤ ((n + 1 : Nat) : Int) →
      ∀ v, StAt (n + 1) (upd H1 s (.dK (stD g c v t1))) s g c ∧ XE.Kept s g H (upd H1 s (.dK (stD g c v t1))) := by
    intro H1 r1 t1 gs1 a1 a2 a3 a4 a5 a6 v
    have m1 : g ≠ s := ne_of a2 a1 (by intro z; cases z)
    have m2 : H1 c = some (.lst (cs.map V.int)) := a3 _ _ h3 (ne_of h3 h1 (by intro z; cases z)) n1
    have m3 : c ≠ s := ne_of m2 a1 (by intro z; cases z)
    exact ⟨⟨v, t1, gs1, cs, upd_same, by rw [upd_ne m1]; exact a2, by rw [upd_ne m3]; exact m2, n1, l1, a4, a5, a6⟩, a3.trans fun b o e m _ => by rw [upd_ne m]; exact e⟩
  walk_at "rd"
  refine ⟨s, .int r, rfl, by rw [← at_R (g := g) (c := c) (t := t)]; exact DGet.k (k := kR) h1, ?_⟩
  walk_at "rd"
  refine rd_eqI ?_
  walk_at "rd"
  refine rd_join (C := fun H1 => ∃ (r1 t1 : Int) (gs1 : List Int), H1 s = some (.dK (stD g c r1 t1)) ∧ H1 g = some (.lst (gs1.map V.int)) ∧ XE.Kept s g H H1 ∧ gs1.length ≤ 1000 ∧ 0 ≤ t1 ∧ t1 ≤ ((n + 1 : Nat) : Int)) (fun H1 hc => ?_) fun key => ?_
  · obtain ⟨r1, t1, gs1, a1, a2, a3, a4, a5, a6⟩ := hc
    have f1 := fin H1 r1 t1 gs1 a1 a2 a3 a4 a5 a6
    dsimp only
    walk_at "rd"
    refine ⟨s, .int r1, rfl, by rw [← at_R (g := g) (c := c) (t := t1)]; exact DGet.k (k := kR) a1, ?_⟩
    refine .inl ⟨_, rfl, ?_⟩
    walk_at "rd"
    refine rd_I (by omega) ?_
    walk_at "rd"
    refine ⟨s, .int r1, rfl, by rw [← at_R (g := g) (c := c) (t := t1)]; exact DGet.k (k := kR) a1, ?_⟩
    walk_at "rd"
    refine rd_I (divZ (by omega) (Nat.lt_of_lt_of_le (show room.natAbs < 10 ^ 16 by omega) (by decide))) ?_
    walk_at "rd"
    refine ⟨s, _, rfl, DPut.k (k := kR) a1 (by show 4 < sizeLine; decide), ?_⟩
    rw [put_R]
    walk_at "rd"
    have e : r1.fmod room = r1 % room := Int.fmod_eq_emod_of_nonneg _ (by omega)
    exact q _ _ (by rw [e]; exact Int.emod_nonneg _ (by omega)) (by rw [e]; exact Int.emod_lt_of_pos _ hr0) (f1 _).1 (f1 _).2
  · refine rd_ite (fun e => ?_) fun e => ?_
    · walk_at "rd"
      refine ⟨s, .ref g, rfl, by rw [← at_G (g := g) (c := c) (r := r) (t := t)]; exact DGet.k (k := kG) h1, ?_⟩
      walk_at "rd"
      refine ⟨lz (by simp), fun p hp => ?_⟩
      have n2 : s ≠ p := ne_of_none h1 hp
      have n3 : g ≠ p := ne_of_none h2 hp
      have n4 : g ≠ s := ne_of h2 h1 (by intro z; cases z)
      have e1 : upd H p (.lst []) s = some (.dK (stD g c r t)) := by rw [upd_ne n2]; exact h1
      have e2 : upd H p (.lst []) g = some (.lst (gs.map V.int)) := by rw [upd_ne n3]; exact h2
      refine neL (ys := []) (.inl (.inl e2)) (.inl (.inl upd_same)) ?_
      walk_at "rd"
      have k0 : Same H (upd H p (.lst [])) := same_new hp
      generalize upd H p (.lst []) = H1 at e1 e2 k0 ⊢
      cases gs with
      | nil =>
        refine iteF ?_
        walk_at "rd"
        refine ⟨s, g, c, r, t, cs, rfl, e1, k0 _ _ h3, l1, t0, by omega, fun v H2 b1 b2 => ?_⟩
        walk_at "rd"
        refine ⟨s, _, rfl, DPut.k (k := kR) b1 (by show 4 < sizeLine; decide), ?_⟩
        rw [put_R]
        have b3 := b2 _ _ e2 n4 n4
        exact key (upd H2 s (.dK (stD g c v (t + 1)))) ⟨v, t + 1, [], upd_same, by rw [upd_ne n4]; exact b3, (XE.Kept.of k0).trans fun b o e m m2 => by rw [upd_ne m]; exact b2 _ _ e m m, by simp, by omega, by omega⟩
      | cons x gs =>
        refine iteT ?_
        walk_at "rd"
        refine ⟨s, .ref g, rfl, by rw [← at_G (g := g) (c := c) (r := r) (t := t)]; exact DGet.k (k := kG) e1, ?_⟩
        refine ⟨tyl e2, ?_⟩
        walk_at "rd"
        refine ⟨g, _, 0, 0, .int x, rfl, rfl, e2, by omega, by omega, by simp [seqIndex?], rfl, ?_⟩
        have e3 : upd H1 g (.lst (gs.map V.int)) s = some (.dK (stD g c r t)) := by rw [upd_ne (Ne.symm n4)]; exact e1
        walk_at "rd"
        refine ⟨s, _, rfl, DPut.k (k := kR) e3 (by show 4 < sizeLine; decide), ?_⟩
        rw [put_R]
        refine key (upd (upd H1 g (.lst (gs.map V.int))) s (.dK (stD g c x t))) ⟨x, t, gs, upd_same, by rw [upd_ne n4, upd_same], (XE.Kept.of k0).trans fun b o e m m2 => by rw [upd_ne m, upd_ne m2]; exact e, ?_, by omega, by omega⟩
        simp only [List.length_cons] at l2
        omega
    · exact key _ ⟨r, t, gs, h1, h2, XE.Kept.refl, l2, t0, by omega⟩
/-! ### _law_pick -/
def spPick (K : PySem.W.Frag) : Sp := fun vs H Q _ => ∃ (s g c a : Addr) (n : Nat) (xs : List V), vs = [.ref s, .ref a] ∧ StAt n H s g c ∧ n < 1000000 ∧ SqL K H a xs ∧ a ≠ g ∧ xs ≠ [] ∧ xs.length < 1000 ∧
  ∀ x H', x ∈ xs → StAt (n + 1) H' s g c → XE.Kept s g H H' → Q x H'
abbrev s__law_pick : Stmt := top 36
abbrev N__law_pick : List Str := ["state", "some"]
theorem sc__law_pick : FnScope ["state", "some"] ["state", "some"] (defScope s__law_pick) := ⟨rfl, rfl, rfl, by decide +kernel, rfl, by decide +kernel, by decide +kernel⟩
theorem bd__law_pick : Bnd s__law_pick "_law_pick" ["state", "some"] := fun _ _ _ _ _ _ us hl => match us, hl with | [_, _], _ => rfl

theorem d__law_pick (T : Bs K mg) (R : Rw K mg "_law_pick" s__law_pick) (D__law_draw : Df P w K mg base CX0 2 "_law_draw" s__law_draw ["state", "room"] (spDraw K)) :
    Df P w K mg base CX0 3 "_law_pick" s__law_pick ["state", "some"] (spPick K) := by
  refine mk0 R sc__law_pick bd__law_pick (fun vs H Q E h => ?_) fun f cdv A outer sh H vs Q E hr h => ?_
  · obtain ⟨s, g, c, a, n, xs, rfl, _⟩ := h; rfl
  obtain ⟨s, g, c, a, n, xs, rfl, hS, hn, hL, na, hx, hz, q⟩ := h
  refine ⟨_, (pss_one (ps_ret (pe_ix ix_seq (pv 1) (pe_d D__law_draw hr (by decide) (by rfl) pass0 (pa_cons (pv 0) (pa_cons (pe_callB call_len (by rfl) T.n_len (by decide +kernel) (pa_cons (pv 1) pa_nil)) pa_nil))) (fun _ _ => rfl)))), ?_⟩
  walk_at "rd"
  refine lenL hL ?_
  have hp : 0 < xs.length := List.length_pos_iff.mpr hx
  walk_at "rd"
  refine ⟨s, g, c, n, (xs.length : Int), rfl, hS, hn, by omega, by omega, fun r H' r0 r1 S1 k1 => ?_⟩
  obtain ⟨i, rfl⟩ : ∃ i : Nat, r = (i : Int) := ⟨r.toNat, by omega⟩
  have hi : i < xs.length := by omega
  have ha : atI xs (i : Int) = some xs[i] := by
    have h1 : ixN xs.length (i : Int) = some i := by
      unfold ixN
      rw [if_pos (by omega), if_pos (by omega)]
      all_goals rfl
    unfold atI
    rw [h1]
    exact List.getElem?_eq_getElem hi
  exact rd_ixL (k1.sqL hS hL na) ha (q _ _ (List.getElem_mem hi) S1 k1)
end
end KP

set_option linter.all false
set_option maxRecDepth 100000
set_option maxHeartbeats 4000000
namespace KP
open PySem PySem.Spec PyProof.Rows L2 XA XB XC XD XM XE XF XG XV XDz
local macro_rules | `(tactic| walk_at "rd") => `(tactic| repeat (first
  | (with_reducible refine rd_seq ?_) | (with_reducible refine rd_asg ?_) | ((with_reducible refine' rd_var ?hv ?_); (case hv => exact rfl)) | (with_reducible refine rd_c ?_) | (with_reducible refine rd_gn ?_)
  | (with_reducible refine rd_op ?_) | (with_reducible refine rd_un ?_) | (with_reducible refine rd_cons ?_) | (with_reducible refine rd_nil ?_) | (with_reducible refine rd_cl ?_) | (with_reducible refine rd_ck ?_) | (with_reducible refine rd_cb ?_)
  | (with_reducible refine rd_ret ?_) | (with_reducible refine rd_drop ?_) | (with_reducible refine rd_ifs ?_) | (with_reducible refine rd_if ?_) | (with_reducible refine rd_test ?_) | (with_reducible refine rd_tb ?_) | (with_reducible refine rd_and ?_) | (with_reducible refine rd_or ?_)
  | (with_reducible refine rd_not ?_) | (with_reducible refine rd_andV ?_) | (with_reducible refine rd_orV ?_) | (with_reducible refine rd_notV ?_) | (with_reducible refine rd_chain ?_) | (with_reducible refine rd_tup ?_) | (with_reducible refine rd_lst ?_)
  | (with_reducible refine rd_bm0 ?_) | (with_reducible refine rd_bm ?_) | (with_reducible refine rd_sl ?_) | (with_reducible refine rd_part ?_) | (with_reducible refine rd_nopart ?_) | (with_reducible refine rd_dget ?_) | (with_reducible refine rd_dput ?_)
  | (with_reducible refine rd_next ?_) | (with_reducible refine rd_lc ?_) | ((with_reducible refine' rd_aug ?hv ?_); (case hv => exact rfl)) | (with_reducible refine rd_cont ?_) | (with_reducible refine rd_gcons ?_) | (with_reducible refine rd_gnil ?_) | (with_reducible refine rd_ifT ?_) | (with_reducible refine rd_yes ?_) | (with_reducible refine rd_tru ?_) | (with_reducible refine rd_cntE ?_) | (with_reducible refine rd_rng1 ?_) | (with_reducible refine rd_lrg ?_) | (with_reducible refine rd_rg2 ?_) | (with_reducible refine rd_back ?_) | (with_reducible refine rd_disp ?_) | (with_reducible refine rd_prN ?_) | (with_reducible refine rd_prC ?_) | (with_reducible refine rd_par ?_) | (with_reducible refine rd_par3 ?_) | (with_reducible refine rd_two ?_) | (with_reducible refine rd_three ?_) | (with_reducible refine rd_one ?_) | (with_reducible refine rd_onei ?_) | (with_reducible refine rd_iL ?_) | (with_reducible refine rd_iT ?_) | (with_reducible refine rd_rng2 ?_) | (with_reducible refine rd_bl ?_) | (with_reducible refine rd_int ?_) | (with_reducible refine rd_I0 ?_) | (with_reducible refine rd_U ?_) | (with_reducible refine rd_din ?_) | (with_reducible refine rd_dnin ?_) | (with_reducible refine rd_dnew ?_) | (with_reducible refine rd_lset ?_) | (with_reducible refine rd_enT ?_) | (with_reducible refine rd_idx ?_) | (with_reducible refine rd_rg1 ?_) | (with_reducible refine rd_tupRg ?_)))

section
variable {P : Program} {w : World} {K : PySem.W.Frag} {mg : Str → Option Value} {base : Heap}
/-! ### number -/
/-- the common divisor, its sign the bottom's -/
def cmnI (a b : Int) : Int := if b < 0 then -((Nat.gcd a.natAbs b.natAbs : Nat) : Int) else ((Nat.gcd a.natAbs b.natAbs : Nat) : Int)
/-- a number as it is told: a whole, or top and bottom -/
def NumV (K : PySem.W.Frag) (H : Hp) (v : V) (h l : Int) : Prop := if l = 1 then v = .int h else ∃ p, v = .ref p ∧ SqT K H p [.int h, .int l]
theorem whole_int {d : Dat2} (h : wh2 d = true) : ∃ a, d = .one (.flat (.int a)) := by
  cases d with
  | one d =>
    cases d with
    | flat v => cases v <;> first | exact ⟨_, rfl⟩ | (simp [wh2, isI2, isB2, Dat.isI, Dat.isB] at h)
    | tup xs => simp [wh2, isI2, Dat.isI] at h
    | lst xs => simp [wh2, isI2, Dat.isI] at h
    | dct => simp [wh2, isI2, Dat.isI] at h
  | tups ds => simp [wh2, isI2] at h
  | lsts ds => simp [wh2, isI2] at h
theorem cmn_nat (a b : Int) : (cmnI a b).natAbs = Nat.gcd a.natAbs b.natAbs := by
  unfold cmnI
  split
  · rw [Int.natAbs_neg, Int.natAbs_natCast]
  · rw [Int.natAbs_natCast]
theorem cmn_ne {a b : Int} (h : b ≠ 0) : cmnI a b ≠ 0 := fun e => by
  have h1 := cmn_nat a b
  have h2 := Nat.gcd_pos_of_pos_right (n := b.natAbs) a.natAbs (by omega)
  rw [← h1, e] at h2
  exact absurd h2 (by decide)
theorem cmn_le {a b : Int} (h : b ≠ 0) : (cmnI a b).natAbs ≤ b.natAbs := by
  rw [cmn_nat]
  exact Nat.gcd_le_right _ (by omega)
theorem cmn_dvl (a b : Int) : cmnI a b ∣ a := Int.natAbs_dvd_natAbs.mp (by rw [cmn_nat]; exact Nat.gcd_dvd_left _ _)
theorem cmn_dvr (a b : Int) : cmnI a b ∣ b := Int.natAbs_dvd_natAbs.mp (by rw [cmn_nat]; exact Nat.gcd_dvd_right _ _)
theorem low_one {a b : Int} (h : b ≠ 0) : b.fdiv (cmnI a b) = 1 ↔ b = cmnI a b := by
  obtain ⟨k, e⟩ := cmn_dvr a b
  have c0 := cmn_ne (a := a) h
  generalize cmnI a b = c at *
  rw [e, Int.mul_comm, Int.mul_fdiv_cancel _ c0]
  constructor
  · intro z; rw [z, Int.one_mul]
  · intro z
    have := Int.eq_one_of_mul_eq_self_left c0 z
    exact this
def spNumber (K : PySem.W.Frag) : Sp := fun vs H Q E => ∃ (v1 v2 : V) (d1 d2 : Dat2), vs = [v1, v2] ∧ Rp2 K H v1 d1 ∧ Rp2 K H v2 d2 ∧
  (wh2 d1 = false → E (.ref (He.ga K "BadNumber")) none H) ∧ (wh2 d1 = true → wh2 d2 = false → E (.ref (He.ga K "BadNumber")) none H) ∧
  ∀ a b : Int, d1 = .one (.flat (.int a)) → d2 = .one (.flat (.int b)) → (b = 0 → E (.ref (He.ga K "BadNumber")) none H) ∧ (b ≠ 0 → b.natAbs < 2 ^ 200 ∧ ∀ v H', Same H H' → NumV K H' v (a.fdiv (cmnI a b)) (b.fdiv (cmnI a b)) → Q v H')
abbrev s_number : Stmt := top 31
abbrev N_number : List Str := ["top", "bottom", "common"]
theorem sc_number : FnScope ["top", "bottom", "common"] ["top", "bottom"] (defScope s_number) := ⟨rfl, rfl, rfl, by decide +kernel, rfl, by decide +kernel, by decide +kernel⟩
theorem bd_number : Bnd s_number "number" ["top", "bottom"] := fun _ _ _ _ _ _ us hl => match us, hl with | [_, _], _ => rfl

theorem bdk_number_0 : Bndk s_number "number" ["top", "bottom"] 0 ["top", "bottom"] := fun _ _ _ _ _ _ us ws hl hk => match us, ws, hl, hk with | [], [_, _], _, _ => rfl

theorem d_number (T : Bs K mg) (R : Rw K mg "number" s_number) (D_is_whole : Df P w K mg base CX0 1 "is_whole" s_is_whole ["value"] (spWhole K)) :
    Df P w K mg base (L2.CX P w) 2 "number" s_number ["top", "bottom"] (spNumber K) := by
  refine mkX R sc_number bd_number (fun vs H Q E h => ?_) fun f cdv A outer s H vs Q E hr h => ?_
  · obtain ⟨v1, v2, d1, d2, rfl, _⟩ := h; rfl
  obtain ⟨v1, v2, d1, d2, rfl, h1, h2, q1, q2, q⟩ := h
  refine ⟨_, (pss_cons (ps_if (pt_not (pt_tru (pe_d D_is_whole hr (by decide) (by rfl) pass0 (pa_cons (pv 0) pa_nil)) (by intro _; rfl))) (pss_one (ps_raiseX T.x_BadNumber (by rfl) pe_str (fun _ _ _ q => q _) (takes_of rfl rfl rfl rfl))) pss_nil)
      (pss_cons (ps_if (PW.pt (pw_or (pt_not (pt_tru (pe_d D_is_whole hr (by decide) (by rfl) pass0 (pa_cons (pv 1) pa_nil)) (by intro _; rfl))) (pw_or1 (pt_cmpR (op_eqU hr.units) (pv 1) pe_int (nomark _))))) (pss_one (ps_raiseX T.x_BadNumber (by rfl) pe_str (fun _ _ _ q => q _) (takes_of rfl rfl rfl rfl))) pss_nil)
      (pss_cons (ps_set (i := 2) sc_number.nd rfl (Or.inl rfl) (L2.pe_callBfun L2.cr_gcd (by rfl) T.t_gcd (pa_cons (pv 0) (pa_cons (pv 1) pa_nil))))
      (pss_cons (ps_if (pt_cmpR op_lt (pv 1) pe_int (nomark _)) (pss_one (ps_set (i := 2) sc_number.nd rfl (Or.inl rfl) (pe_un un_neg (pv 2)))) pss_nil)
      (pss_cons (ps_if (pt_cmpR (op_eqU hr.units) (pv 1) (pv 2) (nomark _)) (pss_one (ps_ret (pe_op op_fdivZ (pv 0) (pv 2)))) pss_nil)
      (pss_one (ps_ret (pe_tup (pa_cons (pe_op op_fdivZ (pv 0) (pv 2)) (pa_cons (pe_op op_fdivZ (pv 1) (pv 2)) pa_nil)))))))))), ?_⟩
  walk_at "rd"
  refine ⟨v1, d1, rfl, h1, ?_⟩
  refine truB ?_
  cases w1 : wh2 d1 with
  | false => exact iteT (q1 w1)
  | true =>
  refine iteF ?_
  walk_at "rd"
  refine ⟨v2, d2, rfl, h2, ?_⟩
  refine truB ?_
  cases w2 : wh2 d2 with
  | false => exact iteT (q2 w1 w2)
  | true =>
  refine iteF ?_
  obtain ⟨a, rfl⟩ : ∃ a, d1 = .one (.flat (.int a)) := whole_int w1
  obtain ⟨b, rfl⟩ : ∃ b, d2 = .one (.flat (.int b)) := whole_int w2
  obtain rfl := h1.1
  obtain rfl := h2.1
  obtain ⟨qz, qn⟩ := q a b rfl rfl
  walk_at "rd"
  refine rd_eqI ?_
  refine rd_bl ?_
  by_cases b0 : b = 0
  · rw [decide_eq_true b0]
    exact iteT (qz b0)
  rw [decide_eq_false b0]
  refine iteF ?_
  walk_at "rd"
  refine ⟨a, b, rfl, ?_⟩
  walk_at "rd"
  obtain ⟨bb, q⟩ := qn b0
  have done : ∀ (c : Int), c = cmnI a b → c ≠ 0 ∧ c.natAbs < 2 ^ 200 := fun c e => by
    subst e
    exact ⟨cmn_ne b0, Nat.lt_of_le_of_lt (cmn_le b0) bb⟩
  have fin : ∀ c : Int, c = cmnI a b → c ≠ 0 ∧ c.natAbs < 2 ^ 200 ∧ (b = c → NumV K H (.int (a.fdiv c)) (a.fdiv (cmnI a b)) (b.fdiv (cmnI a b))) ∧ (b ≠ c → ∀ p H', Same H H' → SqT K H' p [.int (a.fdiv c), .int (b.fdiv c)] → Q (.ref p) H') := fun c e => by
    obtain ⟨c0, cb⟩ := done c e
    subst e
    refine ⟨c0, cb, fun e => ?_, fun e p H' s hp => q _ _ s ?_⟩
    · unfold NumV
      rw [if_pos ((low_one b0).mpr e)]
    · unfold NumV
      rw [if_neg fun z => e ((low_one b0).mp z)]
      exact ⟨p, rfl, hp⟩
  refine rd_ite (fun neg => ?_) fun neg => ?_
  · walk_at "rd"
    obtain ⟨c0, cb, f1, f2⟩ := fin (-((Nat.gcd a.natAbs b.natAbs : Nat) : Int)) (by unfold cmnI; rw [if_pos (of_decide_eq_true neg)])
    refine rd_eqI ?_
    refine rd_bl ?_
    refine rd_ite (fun e => ?_) fun e => ?_
    · walk_at "rd"
      refine ⟨a, _, rfl, rfl, divZ c0 cb, ?_⟩
      exact q _ _ (Same.refl _) (f1 (of_decide_eq_true e))
    · walk_at "rd"
      refine ⟨a, _, rfl, rfl, divZ c0 cb, ?_⟩
      walk_at "rd"
      refine ⟨b, _, rfl, rfl, divZ c0 cb, ?_⟩
      walk_at "rd"
      exact ⟨lz (by simp), fun p hp => f2 (of_decide_eq_false e) p _ (same_new hp) (.inl (.inl upd_same))⟩
  · walk_at "rd"
    obtain ⟨c0, cb, f1, f2⟩ := fin (((Nat.gcd a.natAbs b.natAbs : Nat) : Int)) (by unfold cmnI; rw [if_neg (of_decide_eq_false neg)])
    refine rd_eqI ?_
    refine rd_bl ?_
    refine rd_ite (fun e => ?_) fun e => ?_
    · walk_at "rd"
      refine ⟨a, _, rfl, rfl, divZ c0 cb, ?_⟩
      exact q _ _ (Same.refl _) (f1 (of_decide_eq_true e))
    · walk_at "rd"
      refine ⟨a, _, rfl, rfl, divZ c0 cb, ?_⟩
      walk_at "rd"
      refine ⟨b, _, rfl, rfl, divZ c0 cb, ?_⟩
      walk_at "rd"
      exact ⟨lz (by simp), fun p hp => f2 (of_decide_eq_false e) p _ (same_new hp) (.inl (.inl upd_same))⟩
end
end KP

set_option linter.all false
set_option maxRecDepth 100000
set_option maxHeartbeats 4000000
namespace KP
open PySem PySem.Spec PyProof.Rows L2 XA XB XC XD XM XE XF XG XV XDz
local macro_rules | `(tactic| walk_at "rd") => `(tactic| repeat (first
  | (with_reducible refine rd_seq ?_) | (with_reducible refine rd_asg ?_) | ((with_reducible refine' rd_var ?hv ?_); (case hv => exact rfl)) | (with_reducible refine rd_c ?_) | (with_reducible refine rd_gn ?_)
  | (with_reducible refine rd_op ?_) | (with_reducible refine rd_un ?_) | (with_reducible refine rd_cons ?_) | (with_reducible refine rd_nil ?_) | (with_reducible refine rd_cl ?_) | (with_reducible refine rd_ck ?_) | (with_reducible refine rd_cb ?_)
  | (with_reducible refine rd_ret ?_) | (with_reducible refine rd_drop ?_) | (with_reducible refine rd_ifs ?_) | (with_reducible refine rd_if ?_) | (with_reducible refine rd_test ?_) | (with_reducible refine rd_tb ?_) | (with_reducible refine rd_and ?_) | (with_reducible refine rd_or ?_)
  | (with_reducible refine rd_not ?_) | (with_reducible refine rd_andV ?_) | (with_reducible refine rd_orV ?_) | (with_reducible refine rd_notV ?_) | (with_reducible refine rd_chain ?_) | (with_reducible refine rd_tup ?_) | (with_reducible refine rd_lst ?_)
  | (with_reducible refine rd_bm0 ?_) | (with_reducible refine rd_bm ?_) | (with_reducible refine rd_sl ?_) | (with_reducible refine rd_part ?_) | (with_reducible refine rd_nopart ?_) | (with_reducible refine rd_dget ?_) | (with_reducible refine rd_dput ?_)
  | (with_reducible refine rd_next ?_) | (with_reducible refine rd_lc ?_) | ((with_reducible refine' rd_aug ?hv ?_); (case hv => exact rfl)) | (with_reducible refine rd_cont ?_) | (with_reducible refine rd_gcons ?_) | (with_reducible refine rd_gnil ?_) | (with_reducible refine rd_ifT ?_) | (with_reducible refine rd_yes ?_) | (with_reducible refine rd_tru ?_) | (with_reducible refine rd_cntE ?_) | (with_reducible refine rd_rng1 ?_) | (with_reducible refine rd_lrg ?_) | (with_reducible refine rd_rg2 ?_) | (with_reducible refine rd_back ?_) | (with_reducible refine rd_disp ?_) | (with_reducible refine rd_prN ?_) | (with_reducible refine rd_prC ?_) | (with_reducible refine rd_par ?_) | (with_reducible refine rd_par3 ?_) | (with_reducible refine rd_two ?_) | (with_reducible refine rd_three ?_) | (with_reducible refine rd_one ?_) | (with_reducible refine rd_onei ?_) | (with_reducible refine rd_iL ?_) | (with_reducible refine rd_iT ?_) | (with_reducible refine rd_rng2 ?_) | (with_reducible refine rd_bl ?_) | (with_reducible refine rd_int ?_) | (with_reducible refine rd_I0 ?_) | (with_reducible refine rd_U ?_) | (with_reducible refine rd_din ?_) | (with_reducible refine rd_dnin ?_) | (with_reducible refine rd_dnew ?_) | (with_reducible refine rd_lset ?_) | (with_reducible refine rd_enT ?_) | (with_reducible refine rd_idx ?_) | (with_reducible refine rd_rg1 ?_) | (with_reducible refine rd_tupRg ?_)))

/-- two data as top and bottom -/
def iOf : Dat → Option Int
  | .flat (.int i) => some i
  | _ => none
def pairNum (a b : Dat) : Bool := match iOf a, iOf b with
  | some i, some j => decide (2 ≤ j) && decide (Nat.gcd i.natAbs j.natAbs = 1)
  | _, _ => false
def items : Dat2 → Option (List Dat)
  | .one (.tup xs) => some (xs.map Dat.flat)
  | .tups ds => some ds
  | _ => none
def isNum (d : Dat2) : Bool := wh2 d || match items d with
  | some [a, b] => pairNum a b
  | _ => false
section
variable {K : PySem.W.Frag} {H : Hp}
theorem flats : ∀ {xs : List V}, xs.all plainV = true → Paired (Rp K H) xs (xs.map Dat.flat)
  | [], _ => .nil
  | x :: xs, h => by
    rw [List.all_cons, Bool.and_eq_true] at h
    exact .cons ⟨rfl, h.1⟩ (flats h.2)
theorem tup_items {v : V} {d : Dat2} (h : Rp2 K H v d) (e : d.isT = true) : wh2 d = false ∧ ∃ a vs ds, v = .ref a ∧ SqT K H a vs ∧ items d = some ds ∧ Paired (Rp K H) vs ds := by
  cases d with
  | one d =>
    cases d with
    | tup xs =>
      obtain ⟨a, rfl, q, ok⟩ := h
      unfold okB at ok
      rw [Bool.and_eq_true] at ok
      exact ⟨rfl, a, xs, _, rfl, q, rfl, flats ok.1⟩
    | flat v => simp [Dat2.isT, Dat.isT] at e
    | lst xs => simp [Dat2.isT, Dat.isT] at e
    | dct => simp [Dat2.isT, Dat.isT] at e
  | tups ds =>
    obtain ⟨a, vs, rfl, q, p⟩ := h
    exact ⟨rfl, a, vs, ds, rfl, q, rfl, p⟩
  | lsts ds => simp [Dat2.isT] at e
theorem items_no {d : Dat2} (e : d.isT = false) : items d = none := by
  cases d with
  | one d => cases d <;> first | rfl | (simp [Dat2.isT, Dat.isT] at e)
  | tups ds => simp [Dat2.isT] at e
  | lsts ds => rfl
theorem iOf_wh {d : Dat} : wh2 (.one d) = (iOf d).isSome := by
  cases d with
  | flat v => cases v <;> rfl
  | tup xs => rfl
  | lst xs => rfl
  | dct => rfl
def iV : V → Bool
  | .int _ => true
  | _ => false
theorem iV_of {v : V} {d : Dat} (h : Rp K H v d) : iV v = (iOf d).isSome := by
  cases d with
  | flat u =>
    obtain ⟨rfl, _⟩ := h
    cases v <;> rfl
  | tup xs => obtain ⟨a, rfl, _⟩ := h; rfl
  | lst xs => obtain ⟨a, rfl, _⟩ := h; rfl
  | dct => obtain ⟨a, k, rfl, _⟩ := h; rfl
theorem isIB (d : Dat) : (isI2 (.one d) = true ∧ isB2 (.one d) = false) ↔ (iOf d).isSome = true := by
  rw [← iOf_wh, wh2, Bool.and_eq_true, Bool.not_eq_true']
theorem repl_nil {xs : List V} {p : V → Bool} : ((xs.filter p).map fun _ => V.int 1) = ((xs.filter p).map fun _ => (1 : Int)).map V.int := by rw [List.map_map] <;> rfl
theorem iOf_val {v : V} {d : Dat} {i : Int} (h : Rp K H v d) (e : iOf d = some i) : v = .int i := by
  cases d with
  | flat u =>
    cases u with
    | int j =>
      have : j = i := Option.some.inj e
      subst this
      exact h.1
    | _ => cases e
  | _ => cases e
end
theorem iteT' {c : Bool} {A B : Prop} (h : c = true) (a : A) : if c = true then A else B := by rw [h]; exact a
section
variable {P : Program} {w : World} {K : PySem.W.Frag} {mg : Str → Option Value} {base : Heap}
/-! ### is_number -/
def spIsNum (K : PySem.W.Frag) : Sp := fun vs H Q _ => ∃ (v : V) (d : Dat2), vs = [v] ∧ Rp2 K H v d ∧ Q (.bl (isNum d)) H
abbrev s_is_number : Stmt := top 30
abbrev N_is_number : List Str := ["value", "top", "bottom"]
theorem sc_is_number : FnScope ["value", "top", "bottom"] ["value"] (defScope s_is_number) := ⟨rfl, rfl, rfl, by decide +kernel, rfl, by decide +kernel, by decide +kernel⟩
theorem bd_is_number : Bnd s_is_number "is_number" ["value"] := fun _ _ _ _ _ _ us hl => match us, hl with | [_], _ => rfl

theorem bdk_is_number_0 : Bndk s_is_number "is_number" ["value"] 0 ["value"] := fun _ _ _ _ _ _ us ws hl hk => match us, ws, hl, hk with | [], [_], _, _ => rfl

theorem d_is_number (T : Bs K mg) (R : Rw K mg "is_number" s_is_number) (D_is_whole : Df P w K mg base CX0 1 "is_whole" s_is_whole ["value"] (spWhole K)) : Df P w K mg base CX0 2 "is_number" s_is_number ["value"] (spIsNum K) := by
  refine mk0 R sc_is_number bd_is_number (fun vs H Q E h => ?_) fun f cdv A outer s H vs Q E hr h => ?_
  · obtain ⟨v, d, rfl, _⟩ := h; rfl
  obtain ⟨v, d, rfl, hv, q⟩ := h
  refine ⟨_, (pss_cons (ps_if (pt_tru (pe_d D_is_whole hr (by decide) (by rfl) pass0 (pa_cons (pv 0) pa_nil)) (by intro _; rfl)) (pss_one (ps_ret pe_bl)) pss_nil)
      (pss_cons (ps_if (PW.pt (pw_or (pt_not (pt_tru (pe_callB call_isU (by rfl) T.n_isinstance (by decide +kernel) (pa_cons (pv 0) (pa_cons (pe_bltn (v := .ty "tuple") (by rfl) T.n_tuple (by decide +kernel) rfl) pa_nil))) (by intro _; rfl))) (pw_or1 (pt_cmpR (op_neU hr.units) (pe_callB call_len (by rfl) T.n_len (by decide +kernel) (pa_cons (pv 0) pa_nil)) pe_int (nomark _))))) (pss_one (ps_ret pe_bl)) pss_nil)
      (pss_cons (ps_asg (pv 0) (pg_tup (by rfl) (pgs_cons (pg_name (i := 1) sc_is_number.nd rfl (Or.inl rfl)) (pgs_cons (pg_name (i := 2) sc_is_number.nd rfl (Or.inl rfl)) pgs_nil))))
      (pss_one (ps_ret (pe_and (pe_d D_is_whole hr (by decide) (by rfl) pass0 (pa_cons (pv 1) pa_nil)) (pe_and (pe_d D_is_whole hr (by decide) (by rfl) pass0 (pa_cons (pv 2) pa_nil)) (pe_and (pe_cmpR op_ge (pv 2) pe_int (nomark _)) (pe_one (pe_cmpR (op_eqU hr.units) (L2.pe_callBfun L2.cr_gcd (by rfl) T.t_gcd (pa_cons (pv 1) (pa_cons (pv 2) pa_nil))) pe_int (nomark _))))))))))), ?_⟩
  walk_at "rd"
  refine ⟨v, d, rfl, hv, ?_⟩
  refine truB ?_
  unfold isNum at q
  cases wd : wh2 d with
  | true =>
    rw [wd] at q
    exact iteT q
  | false =>
  refine iteF ?_
  rw [wd] at q
  walk_at "rd"
  refine rd_isT2 hv (kit_tuple2 d) ?_
  refine truB ?_
  cases ed : d.isT with
  | false =>
    rw [items_no ed] at q
    exact iteT q
  | true =>
  refine iteF ?_
  obtain ⟨_, a, vs, ds, rfl, hS, ei, hP⟩ := tup_items hv ed
  rw [ei] at q
  have hl := Paired.length hP
  walk_at "rd"
  refine lenT hS ?_
  walk_at "rd"
  refine rd_neI ?_
  walk_at "rd"
  refine rd_ite (fun e1 => ?_) fun e1 => ?_
  · have n2 : ds.length ≠ 2 := by
      simp at e1
      omega
    have q : Q (.bl (false || match (some ds : Option (List Dat)) with | some [a, b] => pairNum a b | _ => false)) H := q
    match ds, n2, q with
    | [], _, q => exact q
    | [x], _, q => exact q
    | [x, y], n, _ => exact absurd rfl n
    | x :: y :: z :: r, _, q => exact q
  have e1 : vs.length = 2 := by
    simp at e1
    omega
  obtain ⟨v0, v1, rfl⟩ : ∃ v0 v1, vs = [v0, v1] := by
    match vs, e1 with
    | [v0, v1], _ => exact ⟨v0, v1, rfl⟩
  obtain ⟨d0, d1, rfl⟩ : ∃ d0 d1, ds = [d0, d1] := by
    match ds, hl with
    | [d0, d1], _ => exact ⟨d0, d1, rfl⟩
  obtain ⟨h0, h1⟩ : Rp K H v0 d0 ∧ Rp K H v1 d1 := by
    cases hP with
    | cons a b => cases b with
      | cons c _ => exact ⟨a, c⟩
  have q : Q (.bl (pairNum d0 d1)) H := q
  walk_at "rd"
  refine ⟨a, [v0, v1], rfl, hS, rfl, ?_⟩
  walk_at "rd"
  refine ⟨v0, .one d0, rfl, h0, ?_⟩
  walk_at "rd"
  unfold pairNum at q
  rw [iOf_wh]
  cases e0 : iOf d0 with
  | none =>
    rw [e0] at q
    exact iteF q
  | some i =>
  refine iteT ?_
  obtain rfl := iOf_val h0 e0
  walk_at "rd"
  refine ⟨v1, .one d1, rfl, h1, ?_⟩
  walk_at "rd"
  rw [iOf_wh]
  cases e2 : iOf d1 with
  | none =>
    rw [e0, e2] at q
    exact iteF q
  | some j =>
  refine iteT ?_
  obtain rfl := iOf_val h1 e2
  rw [e0, e2] at q
  have q : Q (.bl (decide (2 ≤ j) && decide (Nat.gcd i.natAbs j.natAbs = 1))) H := q
  walk_at "rd"
  refine rd_ite (fun e => ?_) fun e => ?_
  · rw [e, Bool.true_and] at q
    walk_at "rd"
    refine ⟨i, j, rfl, ?_⟩
    walk_at "rd"
    refine rd_eqI ?_
    rw [show decide (Nat.gcd i.natAbs j.natAbs = 1) = decide (((Nat.gcd i.natAbs j.natAbs : Nat) : Int) = 1) by apply decide_eq_decide.mpr; omega] at q
    exact q
  · rw [e, Bool.false_and] at q
    exact q
/-! ### _law_mk_gcd -/
def spGcd : Sp := fun vs H Q _ => ∃ a b : Int, vs = [.int a, .int b] ∧ Q (.int ((Nat.gcd a.natAbs b.natAbs : Nat) : Int)) H
abbrev s__law_mk_gcd : Stmt := top 39
abbrev N__law_mk_gcd : List Str := ["one", "other", "a", "b"]
theorem sc__law_mk_gcd : FnScope ["one", "other", "a", "b"] ["one", "other"] (defScope s__law_mk_gcd) := ⟨rfl, rfl, rfl, by decide +kernel, rfl, by decide +kernel, by decide +kernel⟩
theorem bd__law_mk_gcd : Bnd s__law_mk_gcd "_law_mk_gcd" ["one", "other"] := fun _ _ _ _ _ _ us hl => match us, hl with | [_, _], _ => rfl

theorem d__law_mk_gcd (T : Bs K mg) (R : Rw K mg "_law_mk_gcd" s__law_mk_gcd) : Df P w K mg base CX0 1 "_law_mk_gcd" s__law_mk_gcd ["one", "other"] spGcd := by
  refine mk0 R sc__law_mk_gcd bd__law_mk_gcd (fun vs H Q E h => ?_) fun f cdv A outer s H vs Q E hr h => ?_
  · obtain ⟨a, b, rfl, _⟩ := h; rfl
  obtain ⟨a, b, rfl, q⟩ := h
  refine ⟨_, (pss_cons (ps_par (i := 2) (j := 3) rfl sc__law_mk_gcd.nd rfl rfl (by decide) rfl rfl (pa_cons (pe_callB call_abs (by rfl) T.n_abs (by decide +kernel) (pa_cons (pv 0) pa_nil)) (pa_cons (pe_callB call_abs (by rfl) T.n_abs (by decide +kernel) (pa_cons (pv 1) pa_nil)) pa_nil)) (by rfl))
      (pss_cons (ps_while PassesOwn.never (pt_cmpR (op_neU hr.units) (pv 3) pe_int (nomark _)) (pss_one (ps_par (i := 2) (j := 3) rfl sc__law_mk_gcd.nd rfl rfl (by decide) rfl rfl (pa_cons (pv 3) (pa_cons (pe_op op_modN (pe_callTy call_int1 (by rfl) T.n_int (by decide +kernel) (pa_cons (pv 2) pa_nil)) (pv 3)) pa_nil)) (by rfl))))
      (pss_one (ps_ret (pv 2))))), ?_⟩
  walk_at "rd"
  refine ⟨fun m σ H' => ∃ x y : Nat, m = y ∧ Nat.gcd x y = Nat.gcd a.natAbs b.natAbs ∧ σ = [some (.int a), some (.int b), some (.int x), some (.int y)] ∧ H' = H, ⟨_, a.natAbs, b.natAbs, rfl, rfl, ?_, rfl⟩, fun m σ H' ⟨x, y, em, eg, eσ, eH⟩ => ?_⟩
  · have ha : ((a.natAbs : Nat) : Int) = if a < 0 then -a else a := by split <;> omega
    have hb : ((b.natAbs : Nat) : Int) = if b < 0 then -b else b := by split <;> omega
    rw [ha, hb] <;> rfl
  subst em eσ eH
  walk_at "rd"
  refine rd_neI ?_
  walk_at "rd"
  refine rd_ite (fun e => ?_) fun e => ?_
  · have m0 : m ≠ 0 := fun z => by
      subst z
      simp at e
    refine ⟨fun σ2 H2 => σ2 = [some (.int a), some (.int b), some (.int m), some (.int ((x % m : Nat) : Int))] ∧ H2 = H', fun σ2 H2 ⟨e1, e2⟩ => ⟨x % m, Nat.mod_lt _ (by omega), m, x % m, rfl, ?_, e1, e2⟩, ?_⟩
    · rw [← eg, Nat.gcd_comm m, ← Nat.gcd_rec, Nat.gcd_comm]
    walk_at "rd"
    refine .inl ⟨x, rfl, ?_⟩
    walk_at "rd"
    refine ⟨x, m, rfl, rfl, by omega, ?_⟩
    walk_at "rd"
    have em : Int.fmod (x : Int) (m : Int) = ((x % m : Nat) : Int) := by rw [Int.fmod_eq_emod_of_nonneg _ (Int.natCast_nonneg m)] <;> rfl
    refine ⟨?_, rfl⟩
    show [some (V.int a), some (V.int b), some (V.int m), some (V.int (Int.fmod (x : Int) (m : Int)))] = _
    rw [em]
  · walk_at "rd"
    have y0 : m = 0 := by
      simp at e
      omega
    subst y0
    rw [Nat.gcd_zero_right] at eg
    rw [eg]
    exact q
/-! ### _law_mk_made -/
def spMade (K : PySem.W.Frag) : Sp := fun vs H Q _ => ∃ a b : Int, vs = [.int a, .int b] ∧ b ≠ 0 ∧ b.natAbs < 2 ^ 200 ∧ ∀ v H', Same H H' → NumV K H' v (a.fdiv (cmnI a b)) (b.fdiv (cmnI a b)) → Q v H'
abbrev s__law_mk_made : Stmt := top 40
abbrev N__law_mk_made : List Str := ["top", "bottom", "common", "high", "low"]
theorem sc__law_mk_made : FnScope ["top", "bottom", "common", "high", "low"] ["top", "bottom"] (defScope s__law_mk_made) := ⟨rfl, rfl, rfl, by decide +kernel, rfl, by decide +kernel, by decide +kernel⟩
theorem bd__law_mk_made : Bnd s__law_mk_made "_law_mk_made" ["top", "bottom"] := fun _ _ _ _ _ _ us hl => match us, hl with | [_, _], _ => rfl

theorem d__law_mk_made (T : Bs K mg) (R : Rw K mg "_law_mk_made" s__law_mk_made) (D__law_mk_gcd : Df P w K mg base CX0 1 "_law_mk_gcd" s__law_mk_gcd ["one", "other"] spGcd) : Df P w K mg base CX0 2 "_law_mk_made" s__law_mk_made ["top", "bottom"] (spMade K) := by
  refine mk0 R sc__law_mk_made bd__law_mk_made (fun vs H Q E h => ?_) fun f cdv A outer s H vs Q E hr h => ?_
  · obtain ⟨a, b, rfl, _⟩ := h; rfl
  obtain ⟨a, b, rfl, b0, bb, q⟩ := h
  refine ⟨_, (pss_cons (ps_set (i := 2) sc__law_mk_made.nd rfl (Or.inl rfl) (pe_d D__law_mk_gcd hr (by decide) (by rfl) pass0 (pa_cons (pv 0) (pa_cons (pv 1) pa_nil))))
      (pss_cons (ps_set (i := 2) sc__law_mk_made.nd rfl (Or.inl rfl) (pe_ifExp (pt_cmpR op_gt (pv 1) pe_int (nomark _)) (pv 2) (pe_op op_sub pe_int (pv 2))))
      (pss_cons (ps_par (i := 3) (j := 4) rfl sc__law_mk_made.nd rfl rfl (by decide) rfl rfl (pa_cons (pe_op op_fdivZ (pv 0) (pv 2)) (pa_cons (pe_op op_fdivZ (pv 1) (pv 2)) pa_nil)) (by rfl))
      (pss_one (ps_ret (pe_ifExp (pt_cmpR (op_eqU hr.units) (pv 4) pe_int (nomark _)) (pv 3) (pe_tup (pa_cons (pv 3) (pa_cons (pv 4) pa_nil))))))))), ?_⟩
  walk_at "rd"
  refine ⟨a, b, rfl, ?_⟩
  walk_at "rd"
  have done : ∀ (c : Int), c = cmnI a b → c ≠ 0 ∧ c.natAbs < 2 ^ 200 := fun c e => by
    subst e
    exact ⟨cmn_ne b0, Nat.lt_of_le_of_lt (cmn_le b0) bb⟩
  have fin : ∀ c : Int, c = cmnI a b → c ≠ 0 ∧ c.natAbs < 2 ^ 200 ∧ (b.fdiv c = 1 → Q (.int (a.fdiv c)) H) ∧ (b.fdiv c ≠ 1 → ∀ p H', Same H H' → SqT K H' p [.int (a.fdiv c), .int (b.fdiv c)] → Q (.ref p) H') := fun c e => by
    obtain ⟨c0, cb⟩ := done c e
    subst e
    refine ⟨c0, cb, fun e => q _ _ (Same.refl _) ?_, fun e p H' s hp => q _ _ s ?_⟩
    · unfold NumV
      rw [if_pos e]
    · unfold NumV
      rw [if_neg e]
      exact ⟨p, rfl, hp⟩
  refine rd_ite (fun pos => ?_) fun pos => ?_
  · walk_at "rd"
    obtain ⟨c0, cb, f1, f2⟩ := fin (((Nat.gcd a.natAbs b.natAbs : Nat) : Int)) (by unfold cmnI; rw [if_neg (by have := of_decide_eq_true pos; omega)])
    refine ⟨a, _, rfl, rfl, divZ c0 cb, ?_⟩
    walk_at "rd"
    refine ⟨b, _, rfl, rfl, divZ c0 cb, ?_⟩
    walk_at "rd"
    refine rd_eqI ?_
    walk_at "rd"
    refine rd_ite (fun e => ?_) fun e => ?_
    · walk_at "rd"
      exact f1 (of_decide_eq_true e)
    · walk_at "rd"
      exact ⟨lz (by simp), fun p hp => f2 (of_decide_eq_false e) p _ (same_new hp) (.inl (.inl upd_same))⟩
  · walk_at "rd"
    obtain ⟨c0, cb, f1, f2⟩ := fin (0 - ((Nat.gcd a.natAbs b.natAbs : Nat) : Int)) (by unfold cmnI; rw [if_pos (by have := of_decide_eq_false pos; omega), Int.zero_sub])
    refine ⟨a, _, rfl, rfl, divZ c0 cb, ?_⟩
    walk_at "rd"
    refine ⟨b, _, rfl, rfl, divZ c0 cb, ?_⟩
    walk_at "rd"
    refine rd_eqI ?_
    walk_at "rd"
    refine rd_ite (fun e => ?_) fun e => ?_
    · walk_at "rd"
      exact f1 (of_decide_eq_true e)
    · walk_at "rd"
      exact ⟨lz (by simp), fun p hp => f2 (of_decide_eq_false e) p _ (same_new hp) (.inl (.inl upd_same))⟩
/-! ### _law_mk_is_number -/
def spMkNum (K : PySem.W.Frag) : Sp := fun vs H Q _ => ∃ (v : V) (d : Dat2), vs = [v] ∧ Rp2 K H v d ∧ ∀ H', Same H H' → Q (.bl (isNum d)) H'
abbrev s__law_mk_is_number : Stmt := top 41
abbrev N__law_mk_is_number : List Str := ["item", "one"]
theorem sc__law_mk_is_number : FnScope ["item", "one"] ["item"] (defScope s__law_mk_is_number) := ⟨rfl, rfl, rfl, by decide +kernel, rfl, by decide +kernel, by decide +kernel⟩
theorem bd__law_mk_is_number : Bnd s__law_mk_is_number "_law_mk_is_number" ["item"] := fun _ _ _ _ _ _ us hl => match us, hl with | [_], _ => rfl

theorem d__law_mk_is_number (T : Bs K mg) (R : Rw K mg "_law_mk_is_number" s__law_mk_is_number) (D__law_mk_gcd : Df P w K mg base CX0 1 "_law_mk_gcd" s__law_mk_gcd ["one", "other"] spGcd) : Df P w K mg base CX0 2 "_law_mk_is_number" s__law_mk_is_number ["item"] (spMkNum K) := by
  refine mk0 R sc__law_mk_is_number bd__law_mk_is_number (fun vs H Q E h => ?_) fun f cdv A outer s H vs Q E hr h => ?_
  · obtain ⟨v, d, rfl, _⟩ := h; rfl
  obtain ⟨v, d, rfl, hv, q⟩ := h
  refine ⟨_, (pss_cons (ps_if (pt_tru (pe_callB call_isU (by rfl) T.n_isinstance (by decide +kernel) (pa_cons (pv 0) (pa_cons (pe_bltn (v := .ty "int") (by rfl) T.n_int (by decide +kernel) rfl) pa_nil))) (by intro _; rfl)) (pss_one (ps_ret (pe_not (pe_callB call_isU (by rfl) T.n_isinstance (by decide +kernel) (pa_cons (pv 0) (pa_cons (pe_bltn (v := .ty "bool") (by rfl) T.n_bool (by decide +kernel) rfl) pa_nil)))))) pss_nil)
      (pss_cons (ps_if (PW.pt (pw_or (pt_not (pt_tru (pe_callB call_isU (by rfl) T.n_isinstance (by decide +kernel) (pa_cons (pv 0) (pa_cons (pe_bltn (v := .ty "tuple") (by rfl) T.n_tuple (by decide +kernel) rfl) pa_nil))) (by intro _; rfl))) (pw_or1 (pt_cmpR (op_neU hr.units) (pe_callB call_len (by rfl) T.n_len (by decide +kernel) (pa_cons (pv 0) pa_nil)) pe_int (nomark _))))) (pss_one (ps_ret pe_bl)) pss_nil)
      (pss_cons (ps_if (pt_cmpR (op_neU hr.units) (pe_lc (own := [("one", 1)]) rfl sc__law_mk_is_number.nd (pi_U (pv 0)) (blkOk_by (own := [("one", 1)]) (N := ["item", "one"]) (sc := defScope s__law_mk_is_number) (by decide +kernel)) (fun _ _ _ _ _ => (pg_name (i := 1) sc__law_mk_is_number.nd rfl (Or.inl rfl))) (fun _ _ _ _ _ => pts_one (PW.pt (pw_or (pt_not (show PT _ _ (tTru K _) from pt_tru (pe_callB (show CallR _ (.builtin "isinstance") (rIsU K) from call_isU) (by rfl) T.n_isinstance (by decide +kernel) (pa_cons (pv 1) (pa_cons (pe_bltn (v := .ty "int") (by rfl) T.n_int (by decide +kernel) rfl) pa_nil))) (by intro _; rfl))) (pw_or1 (show PT _ _ (tTru K _) from pt_tru (pe_callB (show CallR _ (.builtin "isinstance") (rIsU K) from call_isU) (by rfl) T.n_isinstance (by decide +kernel) (pa_cons (pv 1) (pa_cons (pe_bltn (v := .ty "bool") (by rfl) T.n_bool (by decide +kernel) rfl) pa_nil))) (by intro _; rfl)))))) (fun _ _ _ _ _ => pe_int)) (pe_lst pa_nil) (nomark _)) (pss_one (ps_ret pe_bl)) pss_nil)
      (pss_one (ps_ret (pe_and (pe_cmpR op_ge (pe_ix ix_seq (pv 0) pe_int (fun _ _ => rfl)) pe_int (nomark _)) (pe_one (pe_cmpR (op_eqU hr.units) (pe_d D__law_mk_gcd hr (by decide) (by rfl) pass0 (pa_cons (pe_ix ix_seq (pv 0) pe_int (fun _ _ => rfl)) (pa_cons (pe_ix ix_seq (pv 0) pe_int (fun _ _ => rfl)) pa_nil))) pe_int (nomark _))))))))), ?_⟩
  walk_at "rd"
  refine rd_isT2 hv (kit_int2 d) ?_
  refine truB ?_
  cases ei : isI2 d with
  | true =>
    refine iteT ?_
    walk_at "rd"
    refine rd_isT2 hv (kit_bool2 d) ?_
    walk_at "rd"
    have it : items d = none := by
      cases d with
      | one d => cases d <;> first | rfl | (simp [isI2, Dat.isI] at ei)
      | tups ds => simp [isI2] at ei
      | lsts ds => rfl
    have q := q H (Same.refl _)
    unfold isNum wh2 at q
    rw [ei, it, Bool.or_false, Bool.true_and] at q
    exact q
  | false =>
  refine iteF ?_
  walk_at "rd"
  refine rd_isT2 hv (kit_tuple2 d) ?_
  refine truB ?_
  unfold isNum at q
  cases ed : d.isT with
  | false =>
    rw [items_no ed] at q
    unfold wh2 at q
    rw [ei] at q
    exact iteT (q H (Same.refl _))
  | true =>
  refine iteF ?_
  obtain ⟨wd, a, vs, ds, rfl, hS, ei2, hP⟩ := tup_items hv ed
  rw [wd, ei2] at q
  have hl := Paired.length hP
  walk_at "rd"
  refine lenT hS ?_
  walk_at "rd"
  refine rd_neI ?_
  walk_at "rd"
  refine rd_ite (fun e1 => ?_) fun e1 => ?_
  · have n2 : ds.length ≠ 2 := by
      simp at e1
      omega
    have q : Q (.bl (false || match (some ds : Option (List Dat)) with | some [a, b] => pairNum a b | _ => false)) H := q H (Same.refl _)
    match ds, n2, q with
    | [], _, q => exact q
    | [x], _, q => exact q
    | [x, y], n, _ => exact absurd rfl n
    | x :: y :: z :: r, _, q => exact q
  have e1 : vs.length = 2 := by
    simp at e1
    omega
  obtain ⟨v0, v1, rfl⟩ : ∃ v0 v1, vs = [v0, v1] := by
    match vs, e1 with
    | [v0, v1], _ => exact ⟨v0, v1, rfl⟩
  obtain ⟨d0, d1, rfl⟩ : ∃ d0 d1, ds = [d0, d1] := by
    match ds, hl with
    | [d0, d1], _ => exact ⟨d0, d1, rfl⟩
  obtain ⟨h0, h1⟩ : Rp K H v0 d0 ∧ Rp K H v1 d1 := by
    cases hP with
    | cons a b => cases b with
      | cons c _ => exact ⟨a, c⟩
  have q : ∀ H', Same H H' → Q (.bl (pairNum d0 d1)) H' := q
  walk_at "rd"
  refine overU rfl (.inl hS) fun J G wk hG D hD => ?_
  refine lc_pure wk hD [v0, v1] (fun u => !iV u) (fun _ => .int 1) rfl (by simp) hG (fun i H x H' hi y => y) (fun y H2 hy e2 R R0 g1 g0 => ?_) fun H2 e2 hD2 => ?_
  · obtain ⟨dy, hy⟩ : ∃ dy, Rp K H2 y dy := by
      rcases List.mem_cons.mp hy with e | e
      · exact ⟨d0, by rw [e]; exact h0.same e2⟩
      · rw [List.mem_singleton.mp e]; exact ⟨d1, h1.same e2⟩
    have key := isIB dy
    rw [← iV_of hy] at key
    walk_at "rd"
    refine ⟨rfl, ?_⟩
    walk_at "rd"
    refine rd_isT2 (d := .one dy) hy (kit_int2 _) ?_
    refine truB ?_
    cases ey : isI2 (.one dy) with
    | false =>
      refine iteT ?_
      walk_at "rd"
      exact g1 (by
        cases hv : iV y with
        | false => rfl
        | true =>
          have := (key.mpr hv).1
          rw [ey] at this
          cases this) H2 (Same.refl _)
    | true =>
      refine iteF ?_
      walk_at "rd"
      refine rd_isT2 (d := .one dy) hy (kit_bool2 _) ?_
      refine truB ?_
      cases eb : isB2 (.one dy) with
      | true =>
        refine iteT ?_
        walk_at "rd"
        exact g1 (by
          cases hv : iV y with
          | false => rfl
          | true =>
            have := (key.mpr hv).2
            rw [eb] at this
            cases this) H2 (Same.refl _)
      | false =>
        exact iteF (g0 (by rw [key.mp ⟨ey, eb⟩] <;> rfl) H2 (Same.refl _))
  rw [repl_nil] at hD2
  walk_at "rd"
  refine ⟨lz (by simp), fun p3 h3 => ?_⟩
  have s3 := same_new (o := .lst []) h3
  have e3 : upd H2 p3 (.lst []) p3 = some (.lst []) := upd_same
  have sm := e2.trans s3
  have hD3 := s3 _ _ hD2
  generalize upd H2 p3 (.lst []) = H3 at e3 sm hD3 ⊢
  refine neL (ys := []) (.inl (.inl hD3)) (.inl (.inl e3)) ?_
  walk_at "rd"
  unfold pairNum at q
  cases e0 : iOf d0 with
  | none =>
    rw [e0] at q
    refine iteT' (by rw [List.filter_cons, iV_of h0, e0] <;> rfl) (q _ sm)
  | some i =>
  cases e5 : iOf d1 with
  | none =>
    rw [e0, e5] at q
    refine iteT' (by rw [List.filter_cons, iV_of h0, e0, List.filter_cons, iV_of h1, e5] <;> rfl) (q _ sm)
  | some j =>
  rw [e0, e5] at q
  obtain rfl := iOf_val h0 e0
  obtain rfl := iOf_val h1 e5
  refine iteF ?_
  walk_at "rd"
  refine rd_ixT (sqT_same sm hS) (v := .int j) rfl ?_
  walk_at "rd"
  have q : ∀ H', Same H H' → Q (.bl (decide (2 ≤ j) && decide (Nat.gcd i.natAbs j.natAbs = 1))) H' := q
  refine rd_ite (fun e => ?_) fun e => ?_
  · rw [e, Bool.true_and] at q
    walk_at "rd"
    refine rd_ixT (sqT_same sm hS) (v := .int i) rfl ?_
    walk_at "rd"
    refine rd_ixT (sqT_same sm hS) (v := .int j) rfl ?_
    walk_at "rd"
    refine ⟨i, j, rfl, ?_⟩
    walk_at "rd"
    refine rd_eqI ?_
    rw [show decide (Nat.gcd i.natAbs j.natAbs = 1) = decide (((Nat.gcd i.natAbs j.natAbs : Nat) : Int) = 1) by apply decide_eq_decide.mpr; omega] at q
    exact q _ sm
  · rw [e, Bool.false_and] at q
    exact q _ sm
/-! ### _law_is_truth -/
def spTruth : Sp := fun vs H Q _ => ∃ b c : Bool, vs = [.bl b, .bl c] ∧ Q (.bl (b == c)) H
abbrev s__law_is_truth : Stmt := top 38
abbrev N__law_is_truth : List Str := ["found", "due"]
theorem sc__law_is_truth : FnScope ["found", "due"] ["found", "due"] (defScope s__law_is_truth) := ⟨rfl, rfl, rfl, by decide +kernel, rfl, by decide +kernel, by decide +kernel⟩
theorem bd__law_is_truth : Bnd s__law_is_truth "_law_is_truth" ["found", "due"] := fun _ _ _ _ _ _ us hl => match us, hl with | [_, _], _ => rfl

theorem d__law_is_truth (T : Bs K mg) (R : Rw K mg "_law_is_truth" s__law_is_truth) : Df P w K mg base CX0 1 "_law_is_truth" s__law_is_truth ["found", "due"] spTruth := by
  refine mk0 R sc__law_is_truth bd__law_is_truth (fun vs H Q E h => ?_) fun f cdv A outer s H vs Q E hr h => ?_
  · obtain ⟨b, c, rfl, _⟩ := h; rfl
  obtain ⟨b, c, rfl, q⟩ := h
  refine ⟨_, (pss_one (ps_ret (pe_ifExp (pt_tru (pv 1) (by intro _; rfl)) (pe_cmpR op_isBl (pv 0) pe_bl (nomark _)) (pe_cmpR op_isBl (pv 0) pe_bl (nomark _))))), ?_⟩
  walk_at "rd"
  refine truB ?_
  cases c with
  | true =>
    refine iteT ?_
    walk_at "rd"
    exact ⟨b, true, rfl, rfl, by rwa [show decide (b = true) = (b == true) by cases b <;> rfl]⟩
  | false =>
    refine iteF ?_
    walk_at "rd"
    exact ⟨b, false, rfl, rfl, by rwa [show decide (b = false) = (b == false) by cases b <;> rfl]⟩
end
end KP

set_option linter.all false
set_option maxRecDepth 100000
set_option maxHeartbeats 4000000
namespace KP
open PySem PySem.Spec PyProof.Rows L2 XA XB XC XD XM XE XF XG XV XDz
local macro_rules | `(tactic| walk_at "rd") => `(tactic| repeat (first
  | (with_reducible refine rd_seq ?_) | (with_reducible refine rd_asg ?_) | ((with_reducible refine' rd_var ?hv ?_); (case hv => exact rfl)) | (with_reducible refine rd_c ?_) | (with_reducible refine rd_gn ?_)
  | (with_reducible refine rd_op ?_) | (with_reducible refine rd_un ?_) | (with_reducible refine rd_cons ?_) | (with_reducible refine rd_nil ?_) | (with_reducible refine rd_cl ?_) | (with_reducible refine rd_ck ?_) | (with_reducible refine rd_cb ?_)
  | (with_reducible refine rd_ret ?_) | (with_reducible refine rd_drop ?_) | (with_reducible refine rd_ifs ?_) | (with_reducible refine rd_if ?_) | (with_reducible refine rd_test ?_) | (with_reducible refine rd_tb ?_) | (with_reducible refine rd_and ?_) | (with_reducible refine rd_or ?_)
  | (with_reducible refine rd_not ?_) | (with_reducible refine rd_andV ?_) | (with_reducible refine rd_orV ?_) | (with_reducible refine rd_notV ?_) | (with_reducible refine rd_chain ?_) | (with_reducible refine rd_tup ?_) | (with_reducible refine rd_lst ?_)
  | (with_reducible refine rd_bm0 ?_) | (with_reducible refine rd_bm ?_) | (with_reducible refine rd_sl ?_) | (with_reducible refine rd_part ?_) | (with_reducible refine rd_nopart ?_) | (with_reducible refine rd_dget ?_) | (with_reducible refine rd_dput ?_)
  | (with_reducible refine rd_next ?_) | (with_reducible refine rd_lc ?_) | ((with_reducible refine' rd_aug ?hv ?_); (case hv => exact rfl)) | (with_reducible refine rd_cont ?_) | (with_reducible refine rd_gcons ?_) | (with_reducible refine rd_gnil ?_) | (with_reducible refine rd_ifT ?_) | (with_reducible refine rd_yes ?_) | (with_reducible refine rd_tru ?_) | (with_reducible refine rd_cntE ?_) | (with_reducible refine rd_rng1 ?_) | (with_reducible refine rd_lrg ?_) | (with_reducible refine rd_rg2 ?_) | (with_reducible refine rd_back ?_) | (with_reducible refine rd_disp ?_) | (with_reducible refine rd_prN ?_) | (with_reducible refine rd_prC ?_) | (with_reducible refine rd_par ?_) | (with_reducible refine rd_par3 ?_) | (with_reducible refine rd_two ?_) | (with_reducible refine rd_three ?_) | (with_reducible refine rd_one ?_) | (with_reducible refine rd_onei ?_) | (with_reducible refine rd_iL ?_) | (with_reducible refine rd_iT ?_) | (with_reducible refine rd_rng2 ?_) | (with_reducible refine rd_bl ?_) | (with_reducible refine rd_int ?_) | (with_reducible refine rd_I0 ?_) | (with_reducible refine rd_U ?_) | (with_reducible refine rd_din ?_) | (with_reducible refine rd_dnin ?_) | (with_reducible refine rd_dnew ?_) | (with_reducible refine rd_lset ?_) | (with_reducible refine rd_enT ?_) | (with_reducible refine rd_idx ?_) | (with_reducible refine rd_rg1 ?_) | (with_reducible refine rd_tupRg ?_)))

section
variable {P : Program} {w : World} {K : PySem.W.Frag} {mg : Str → Option Value} {base : Heap}
/-! ### _law_mr_great -/
def Great (r : Int) : Prop := r ≠ 0 ∧ r.natAbs < 10 ^ 15
def spGreat (K : PySem.W.Frag) : Sp := fun vs H Q _ => ∃ (s g c : Addr) (n : Nat), vs = [.ref s] ∧ StAt n H s g c ∧ n < 900000 ∧
  ∀ r H', Great r → StAt (n + 3) H' s g c → XE.Kept s g H H' → Q (.int r) H'
abbrev s__law_mr_great : Stmt := top 42
abbrev N__law_mr_great : List Str := ["state", "found"]
theorem sc__law_mr_great : FnScope ["state", "found"] ["state"] (defScope s__law_mr_great) := ⟨rfl, rfl, rfl, by decide +kernel, rfl, by decide +kernel, by decide +kernel⟩
theorem bd__law_mr_great : Bnd s__law_mr_great "_law_mr_great" ["state"] := fun _ _ _ _ _ _ us hl => match us, hl with | [_], _ => rfl

theorem d__law_mr_great (T : Bs K mg) (R : Rw K mg "_law_mr_great" s__law_mr_great) (D__law_draw : Df P w K mg base CX0 2 "_law_draw" s__law_draw ["state", "room"] (spDraw K)) (D__law_pick : Df P w K mg base CX0 3 "_law_pick" s__law_pick ["state", "some"] (spPick K)) :
    Df P w K mg base CX0 4 "_law_mr_great" s__law_mr_great ["state"] (spGreat K) := by
  refine mk0 R sc__law_mr_great bd__law_mr_great (fun vs H Q E h => ?_) fun f cdv A outer sh H vs Q E hr h => ?_
  · obtain ⟨s, g, c, n, rfl, _⟩ := h; rfl
  obtain ⟨s, g, c, n, rfl, hS, hn, q⟩ := h
  refine ⟨_, (pss_cons (ps_set (i := 1) sc__law_mr_great.nd rfl (Or.inl rfl) (pe_op op_addU pe_int (pe_d D__law_draw hr (by decide) (by rfl) pass0 (pa_cons (pv 0) (pa_cons (pe_d D__law_pick hr (by decide) (by rfl) pass0 (pa_cons (pv 0) (pa_cons (pe_lst (pa_cons pe_int (pa_cons pe_int (pa_cons pe_int (pa_cons (pe_op op_pow pe_int pe_int) (pa_cons (pe_op op_sub (pe_op op_pow pe_int pe_int) pe_int) pa_nil)))))) pa_nil))) pa_nil)))))
      (pss_one (ps_ret (pe_op op_mulU (pv 1) (pe_d D__law_pick hr (by decide) (by rfl) pass0 (pa_cons (pv 0) (pa_cons (pe_lst (pa_cons pe_int (pa_cons (pe_un un_neg pe_int) pa_nil))) pa_nil))))))), ?_⟩
  walk_at "rd"
  refine rd_I (show CPow 10 9 from ⟨by decide, by decide, by decide⟩) ?_
  walk_at "rd"
  refine rd_I (show CPow 10 15 from ⟨by decide, by decide, by decide⟩) ?_
  walk_at "rd"
  refine ⟨lz (by simp), fun p3 h3 => ?_⟩
  obtain ⟨s3, e3⟩ := new_at (o := .lst [.int 2, .int 12, .int 1000, .int (10 ^ (9 : Int).toNat), .int (10 ^ (15 : Int).toNat - 1)]) h3
  walk_at "rd"
  generalize upd H p3 (.lst [.int 2, .int 12, .int 1000, .int (10 ^ (9 : Int).toNat), .int (10 ^ (15 : Int).toNat - 1)]) = H3 at s3 e3 ⊢
  refine ⟨s, g, c, p3, n, _, rfl, hS.same s3, by omega, .inl (.inl e3), hS.ne_n h3, by simp, by simp, fun o H4 ho S4 k4 => ?_⟩
  obtain ⟨m, rfl, m0, m1⟩ : ∃ m : Int, o = .int m ∧ 0 < m ∧ m < 10 ^ 15 := by
    simp only [List.mem_cons, List.not_mem_nil, or_false] at ho
    rcases ho with rfl | rfl | rfl | rfl | rfl
    all_goals exact ⟨_, rfl, by decide, by decide⟩
  walk_at "rd"
  refine ⟨s, g, c, n + 1, m, rfl, S4, by omega, m0, by omega, fun r H5 r0 r1 S5 k5 => ?_⟩
  walk_at "rd"
  refine rd_addI ?_
  walk_at "rd"
  refine ⟨lz (by simp), fun p6 h6 => ?_⟩
  obtain ⟨s6, e6⟩ := new_at (o := .lst [.int 1, .int (-1)]) h6
  walk_at "rd"
  generalize upd H5 p6 (.lst [.int 1, .int (-1)]) = H6 at s6 e6 ⊢
  refine ⟨s, g, c, p6, n + 2, _, rfl, S5.same s6, by omega, .inl (.inl e6), S5.ne_n h6, by simp, by simp, fun o H7 ho S7 k7 => ?_⟩
  walk_at "rd"
  have kk := (((XE.Kept.of s3).trans k4).trans k5).trans ((XE.Kept.of s6).trans k7)
  simp only [List.mem_cons, List.not_mem_nil, or_false] at ho
  rcases ho with rfl | rfl
  · refine rd_mulI (.inr ⟨by decide, by decide⟩) ?_
    exact q _ _ ⟨by omega, by omega⟩ S7 kk
  · refine rd_mulI (.inr ⟨by decide, by decide⟩) ?_
    exact q _ _ ⟨by omega, by omega⟩ S7 kk
end
end KP

set_option linter.all false
set_option maxRecDepth 100000
set_option maxHeartbeats 4000000
namespace KP
open PySem PySem.Spec PyProof.Rows L2 XA XB XC XD XM XE XF XG XV XDz
local macro_rules | `(tactic| walk_at "rd") => `(tactic| repeat (first
  | (with_reducible refine rd_seq ?_) | (with_reducible refine rd_asg ?_) | ((with_reducible refine' rd_var ?hv ?_); (case hv => exact rfl)) | (with_reducible refine rd_c ?_) | (with_reducible refine rd_gn ?_)
  | (with_reducible refine rd_op ?_) | (with_reducible refine rd_un ?_) | (with_reducible refine rd_cons ?_) | (with_reducible refine rd_nil ?_) | (with_reducible refine rd_cl ?_) | (with_reducible refine rd_ck ?_) | (with_reducible refine rd_cb ?_)
  | (with_reducible refine rd_ret ?_) | (with_reducible refine rd_drop ?_) | (with_reducible refine rd_ifs ?_) | (with_reducible refine rd_if ?_) | (with_reducible refine rd_test ?_) | (with_reducible refine rd_tb ?_) | (with_reducible refine rd_and ?_) | (with_reducible refine rd_or ?_)
  | (with_reducible refine rd_not ?_) | (with_reducible refine rd_andV ?_) | (with_reducible refine rd_orV ?_) | (with_reducible refine rd_notV ?_) | (with_reducible refine rd_chain ?_) | (with_reducible refine rd_tup ?_) | (with_reducible refine rd_lst ?_)
  | (with_reducible refine rd_bm0 ?_) | (with_reducible refine rd_bm ?_) | (with_reducible refine rd_sl ?_) | (with_reducible refine rd_part ?_) | (with_reducible refine rd_nopart ?_) | (with_reducible refine rd_dget ?_) | (with_reducible refine rd_dput ?_)
  | (with_reducible refine rd_next ?_) | (with_reducible refine rd_lc ?_) | ((with_reducible refine' rd_aug ?hv ?_); (case hv => exact rfl)) | (with_reducible refine rd_cont ?_) | (with_reducible refine rd_gcons ?_) | (with_reducible refine rd_gnil ?_) | (with_reducible refine rd_ifT ?_) | (with_reducible refine rd_yes ?_) | (with_reducible refine rd_tru ?_) | (with_reducible refine rd_cntE ?_) | (with_reducible refine rd_rng1 ?_) | (with_reducible refine rd_lrg ?_) | (with_reducible refine rd_rg2 ?_) | (with_reducible refine rd_back ?_) | (with_reducible refine rd_disp ?_) | (with_reducible refine rd_prN ?_) | (with_reducible refine rd_prC ?_) | (with_reducible refine rd_par ?_) | (with_reducible refine rd_par3 ?_) | (with_reducible refine rd_two ?_) | (with_reducible refine rd_three ?_) | (with_reducible refine rd_one ?_) | (with_reducible refine rd_onei ?_) | (with_reducible refine rd_iL ?_) | (with_reducible refine rd_iT ?_) | (with_reducible refine rd_rng2 ?_) | (with_reducible refine rd_bl ?_) | (with_reducible refine rd_int ?_) | (with_reducible refine rd_I0 ?_) | (with_reducible refine rd_U ?_) | (with_reducible refine rd_din ?_) | (with_reducible refine rd_dnin ?_) | (with_reducible refine rd_dnew ?_) | (with_reducible refine rd_lset ?_) | (with_reducible refine rd_enT ?_) | (with_reducible refine rd_idx ?_) | (with_reducible refine rd_rg1 ?_) | (with_reducible refine rd_tupRg ?_)))

/-! ### lists of values of any kind, told by their readings -/
def NearV (K : PySem.W.Frag) (H : Hp) (v : V) : Prop := ∃ d, Rp2 K H v d
section
variable {K : PySem.W.Frag} {H H' H0 : Hp} {σ : L2.St} {t t1 : TE} {ts : TA} {v : V} {n m i : Nat} {k h l : Int}
theorem NearV.same (h : NearV K H v) (e : Same H H') : NearV K H' v := by
  obtain ⟨d, q⟩ := h
  exact ⟨d, q.same e⟩
theorem near_flat (h : plainV v = true) : NearV K H v := ⟨.one (.flat v), rfl, h⟩
def NearL (K : PySem.W.Frag) (H : Hp) (a : Addr) (n : Nat) : Prop := ∃ xs, H a = some (.lst xs) ∧ xs.length ≤ n ∧ ∀ x ∈ xs, NearV K H x
theorem NearL.same {a : Addr} (h : NearL K H a n) (e : Same H H') : NearL K H' a n := by
  obtain ⟨xs, q, l, r⟩ := h
  exact ⟨xs, e _ _ q, l, fun x hx => (r x hx).same e⟩
/-- the reading gives a plain value, and changes nothing -/
def GP (t : TE) (σ : L2.St) (H0 : Hp) : Prop := ∀ H, Same H0 H → ∀ Q : VK, (∀ x, plainV x = true → Q x H) → t σ H Q
def GPs (n : Nat) (ts : TA) (σ : L2.St) (H0 : Hp) : Prop := ∀ H, Same H0 H → ∀ Q : List V → Hp → Prop, (∀ xs, xs.length ≤ n → xs.all plainV = true → Q xs H) → ts σ H Q
/-- the reading gives a value of a kind that is told -/
def GN (K : PySem.W.Frag) (t : TE) (σ : L2.St) (H0 : Hp) : Prop := ∀ H, Same H0 H → ∀ Q : VK, (∀ x H2, Same H H2 → NearV K H2 x → Q x H2) → t σ H Q
def GNs (K : PySem.W.Frag) (n : Nat) (ts : TA) (σ : L2.St) (H0 : Hp) : Prop := ∀ H, Same H0 H → ∀ Q : List V → Hp → Prop, (∀ xs H2, Same H H2 → xs.length ≤ n → (∀ x ∈ xs, NearV K H2 x) → Q xs H2) → ts σ H Q
theorem gp_c (h : plainV v = true) : GP (tC v) σ H0 := fun H _ Q q => q _ h
theorem gp_var (e : σ[i]? = some (some v)) (h : plainV v = true) : GP (tVar i) σ H0 := fun H _ Q q => ⟨v, e, q _ h⟩
theorem gp_sub0 (e : σ[i]? = some (some (.int k))) : GP (tOp (rI0 fun i j => .int (i - j)) (tC (.int 0)) (tVar i)) σ H0 := fun H _ Q q => ⟨_, e, 0, k, rfl, rfl, q _ rfl⟩
theorem gp_neg : GP (tUn (rU fun i => .int (-i)) (tC (.int k))) σ H0 := fun H _ Q q => ⟨k, rfl, q _ rfl⟩
theorem gps_nil : GPs n tNil σ H0 := fun H _ Q q => q [] (Nat.zero_le _) rfl
theorem gps_cons (h1 : GP t1 σ H0) (h2 : GPs n ts σ H0) : GPs (n + 1) (tCons t1 ts) σ H0 := fun H e Q q => h1 H e _ fun x px => h2 H e _ fun xs l ps => q _ (by simpa using l) (by rw [List.all_cons, px, ps] <;> rfl)
theorem gn_p (h : GP t σ H0) : GN K t σ H0 := fun H e Q q => h H e _ fun x px => q x H (Same.refl _) (near_flat px)
theorem gn_var (e : σ[i]? = some (some v)) (h : NearV K H0 v) : GN K (tVar i) σ H0 := fun H s Q q => ⟨v, e, q _ _ (Same.refl _) (h.same s)⟩
theorem gn_tup (h : GPs 30 ts σ H0) : GN K (tTup ts) σ H0 := fun H e Q q => h H e _ fun xs hl ps => ⟨lz (by omega), fun p hp => q _ _ (same_new hp) ⟨.one (.tup xs), p, rfl, .inl (.inl upd_same), by
  unfold okB
  rw [ps, decide_eq_true (by omega)] <;> rfl⟩⟩
theorem gn_lst (h : GPs 30 ts σ H0) : GN K (tLst ts) σ H0 := fun H e Q q => h H e _ fun xs hl ps => ⟨lz (by omega), fun p hp => q _ _ (same_new hp) ⟨.one (.lst xs), p, rfl, .inl (.inl upd_same)⟩⟩
theorem gn_dct : GN K tDNewK σ H0 := fun H e Q q p hp => q _ _ (same_new hp) ⟨.one .dct, p, [], rfl, upd_same, by simp⟩
/-- a pair of tuples -/
theorem gn_two {u1 u2 : TA} (h1 : GPs 30 u1 σ H0) (h2 : GPs 30 u2 σ H0) : GN K (tTup (tCons (tTup u1) (tCons (tTup u2) tNil))) σ H0 := fun H e Q q =>
  h1 H e _ fun xs hl ps => ⟨lz (by omega), fun p hp => h2 _ (e.trans (same_new hp)) _ fun ys hl2 ps2 => ⟨lz (by omega), fun p2 hp2 => ⟨lz (by simp), fun p3 hp3 => q _ _ (((same_new hp).trans (same_new hp2)).trans (same_new hp3))
    ⟨.tups [.tup xs, .tup ys], p3, _, rfl, .inl (.inl upd_same), .cons ⟨p, rfl, sqT_same ((same_new hp2).trans (same_new hp3)) (.inl (.inl upd_same)), by
      unfold okB
      rw [ps, decide_eq_true (by omega)] <;> rfl⟩ (.cons ⟨p2, rfl, sqT_same (same_new hp3) (.inl (.inl upd_same)), by
      unfold okB
      rw [ps2, decide_eq_true (by omega)] <;> rfl⟩ .nil)⟩⟩⟩⟩
theorem gns_nil : GNs K n tNil σ H0 := fun H _ Q q => q [] H (Same.refl _) (Nat.zero_le _) fun _ z => nomatch z
theorem gns_cons (h1 : GN K t1 σ H0) (h2 : GNs K n ts σ H0) : GNs K (n + 1) (tCons t1 ts) σ H0 := fun H e Q q => h1 H e _ fun x H2 s2 hx => h2 H2 (e.trans s2) _ fun xs H3 s3 l hs => q _ H3 (s2.trans s3) (by simpa using l) fun y hy => by
  rcases List.mem_cons.mp hy with e | e
  · rw [e]; exact hx.same s3
  · exact hs y e
theorem lst_near (h : GNs K n ts σ H0) (l : n ≤ 1000) {Q : VK} (q : ∀ p H', Same H0 H' → NearL K H' p n → Q (.ref p) H') : tLst ts σ H0 Q :=
  h H0 (Same.refl _) _ fun xs H2 s2 hl hs => ⟨lz (by omega), fun p hp => q p _ (s2.trans (same_new hp)) ⟨xs, upd_same, by omega, fun x hx => (hs x hx).same (same_new hp)⟩⟩
theorem add_near {a : Addr} (e : σ[i]? = some (some (.ref a))) (hn : NearL K H0 a m) (h : GNs K n ts σ H0) (l : n ≤ 1000) (l2 : m ≤ 1000) {Q : VK} (q : ∀ p H', Same H0 H' → NearL K H' p (m + n) → Q (.ref p) H') : tOp (rAddU K) (tVar i) (tLst ts) σ H0 Q := by
  refine ⟨_, e, lst_near h l fun p H' s' hp => ?_⟩
  obtain ⟨xs, a1, a2, a3⟩ := hn.same s'
  obtain ⟨ys, b1, b2, b3⟩ := hp
  refine catL a1 b1 (by omega) fun p2 hp2 => q p2 _ (s'.trans (same_new hp2)) ⟨xs ++ ys, upd_same, by rw [List.length_append]; omega, fun x hx => ?_⟩
  rcases List.mem_append.mp hx with h | h
  · exact (a3 x h).same (same_new hp2)
  · exact (b3 x h).same (same_new hp2)
section
variable {p : Addr}
theorem gp_ix0 (e : σ[i]? = some (some (.ref p))) (hp : SqT K H0 p [.int h, .int l]) : GP (tOp (rIx K) (tVar i) (tC (.int 0))) σ H0 := fun H s Q q => ⟨_, e, rd_ixT (sqT_same s hp) (v := .int h) rfl (q _ rfl)⟩
theorem gp_ix1 (e : σ[i]? = some (some (.ref p))) (hp : SqT K H0 p [.int h, .int l]) : GP (tOp (rIx K) (tVar i) (tC (.int 1))) σ H0 := fun H s Q q => ⟨_, e, rd_ixT (sqT_same s hp) (v := .int l) rfl (q _ rfl)⟩
theorem gp_sx0 (e : σ[i]? = some (some (.ref p))) (hp : SqT K H0 p [.int h, .int l]) : GP (tOp (rI0 fun i j => .int (i - j)) (tC (.int 0)) (tOp (rIx K) (tVar i) (tC (.int 0)))) σ H0 := fun H s Q q => ⟨_, e, rd_ixT (sqT_same s hp) (v := .int h) rfl ⟨0, h, rfl, rfl, q _ rfl⟩⟩
theorem gp_sx1 (e : σ[i]? = some (some (.ref p))) (hp : SqT K H0 p [.int h, .int l]) : GP (tOp (rI0 fun i j => .int (i - j)) (tC (.int 0)) (tOp (rIx K) (tVar i) (tC (.int 1)))) σ H0 := fun H s Q q => ⟨_, e, rd_ixT (sqT_same s hp) (v := .int l) rfl ⟨0, l, rfl, rfl, q _ rfl⟩⟩
theorem gp_str (e : σ[i]? = some (some (.ref p))) (hp : SqT K H0 p [.int h, .int l]) (hl : l.natAbs < 2 ^ 200) : GP (tCB (fun xs H Q => ∃ i, xs = [.int i] ∧ i.natAbs.log2 < 1920 ∧ Q (.str (toString i)) H) (tCons (tOp (rIx K) (tVar i) (tC (.int 1))) tNil)) σ H0 := fun H s Q q => ⟨_, e, rd_ixT (sqT_same s hp) (v := .int l) rfl ⟨l, rfl, Nat.lt_of_lt_of_le (PySem.Flt.log2_lt_of (k := 200) (by decide) hl) (by decide), q _ rfl⟩⟩
theorem okTwo : okB [V.int h, V.int l] = true := by simp [okB, plainV]
theorem gn_due1 (e : σ[i]? = some (some (.ref p))) (hp : SqT K H0 p [.int h, .int l]) : GN K (tTup (tCons (tVar i) tNil)) σ H0 := fun H s Q q => ⟨_, e, lz (by simp), fun p2 hp2 => q _ _ (same_new hp2) ⟨.tups [.tup [.int h, .int l]], p2, _, rfl, .inl (.inl upd_same), .cons ⟨p, rfl, sqT_same (s.trans (same_new hp2)) hp, okTwo⟩ .nil⟩⟩
theorem gn_due2 (e : σ[i]? = some (some (.ref p))) (hp : SqT K H0 p [.int h, .int l]) : GN K (tTup (tCons (tVar i) (tCons (tC (.int k)) tNil))) σ H0 := fun H s Q q => ⟨_, e, lz (by simp), fun p2 hp2 => q _ _ (same_new hp2) ⟨.tups [.tup [.int h, .int l], .flat (.int k)], p2, _, rfl, .inl (.inl upd_same), .cons ⟨p, rfl, sqT_same (s.trans (same_new hp2)) hp, okTwo⟩ (.cons ⟨rfl, rfl⟩ .nil)⟩⟩
theorem gn_list (e : σ[i]? = some (some (.ref p))) (hp : SqT K H0 p [.int h, .int l]) : GN K (tCB (fun xs H_1 Q => ∃ p ys, xs = [V.ref p] ∧ (SqL K H_1 p ys ∨ SqT K H_1 p ys) ∧ ∀ (l : Addr), H_1 l = none → Q (V.ref l) (upd H_1 l (HO.lst ys))) (tCons (tVar i) tNil)) σ H0 := fun H s Q q =>
  ⟨_, e, p, _, rfl, .inr (sqT_same s hp), fun p2 hp2 => q _ _ (same_new hp2) ⟨.one (.lst [.int h, .int l]), p2, rfl, .inl (.inl upd_same)⟩⟩
theorem gn_add1 (e : σ[i]? = some (some (.ref p))) (hp : SqT K H0 p [.int h, .int l]) : GN K (tOp (rAddU K) (tVar i) (tTup (tCons (tC (.int k)) tNil))) σ H0 := fun H s Q q =>
  ⟨_, e, lz (by simp), fun p2 hp2 => catS (sqT_same (s.trans (same_new hp2)) hp) (.inl (.inl upd_same)) (by simp) fun p3 H3 s3 h3 => q _ _ ((same_new hp2).trans s3) ⟨.one (.tup [.int h, .int l, .int k]), p3, rfl, h3, by simp [okB, plainV]⟩⟩
theorem okCut {xs : List V} {lo hi : Option Int} (h : okB xs = true) : okB (cutV xs lo hi) = true := by
  unfold okB at h ⊢
  rw [Bool.and_eq_true] at h ⊢
  refine ⟨List.all_eq_true.mpr fun x hx => List.all_eq_true.mp h.1 x (List.mem_of_mem_drop (List.mem_of_mem_take hx)), decide_eq_true ?_⟩
  exact Nat.le_trans (cutV_length xs lo hi) (of_decide_eq_true h.2)
theorem gn_cut (e : σ[i]? = some (some (.ref p))) (hp : SqT K H0 p [.int h, .int l]) : GN K (tSl (rSlU K) (tVar i) tNoPart (tPart (tC (.int 1)))) σ H0 := fun H s Q q =>
  ⟨_, e, 1, rfl, slS (sqT_same s hp) fun p3 H3 s3 h3 => q _ _ s3 ⟨.one (.tup _), p3, rfl, h3, okCut okTwo⟩⟩
theorem gn_disp {j : Int} (hk : k = 1) (hj : j = 2) : GN K (tDisp [(tC (.int k), tC (.int j))]) σ H0 := by
  subst hk hj
  intro H e Q q p hp
  refine ⟨upd_same, [(.inl 1, .int 2)], rfl, by simp, q _ _ (fun b o hb => ?_) ⟨.one .dct, p, _, rfl, upd_same, by decide⟩⟩
  have : b ≠ p := fun z => by rw [z, hp] at hb; cases hb
  rw [upd_ne this, upd_ne this]; exact hb
end
end
local macro_rules | `(tactic| walk_at "gp1") => `(tactic| first | exact gp_c rfl | exact gp_neg | exact gp_var rfl rfl | exact gp_sub0 rfl | exact gp_ix0 rfl (by assumption) | exact gp_ix1 rfl (by assumption) | exact gp_sx0 rfl (by assumption) | exact gp_sx1 rfl (by assumption) | exact gp_str rfl (by assumption) (by assumption))
local macro_rules | `(tactic| walk_at "gps1") => `(tactic| focus ((repeat (first | exact gps_nil | (refine gps_cons ?_ ?_; focus walk_at "gp1"))); done))
local macro_rules | `(tactic| walk_at "gn1") => `(tactic| first | (refine gn_p ?_; focus walk_at "gp1") | exact gn_dct | (refine gn_tup ?_; walk_at "gps1") | (refine gn_lst ?_; walk_at "gps1") | (refine gn_two ?_ ?_; walk_at "gps1"; walk_at "gps1") | exact gn_disp rfl rfl | exact gn_list rfl (by assumption) | exact gn_add1 rfl (by assumption) | exact gn_cut rfl (by assumption) | exact gn_due1 rfl (by assumption) | exact gn_due2 rfl (by assumption) | exact gn_var rfl (by assumption))
local macro_rules | `(tactic| walk_at "gns1") => `(tactic| focus ((repeat (first | exact gns_nil | (refine gns_cons ?_ ?_; focus walk_at "gn1"))); done))
section
variable {P : Program} {w : World} {K : PySem.W.Frag} {mg : Str → Option Value} {base : Heap}
/-! ### _law_mr_near -/
def spNear (K : PySem.W.Frag) : Sp := fun vs H Q _ => ∃ (a b h l : Int) (v : V), vs = [.int a, .int b, v] ∧ NumV K H v h l ∧ l.natAbs < 2 ^ 200 ∧ ∀ p H', Same H H' → NearL K H' p 300 → Q (.ref p) H'
abbrev s__law_mr_near : Stmt := top 43
abbrev N__law_mr_near : List Str := ["top", "bottom", "due", "some"]
theorem sc__law_mr_near : FnScope ["top", "bottom", "due", "some"] ["top", "bottom", "due"] (defScope s__law_mr_near) := ⟨rfl, rfl, rfl, by decide +kernel, rfl, by decide +kernel, by decide +kernel⟩
theorem bd__law_mr_near : Bnd s__law_mr_near "_law_mr_near" ["top", "bottom", "due"] := fun _ _ _ _ _ _ us hl => match us, hl with | [_, _, _], _ => rfl

theorem d__law_mr_near (T : Bs K mg) (R : Rw K mg "_law_mr_near" s__law_mr_near) : Df P w K mg base CX0 1 "_law_mr_near" s__law_mr_near ["top", "bottom", "due"] (spNear K) := by
  refine mk0 R sc__law_mr_near bd__law_mr_near (fun vs H Q E h => ?_) fun f cdv A outer sh H vs Q E hr h => ?_
  · obtain ⟨a, b, h, l, v, rfl, _⟩ := h; rfl
  obtain ⟨a, b, h, l, v, rfl, hv, hl, q⟩ := h
  refine ⟨_, (pss_cons (ps_set (i := 3) sc__law_mr_near.nd rfl (Or.inl rfl) (pe_lst (pa_cons (pv 0) (pa_cons (pv 1) (pa_cons (pv 2) (pa_cons (pe_tup (pa_cons (pv 0) (pa_cons (pv 1) pa_nil))) (pa_cons (pe_tup (pa_cons (pv 1) (pa_cons (pv 0) pa_nil))) (pa_cons (pe_tup (pa_cons (pv 0) (pa_cons (pe_op op_sub pe_int (pv 1)) pa_nil))) (pa_cons (pe_tup (pa_cons (pv 0) (pa_cons pe_int pa_nil))) (pa_cons (pe_tup (pa_cons (pv 0) (pa_cons pe_int pa_nil))) (pa_cons (pe_tup (pa_cons pe_int (pa_cons (pv 1) pa_nil))) pa_nil)))))))))))
      (pss_cons (ps_set (i := 3) sc__law_mr_near.nd rfl (Or.inl rfl) (pe_op op_addU (pv 3) (pe_lst (pa_cons (pe_tup (pa_cons (pv 1) (pa_cons (pv 1) pa_nil))) (pa_cons (pe_lst (pa_cons (pv 0) (pa_cons (pv 1) pa_nil))) (pa_cons (pe_tup (pa_cons (pv 0) (pa_cons (pv 1) (pa_cons pe_int pa_nil)))) (pa_cons (pe_tup (pa_cons (pv 0) pa_nil)) (pa_cons (pe_tup (pa_cons (pv 0) (pa_cons pe_bl pa_nil))) (pa_cons (pe_tup (pa_cons pe_bl (pa_cons (pv 1) pa_nil))) pa_nil)))))))))
      (pss_cons (ps_if (pt_tru (pe_callB call_isU (by rfl) T.n_isinstance (by decide +kernel) (pa_cons (pv 2) (pa_cons (pe_bltn (v := .ty "tuple") (by rfl) T.n_tuple (by decide +kernel) rfl) pa_nil))) (by intro _; rfl)) (pss_cons (ps_set (i := 3) sc__law_mr_near.nd rfl (Or.inl rfl) (pe_op op_addU (pv 3) (pe_lst (pa_cons (pe_callTy call_list_of (by rfl) T.n_list (by decide +kernel) (pa_cons (pv 2) pa_nil)) (pa_cons (pe_op op_addU (pv 2) (pe_tup (pa_cons pe_int pa_nil))) (pa_cons (pe_slice sl_U (pv 2) po_none (po_some pe_int)) (pa_cons (pe_tup (pa_cons (pe_ix ix_seq (pv 2) pe_int (fun _ _ => rfl)) (pa_cons (pe_ix ix_seq (pv 2) pe_int (fun _ _ => rfl)) pa_nil))) (pa_cons (pe_tup (pa_cons (pe_op op_sub pe_int (pe_ix ix_seq (pv 2) pe_int (fun _ _ => rfl))) (pa_cons (pe_ix ix_seq (pv 2) pe_int (fun _ _ => rfl)) pa_nil))) (pa_cons (pe_tup (pa_cons (pe_ix ix_seq (pv 2) pe_int (fun _ _ => rfl)) (pa_cons (pe_op op_sub pe_int (pe_ix ix_seq (pv 2) pe_int (fun _ _ => rfl))) pa_nil))) pa_nil)))))))))
        (pss_one (ps_set (i := 3) sc__law_mr_near.nd rfl (Or.inl rfl) (pe_op op_addU (pv 3) (pe_lst (pa_cons (pe_tup (pa_cons (pe_ix ix_seq (pv 2) pe_int (fun _ _ => rfl)) (pa_cons (pe_callTy call_str_int (by rfl) T.n_str (by decide +kernel) (pa_cons (pe_ix ix_seq (pv 2) pe_int (fun _ _ => rfl)) pa_nil)) pa_nil))) (pa_cons (pe_tup (pa_cons (pv 2) (pa_cons pe_int pa_nil))) (pa_cons (pe_tup (pa_cons (pv 2) pa_nil)) pa_nil)))))))) pss_nil)
      (pss_cons (ps_set (i := 3) sc__law_mr_near.nd rfl (Or.inl rfl) (pe_op op_addU (pv 3) (pe_lst (pa_cons pe_non (pa_cons pe_bl (pa_cons pe_bl (pa_cons pe_str (pa_cons pe_str (pa_cons (pe_tup pa_nil) (pa_cons pe_dnewK (pa_cons (pe_lst pa_nil) (pa_cons pe_int (pa_cons (pe_tup (pa_cons pe_int (pa_cons pe_int pa_nil))) (pa_cons (pe_tup (pa_cons pe_int (pa_cons pe_int pa_nil))) (pa_cons (pe_tup (pa_cons pe_int (pa_cons pe_int pa_nil))) (pa_cons (pe_tup (pa_cons pe_int (pa_cons pe_int pa_nil))) (pa_cons (pe_tup (pa_cons pe_int (pa_cons pe_int pa_nil))) (pa_cons (pe_tup (pa_cons (pe_un un_neg pe_int) (pa_cons pe_int pa_nil))) pa_nil))))))))))))))))))
      (pss_cons (ps_set (i := 3) sc__law_mr_near.nd rfl (Or.inl rfl) (pe_op op_addU (pv 3) (pe_lst (pa_cons (pe_tup (pa_cons pe_int (pa_cons pe_int pa_nil))) (pa_cons (pe_tup (pa_cons pe_int (pa_cons (pe_un un_neg pe_int) pa_nil))) (pa_cons (pe_tup (pa_cons pe_bl (pa_cons pe_int pa_nil))) (pa_cons (pe_tup (pa_cons pe_bl (pa_cons pe_int pa_nil))) (pa_cons (pe_tup (pa_cons pe_int (pa_cons pe_bl pa_nil))) (pa_cons (pe_tup (pa_cons pe_non (pa_cons pe_int pa_nil))) (pa_cons (pe_tup (pa_cons pe_str (pa_cons pe_str pa_nil))) (pa_cons (pe_tup (pa_cons pe_int (pa_cons pe_int (pa_cons pe_int pa_nil)))) (pa_cons (pe_disp (pps_cons pe_int pe_int pps_nil) (by rfl) (by rfl) (fun z => by cases z) (by decide)) pa_nil))))))))))))
      (pss_one (ps_ret (pe_op op_addU (pv 3) (pe_lst (pa_cons (pe_tup (pa_cons (pe_tup (pa_cons pe_int (pa_cons pe_int pa_nil))) (pa_cons (pe_tup (pa_cons pe_int (pa_cons pe_int pa_nil))) pa_nil))) pa_nil)))))))))), ?_⟩
  have nv : NearV K H v := by
    unfold NumV at hv
    split at hv
    · subst hv; exact near_flat rfl
    · obtain ⟨p, rfl, hp⟩ := hv
      exact ⟨.one (.tup [.int h, .int l]), p, rfl, hp, by simp [okB, plainV]⟩
  refine rd_seq ?_
  refine rd_asg ?_
  refine lst_near (K := K) (n := 30) (by walk_at "gns1") (by decide) fun p1 H1 s1 n1 => ?_
  refine rd_gn ?_
  try dsimp only
  refine rd_seq ?_
  refine rd_asg ?_
  refine add_near (n := 30) rfl n1 (by walk_at "gns1") (by decide) (by decide) fun p2 H2 s2 n2 => ?_
  refine rd_gn ?_
  try dsimp only
  refine rd_seq ?_
  have s2 := s1.trans s2
  by_cases l1 : l = 1
  · unfold NumV at hv
    rw [if_pos l1] at hv
    subst hv
    walk_at "rd"
    refine rd_isT2 (d := .one (.flat (.int h))) ⟨rfl, rfl⟩ (kit_tuple2 _) ?_
    refine truB ?_
    refine iteF ?_
    refine rd_next ?_
    try dsimp only
    refine rd_seq ?_
    refine rd_asg ?_
    refine add_near (n := 30) rfl n2 (by walk_at "gns1") (by decide) (by decide) fun p5 H5 s5 n5 => ?_
    refine rd_gn ?_
    try dsimp only
    refine rd_seq ?_
    refine rd_asg ?_
    refine add_near (n := 30) rfl n5 (by walk_at "gns1") (by decide) (by decide) fun p6 H6 s6 n6 => ?_
    refine rd_gn ?_
    try dsimp only
    refine rd_ret ?_
    refine add_near (n := 30) rfl n6 (by walk_at "gns1") (by decide) (by decide) fun p7 H7 s7 n7 => ?_
    obtain ⟨xs, x1, x2, x3⟩ := n7
    exact q _ _ (s2.trans (s5.trans (s6.trans s7))) ⟨xs, x1, by omega, x3⟩
  · unfold NumV at hv
    rw [if_neg l1] at hv
    obtain ⟨p, rfl, hp⟩ := hv
    walk_at "rd"
    refine rd_isT2 (d := .one (.tup [.int h, .int l])) ⟨p, rfl, sqT_same s2 hp, by simp [okB, plainV]⟩ (kit_tuple2 _) ?_
    refine truB ?_
    refine iteT ?_
    have hp2 := sqT_same s2 hp
    refine rd_seq ?_
    refine rd_asg ?_
    refine add_near (n := 30) rfl n2 (by walk_at "gns1") (by decide) (by decide) fun p3 H3 s3 n3 => ?_
    have hp3 := sqT_same s3 hp2
    clear hp2
    refine rd_gn ?_
    try dsimp only
    refine rd_asg ?_
    refine add_near (n := 30) rfl n3 (by walk_at "gns1") (by decide) (by decide) fun p4 H4 s4 n4 => ?_
    refine rd_gn ?_
    try dsimp only
    have s4 := s2.trans (s3.trans s4)
    refine rd_seq ?_
    refine rd_asg ?_
    refine add_near (n := 30) rfl n4 (by walk_at "gns1") (by decide) (by decide) fun p5 H5 s5 n5 => ?_
    refine rd_gn ?_
    try dsimp only
    refine rd_seq ?_
    refine rd_asg ?_
    refine add_near (n := 30) rfl n5 (by walk_at "gns1") (by decide) (by decide) fun p6 H6 s6 n6 => ?_
    refine rd_gn ?_
    try dsimp only
    refine rd_ret ?_
    refine add_near (n := 30) rfl n6 (by walk_at "gns1") (by decide) (by decide) fun p7 H7 s7 n7 => ?_
    obtain ⟨xs, x1, x2, x3⟩ := n7
    exact q _ _ (s4.trans (s5.trans (s6.trans s7))) ⟨xs, x1, by omega, x3⟩
end
end KP

set_option linter.all false
set_option maxRecDepth 100000
set_option maxHeartbeats 4000000
/-! XEv: own errors held as values: made, told by class, asked for a field. -/
namespace XEv
open PySem PySem.Spec PyProof.Rows L2 NdefX XA XB XC XD XM XE XF XG XS
/-- an own error, held as a value: its class, its fields -/
def ErrO (H : Hp) (a C : Addr) (fs : List (Str × V)) : Prop :=
  (H a = some (ExO (.ref C) a) ∧ fs = []) ∨ (H a = some (ExV (.ref C) none a) ∧ fs = []) ∨ ∃ d, H a = some (exo a C (some d)) ∧ H d = some (exd d fs)
theorem ErrO.same {H H' : Hp} {a C : Addr} {fs : List (Str × V)} (h : ErrO H a C fs) (e : Same H H') : ErrO H' a C fs := by
  rcases h with ⟨h, q⟩ | ⟨h, q⟩ | ⟨d, h, q⟩
  · exact .inl ⟨e _ _ h, q⟩
  · exact .inr (.inl ⟨e _ _ h, q⟩)
  · exact .inr (.inr ⟨d, e _ _ h, e _ _ q⟩)
theorem errO_of {D : Addr} {H : Hp} {v : V} (h : Err D H v) : ∃ a, v = .ref a ∧ ErrO H a D [] := by
  obtain ⟨a, q, r⟩ := h
  exact ⟨a, q, .inr (.inl ⟨r, rfl⟩)⟩
theorem inst_ev {X : Cx} {pins : List (Addr × Obj)} {σ : L2.St} {H : Hp} {s : Shared} {a C : Addr} {fs : List (Str × V)} (I : Inv X pins σ H s) (h : ErrO H a C fs) :
    ∃ oe od, PySem.W.InstAt s.heap a oe C od ∧ ∀ f v, fs.lookup f = some v → ∃ ob u, od = some ob ∧ PySem.W.lookIn f ob = some (some u) ∧ L2.RelV v u := by
  rcases h with ⟨h, rfl⟩ | ⟨h, rfl⟩ | ⟨d, h, q⟩
  · obtain ⟨⟨oe, vs, ho, hz, hd, _⟩, _, _⟩ := (show ObjOk X.prog X.w H s.heap a (ExO (.ref C) a) from I.hok a _ h)
    exact ⟨oe, none, ⟨ho, hz.1, by unfold PySem.W.notCls; rw [hd] <;> rfl, by rw [hz.2] <;> trivial⟩, fun f v l => nomatch l⟩
  · obtain ⟨⟨oe, vs, ho, hz, hd⟩, _, _⟩ := (show ObjOk X.prog X.w H s.heap a (ExV (.ref C) none a) from I.hok a _ h)
    exact ⟨oe, none, ⟨ho, hz.1, by unfold PySem.W.notCls; rw [hd] <;> rfl, by rw [hz.2] <;> trivial⟩, fun f v l => nomatch l⟩
  · obtain ⟨t1, ho⟩ := exo_at I.hok h
    obtain ⟨mA, hns, hr⟩ := exd_at I.hok q
    obtain ⟨od, ho2, hl⟩ := lookIn_ns hns
    refine ⟨_, some od, ⟨ho, rfl, rfl, ho2⟩, fun f v l => ?_⟩
    obtain ⟨u, hu, ru⟩ := RelO.some_of (v := v) (o := mA f) (by rw [← l]; exact hr f)
    exact ⟨od, u, rfl, by rw [hl, hu], ru⟩
/-- isinstance(x, c): as before, or of an own error held as a value -/
def rIsV (K : PySem.W.Frag) (r : List V → Hp → VK → Prop) : List V → Hp → VK → Prop := fun xs H Q => r xs H Q ∨ ∃ (a C : Addr) (fs : List (Str × V)) (c : V) (cv : Value) (b : Bool), xs = [.ref a, c] ∧ ErrO H a C fs ∧ ExcC K C ∧ ClsV c cv ∧ PySem.W.kitOne K (.ref C) cv = some b ∧ Q (.bl b) H
theorem call_isV {X : Cx} {r : List V → Hp → VK → Prop} (hr : CallR X (.builtin "isinstance") r) : CallR X (.builtin "isinstance") (rIsV X.K r) := by
  intro pins s σ H xs us Q I r1 h
  rcases h with h | ⟨a, D, fs, c, cv, b, rfl, ha, C, k, e, q⟩
  · exact hr pins s σ H xs us Q I r1 h
  · obtain ⟨u1, u2, rfl, r1, r2⟩ := vals2 r1
    cases (show u1 = Value.ref a from r1)
    have e2 := k.eq r2
    subst e2
    obtain ⟨oe, od, J, _⟩ := inst_ev I ha
    have hcl : (PySem.W.clsIn X.K D).isSome = true := by
      have z := C.hd
      unfold PySem.W.hasDictIn at z
      cases q : PySem.W.clsIn X.K D with
      | none =>
        rw [q] at z
        cases z
      | some cd => rfl
    exact PySem.W.kia_one (PySem.W.kitx_exc hcl C.hg C.hk C.hs C.ha C.hn C.ht C.hm) I.kIn J e (fun z => nomatch z) fun tk => ⟨.bl b, H, I.kept (t' := tk) fun _ _ z => z, rfl, q⟩
/-- its field -/
def tFo (K : PySem.W.Frag) (f : Str) (te : TE) : TE := fun σ H Q => te σ H fun x H1 => ∃ (a C : Addr) (fs : List (Str × V)) (v : V), x = .ref a ∧ ErrO H1 a C fs ∧ ExcC K C ∧ PySem.W.findIn K (.ref C) f = some none ∧ fs.lookup f = some v ∧ Q v H1
theorem pe_fo {X : Cx} {e : Expr} {te : TE} {pos : Pos} {n : Str} (he : PE X e te) (hb : attributeBase e n X.env (eval e X.env) = eval e X.env := by rfl) : PE X (.Attribute e n pos) (tFo X.K n te) := by
  refine ⟨fun pins s σ H Q I h => ?_⟩
  refine attr_of hb (thn (he.run pins s σ H _ I h) fun u s1 hh => ?_)
  obtain ⟨x, H1, I1, rx, a, D, fs, v, ex, ha, C, hno, l, q⟩ := hh
  subst ex
  obtain rfl : u = Value.ref a := rx
  obtain ⟨oe, od, J, lk⟩ := inst_ev I1 ha
  obtain ⟨ob, u, rfl, hu, ru⟩ := lk n v l
  exact HandSPX.exc_get I1.kIn J C.hg C.hk C.hs (PySem.W.findObj_own C.hd hno rfl hu) (handed_of ru) ⟨v, H1, I1.tok _, ru, q⟩
/-- C(e) of a class without an own __init__ -/
def tEx (C : Addr) (te : TE) : TE := fun σ H Q => te σ H fun _ H1 => ∀ a H2, Same H1 H2 → ErrO H2 a C [] → Q (.ref a) H2
theorem pe_ex {X : Cx} {C : Addr} {x : Str} {e : Expr} {ta : TE} {p pos : Pos} (T : Xc X.K X.mg x C) (hg : Gl X x) (he : PE X e ta) (hs : starEach [e] X.env = (false, eval e X.env) :: starEach [] X.env := by rfl) (hdb : (x == ("__debug__" : Str)) = false := by decide) :
    PE X (.Call (.Name x p) [e] [] pos) (tEx C ta) := by
  refine ⟨fun pins s σ H Q I h => ?_⟩
  refine (pe_exc1 PySem.F.excBase_ValueError T.x T.g T.k hg (pe_mon he) hs hdb).run pins s σ H Q I ?_
  exact ⟨_, h, fun v H1 q a ha => q a _ (same_new ha) (.inl ⟨upd_same, rfl⟩)⟩
end XEv

set_option linter.all false
set_option maxRecDepth 100000
set_option maxHeartbeats 4000000
/-! XEw: C(n) and C(par=n) as values, C's __init__ as XS has it. -/
namespace PySem
namespace HandSPX
open Builtin Builtin.ObjectAttr
section
variable {prog : Program} {w : World} {A : Around} {E : Value → Shared → Prop} {R : Result → Shared → Prop} {h : Heap} {g : Array GenState} {d : Drawn} {t : Nat} {os : OsState} {M : Model}
variable {nm q : Str} {C N : Addr} {bs bm bmB : List Value} {hdct : Bool} {sn : List Str} {sub : List Value} {ab : Bool} {col : Option Bool} {dd : Option Addr} {k0 k1 k2 k3 k5 : Option Value} {B newId initId : String}
theorem check_newK (F : ExcBaseFacts B newId initId bmB) (hT : ∀ X : String, bm.contains (.type X) = bmB.contains (.type X)) {kw : List (Str × Value)} {Q : Unit → Shared → Prop}
    (hC : h.get? C = some (excClassObj nm q C N bs bm hdct sn sub ab col dd k0 k1 k2 k3 k5 newId)) (hq : Q () ⟨h, g, d, t, os⟩) : wpAny M A (checkBuiltinCall newId ⟨[.ref C], kw⟩) Q E ⟨h, g, d, t, os⟩ := by
  have hcont : (Value.ref C :: bm).contains (.type B) = true := by rw [List.contains_cons, hT, F.hasB, Bool.or_true]
  have hstar := F.noStar
  simp only [checkBuiltinCall, F.newKind, F.newSplit, F.newRow]
  repeat (first | refine wpAny_loadPart_at hC ?_ | (refine wpAny_isSubtype_exc hC ?_; rw [hcont]) | refine wpAny_staticBase_exc hC ?_ | refine wpAny_madeBy_exc hC ?_ | simp only [bne_self_eq_false, Bool.false_eq_true, if_false] | wp_step)
  exact hq
theorem newK (F : ExcBaseFacts B newId initId bmB) (hT : ∀ X : String, bm.contains (.type X) = bmB.contains (.type X)) {kw : List (Str × Value)}
    (hC : h.get? C = some (excClassObj nm q C N bs bm hdct sn sub ab col dd k0 k1 k2 k3 k5 newId))
    (hq : R (.ok (.ret (.ref (h.objs.size + 1)))) ⟨(h.push { cls := .type "tuple", data := .seq ([] : List Value).toArray }).push
      { cls := .ref C, data := .fields #[.ref h.objs.size, .none, .none, .none, .bool false, .none] }, g, d, t, os⟩) :
    codeAny (model prog w) A (.builtin newId ⟨[.ref C], kw⟩) R ⟨h, g, d, t, os⟩ := by
  have hrest : ([] : List Value).length ≤ sizeLine := Nat.zero_le _
  have hends := F.ends
  have hcB : (Value.ref C :: bm).contains (.type B) = true := by rw [List.contains_cons, hT, F.hasB, Bool.or_true]
  have hcA : (Value.ref C :: bm).contains (.type "AttributeError") = false := by rw [List.contains_cons, hT, F.noAttr]; rfl
  have hcN : (Value.ref C :: bm).contains (.type "NameError") = false := by rw [List.contains_cons, hT, F.noName]; rfl
  refine codeAny_builtinAt F.entry ?_
  unfold Builtin.«BaseException.__new__»
  refine wpAt_bind ?_
  show wpAt _ _ _ (stack >>= _) _ _ _
  refine wpAt_bind (wpAt_stack fun p below => wpAt_of_wpAny ?_)
  wp_walk
  refine wpAt_of_wpAny ?_
  rw [F.owner]
  repeat (first | with_reducible refine wpAny_madeHere_exc F.canon hC ?_ | with_reducible refine wpAny_loadPart_at hC ?_ | (with_reducible refine wpAny_isSubtype_exc hC ?_; first | rw [hcB] | rw [hcA] | rw [hcN]) | wp_step)
  show R _ _
  rw [Heap.size_push]
  exact hq
theorem type_callK (F : ExcBaseFacts B newId initId bmB) (hT : ∀ X : String, bm.contains (.type X) = bmB.contains (.type X)) {kw : List (Str × Value)} {fI : Addr} {Q : Fin → Shared → Prop}
    (hC : h.get? C = some (excClassObj nm q C N bs bm hdct sn sub ab col dd k0 k1 k2 k3 k5 newId))
    (hi : W.Looks (model prog w) h (typeLookup (.ref C) "__init__") (some (.ref fI))) (hb : ∀ self, W.Looks (model prog w) h (bindSpecial (.ref fI) self) (.ref fI, [self]))
    (hq : codeAny (model prog w) A (.call (.ref fI) ⟨[.ref (h.objs.size + 1)], kw⟩)
      (fun r s' => match r with | .ok (.ret v) => v = .none ∧ Q (.done (.ret (.ref (h.objs.size + 1)))) s' | .ok _ => False | .error e => E e s')
      ⟨(h.push (W.kdv_tup [])).push (excO C h.objs.size), g, d, t, os⟩) :
    wpAny (model prog w) A (Builtin.«type.__call__» ⟨[.ref C], kw⟩) Q E ⟨h, g, d, t, os⟩ := by
  repeat (first | with_reducible refine wpAny_loadPart_at hC ?_ | with_reducible refine wpAny_madeBy_exc hC ?_ | wp_step)
  refine codeAny_call_builtin_code (Code.quiet_builtin _ F.quiet) (check_newK F hT hC ?_)
  refine newK F hT hC ?_
  show wpAny _ _ _ _ _ _
  have k : ∀ b o, h.get? b = some o → ((h.push (W.kdv_tup [])).push (excO C h.objs.size)).get? b = some o := fun b o e => Heap.get?_push_of_some _ (Heap.get?_push_of_some _ e)
  have hC₁ := k _ _ hC
  have hget : ((h.push (W.kdv_tup [])).push (excO C h.objs.size)).get? (h.objs.size + 1) = some (excO C h.objs.size) := by heap_get
  have hcC : (Value.ref C :: bm).contains (.ref C) = true := by simp
  have i1 := hi.keeps k
  have b1 := (hb (.ref (h.objs.size + 1))).keeps k
  unfold isInstance
  repeat (first | with_reducible refine wpAny_loadPart_at hget ?_ | (with_reducible refine wpAny_isSubtype_exc hC₁ ?_; rw [hcC]) | wp_step)
  show wpAny _ _ (typeLookup (.ref C) _) _ _ _
  refine i1.at ?_
  refine wpAny_holding (wpAny_bind (b1.at ?_))
  refine wpAny_bind (wpAny_call (codeAny_mono hq fun r s' z => ?_))
  rcases r with e | (v | _ | _ | _) <;> first | exact z | exact z.elim | skip
  obtain ⟨rfl, z⟩ := z
  first
    | exact wpAny_pure (wpAny_pure z)
    | (wp_walk; exact z)
theorem call_ownK (F : ExcBaseFacts B newId initId bmB) (hT : ∀ X : String, bm.contains (.type X) = bmB.contains (.type X)) {kw : List (Str × Value)} {fI : Addr}
    (hC : h.get? C = some (excClassObj nm q C N bs bm hdct sn sub ab col dd k0 k1 k2 k3 k5 newId))
    (hi : W.Looks (model prog w) h (typeLookup (.ref C) "__init__") (some (.ref fI))) (hb : ∀ self, W.Looks (model prog w) h (bindSpecial (.ref fI) self) (.ref fI, [self]))
    (hq : codeAny (model prog w) (A.under (.builtin "type.__call__" ⟨[.ref C], kw⟩)) (.call (.ref fI) ⟨[.ref (h.objs.size + 1)], kw⟩) (W.InitBack (h.objs.size + 1) R)
      ⟨(h.push (W.kdv_tup [])).push (excO C h.objs.size), g, d, t, os⟩) :
    codeAny (model prog w) A (.call (.ref C) ⟨[], kw⟩) R ⟨h, g, d, t, os⟩ := by
  have f1 := tc_lookup
  have f2 := tc_bind (.ref C)
  have hTy : (⟨h, g, d, t, os⟩ : Shared).TypeIs (.ref C) "type" := ⟨_, hC, rfl⟩
  refine codeAny_of_tree ?_
  show wpAny _ _ (callAny (.ref C) _) _ _ _
  repeat (any_goals (first | assumption | with_reducible refine wpAny_loadPart_at hC ?_ | wp_step))
  refine ⟨rfl, ?_⟩
  refine codeAny_call_builtin_at (Code.quiet_builtin _ (by decide +kernel)) entry_typeCall (wpAny_check_type_call_sub hC (type_callK F hT hC hi hb ?_))
  refine codeAny_mono hq fun r s' z => ?_
  rcases r with e | (v | _ | _ | _) <;> exact z
end
end HandSPX
end PySem
namespace XEw
open PySem PySem.Spec PyProof.Rows L2 NdefX XA XB XC XD XM XE XF XG XS XEv
/-- C(n), C(par=n): a new error that holds n -/
def tInV (C : Addr) (fld : Str) (te : TE) : TE := fun σ H Q => te σ H fun v H1 => ∃ n : Int, v = .int n ∧ 0 ≤ n ∧ n < 10 ^ 18 ∧ ∀ a H2, Same H1 H2 → ErrO H2 a C [(fld, .int n)] → Q (.ref a) H2
section
variable {X : Cx} {C f : Addr} {x par fld qual : Str} {params : Arguments} {body : List Stmt} {scope : Scope} {fd : FuncData} {te : TE} {e : Expr} {p pos pos2 kp : Pos} {k : Nat}
theorem made_sp {H1 : Hp} {a : Addr} {n : Int} {Q : VK} (hn : H1 a = none) (n0 : 0 ≤ n) (n1 : n < 10 ^ 18) (q : ∀ a H2, Same H1 H2 → ErrO H2 a C [(fld, .int n)] → Q (.ref a) H2) :
    spIni C fld [.ref a, .int n] (upd H1 a (exo a C none)) (fun v H2 => v = .non ∧ Q (.ref a) H2) (fun _ _ _ => False) := by
  refine ⟨a, n, rfl, n0, n1, upd_same, fun d hd hda => ⟨rfl, q a _ (fun b o hb => ?_) (.inr (.inr ⟨d, upd_same, ?_⟩))⟩⟩
  · have h1 : b ≠ a := fun z => by rw [z, hn] at hb; cases hb
    have h2 : b ≠ d := fun z => by
      rw [upd_ne hda] at hd
      rw [z, hd] at hb; cases hb
    rw [upd_ne h1, upd_ne h2, upd_ne h1]; exact hb
  · rw [upd_ne hda, upd_same]
theorem pe_ini (T : IniTx par fld params body scope) (J : Ini X.prog X.K C fld qual params body scope f fd) (hsup : X.mg "super" = none) (htop : (X.prog.main.scope.names.lookup ("super" : Str)).isSome = false) (hr : Room (k + 2) X.A) (hg : Gl X x) (hm : X.mg x = some (.ref C)) (he : PE X e te)
    (hs : starEach [e] X.env = (false, eval e X.env) :: starEach [] X.env := by rfl) (hpl : (backTo pos (starEach [] X.env)).any (·.1) = false := by rfl) (hdb : (x == ("__debug__" : Str)) = false := by decide) : PE X (.Call (.Name x p) [e] [] pos) (tInV C fld te) := by
  refine ⟨fun pins s σ H Q I h => ?_⟩
  have F1 : FnOk X.prog X.w X.K X.mg X.base CX0 (k + 1) f fd [("self" : Str), par] (spIni C fld) := ini_ok T J hsup htop
  have hb := ini_binds T J
  have ox := J.sc.ox
  obtain ⟨nm, q, N, bs, bm, sn, sub, ab, col, dd, k0, k1, k2, k3, k5, hC, hbm⟩ := ox.cls
  refine wpAny_Call_Name_kw (ld_glob I hg hm ?_ hdb)
  refine PySem.W.callWith_K (h₀ := X.base) I.ok.mod.kin ox.kC (thn ((pa_cons (pe_mon he) pa_nil hs).run pos pins s σ H (fun vs H1 => ∃ n : Int, vs = [.int n] ∧ 0 ≤ n ∧ n < 10 ^ 18 ∧ ∀ a H2, Same H1 H2 → ErrO H2 a C [(fld, .int n)] → Q (.ref a) H2) I ?_) fun us s1 ⟨vs, H1, I1, r1, n, ev, n0, n1, q1⟩ => ⟨I1.kIn, ?_⟩) hs hpl
  · exact ⟨_, h, fun v H1 ⟨n, ev, n0, n1, q⟩ => ⟨n, by rw [ev], n0, n1, q⟩⟩
  subst ev
  show wpAny _ _ (call (.ref C) us) _ _ _
  obtain ⟨hp, g, dr, tk, os⟩ := s1
  have hn : H1 (hp.objs.size + 1) = none := I1.hok.fresh (Nat.le_succ _)
  have kk : ∀ b o, hp.get? b = some o → ((hp.push (PySem.W.kdv_tup us)).push (PySem.HandSPX.excO C hp.objs.size)).get? b = some o := fun b o e => Heap.get?_push_of_some _ (Heap.get?_push_of_some _ e)
  have hget : ((hp.push (PySem.W.kdv_tup us)).push (PySem.HandSPX.excO C hp.objs.size)).get? (hp.objs.size + 1) = some (PySem.HandSPX.excO C hp.objs.size) := by heap_get
  have I2 : Inv X pins σ (upd H1 (hp.objs.size + 1) (exo (hp.objs.size + 1) C none)) ⟨(hp.push (PySem.W.kdv_tup us)).push (PySem.HandSPX.excO C hp.objs.size), g, dr, tk, os⟩ :=
    I1.laid (t' := tk) (a := hp.objs.size + 1) (o := exo (hp.objs.size + 1) C none) (h' := (hp.push (PySem.W.kdv_tup us)).push (PySem.HandSPX.excO C hp.objs.size)) kk (Nat.le_succ _) (exo_ok hget)
  have r2 : Vals [V.ref (hp.objs.size + 1), .int n] (Value.ref (hp.objs.size + 1) :: us) := .cons rfl r1
  have hl : (Value.ref (hp.objs.size + 1) :: us).length = [("self" : Str), par].length := r2.length.symm
  have hus : us.length ≤ sizeLine := by
    rw [← Paired.length r1, sizeLine_eq]
    show 1 ≤ _
    decide
  refine wpAny_call (PySem.HandSPX.call_own PySem.F.excBase_ValueError (fun Y => PySem.HandSPX.refsVE_contains Y bm hbm) (I1.kIn _ _ hC) (PySem.W.looks_findIn I1.kIn J.ini) (fun self => PySem.W.bind_fn I1.kIn self J.ty) hus
    (codeAny_mono (F1.run _ X.stack _ _ ⟨Value.ref (hp.objs.size + 1) :: us, []⟩ (Value.ref (hp.objs.size + 1) :: us) _ (fun v H2 => v = .non ∧ Q (.ref (hp.objs.size + 1)) H2) (fun _ _ _ => False) (hr.make C us []) (I2.env0.make C us []) (by have z := hb _ (Value.ref (hp.objs.size + 1) :: us) I2.kIn (by rw [List.append_nil]; exact hl); rw [List.append_nil] at z; exact z) r2 (made_sp hn n0 n1 q1)) fun r s' hq' => ?_))
  cases r with
  | error er => exact (pass0 (X := X)) pins σ _ _ er s' I2 hq'
  | ok fl =>
    cases fl with
    | ret u =>
      obtain ⟨v, H', I3, rv, ev, q3⟩ := I2.after hq'
      subst ev
      exact ⟨rv, ⟨V.ref _, H', I3, rfl, q3⟩⟩
    | next => exact False.elim hq'
    | brk => exact False.elim hq'
    | cont => exact False.elim hq'
/-- how it binds by its keyword -/
def IniKw (par : Str) (params : Arguments) (body : List Stmt) (scope : Scope) : Prop := ∀ (qual : Str) (kV doc pm : Value) (an : Option Addr) (cda : Value) (ct : Value) (cc : Addr) (u w : Value), bindArgs (PySem.W.ksFn "__init__" qual params body scope .none kV doc pm an cda ct cc) ⟨[u], [(par, w)]⟩ = pure [(("self" : Str), u), (par, w)]
theorem pe_iniK (T : IniTx par fld params body scope) (TK : IniKw par params body scope) (J : Ini X.prog X.K C fld qual params body scope f fd) (hsup : X.mg "super" = none) (htop : (X.prog.main.scope.names.lookup ("super" : Str)).isSome = false) (hr : Room (k + 2) X.A) (hg : Gl X x) (hm : X.mg x = some (.ref C)) (he : PE X e te)
    (hall : (backToKw pos (keywordEach [⟨par, e, kp⟩] X.env)).all (·.1.isSome) = true := by rfl) (hks : (backToKw pos (keywordEach [⟨par, e, kp⟩] X.env)).filterMap (·.1) = [par] := by rfl)
    (hpl : ((backTo pos (starEach [] X.env)).any (·.1) || (backToKw pos (keywordEach [⟨par, e, kp⟩] X.env)).any (·.1.isNone)) = false := by rfl) (hdb : (x == ("__debug__" : Str)) = false := by decide) : PE X (.Call (.Name x p) [] [⟨par, e, kp⟩] pos) (tInV C fld te) := by
  refine ⟨fun pins s σ H Q I h => ?_⟩
  have F1 : FnOk X.prog X.w X.K X.mg X.base CX0 (k + 1) f fd [("self" : Str), par] (spIni C fld) := ini_ok T J hsup htop
  have ox := J.sc.ox
  obtain ⟨nm, q, N, bs, bm, sn, sub, ab, col, dd, k0, k1, k2, k3, k5, hC, hbm⟩ := ox.cls
  refine wpAny_Call_Name_kw (ld_glob I hg hm ?_ hdb)
  refine PySem.W.callWith_KW0 (h₀ := X.base) I.ok.mod.kin ox.kC hall (thn ((pk_cons (nm := par) (kpos := kp) (pe_mon he) pk_nil).run pos pins s σ H (fun vs H1 => ∃ n : Int, vs = [.int n] ∧ 0 ≤ n ∧ n < 10 ^ 18 ∧ ∀ a H2, Same H1 H2 → ErrO H2 a C [(fld, .int n)] → Q (.ref a) H2) I ?_) fun us s1 ⟨vs, H1, I1, r1, n, ev, n0, n1, q1⟩ => ⟨I1.kIn, ?_⟩) hpl
  · exact ⟨_, h, fun v H1 ⟨n, ev, n0, n1, q⟩ => ⟨n, by rw [ev], n0, n1, q⟩⟩
  subst ev
  rw [hks]
  obtain ⟨u, rfl, ru⟩ : ∃ u, us = [u] ∧ L2.RelV (.int n) u := by
    cases r1 with
    | cons a b =>
      cases b
      exact ⟨_, rfl, a⟩
  show wpAny _ _ (call (.ref C) [] [(par, u)]) _ _ _
  obtain ⟨hp, g, dr, tk, os⟩ := s1
  have hn : H1 (hp.objs.size + 1) = none := I1.hok.fresh (Nat.le_succ _)
  have kk : ∀ b o, hp.get? b = some o → ((hp.push (PySem.W.kdv_tup [])).push (PySem.HandSPX.excO C hp.objs.size)).get? b = some o := fun b o e => Heap.get?_push_of_some _ (Heap.get?_push_of_some _ e)
  have hget : ((hp.push (PySem.W.kdv_tup [])).push (PySem.HandSPX.excO C hp.objs.size)).get? (hp.objs.size + 1) = some (PySem.HandSPX.excO C hp.objs.size) := by heap_get
  have I2 : Inv X pins σ (upd H1 (hp.objs.size + 1) (exo (hp.objs.size + 1) C none)) ⟨(hp.push (PySem.W.kdv_tup [])).push (PySem.HandSPX.excO C hp.objs.size), g, dr, tk, os⟩ :=
    I1.laid (t' := tk) (a := hp.objs.size + 1) (o := exo (hp.objs.size + 1) C none) (h' := (hp.push (PySem.W.kdv_tup [])).push (PySem.HandSPX.excO C hp.objs.size)) kk (Nat.le_succ _) (exo_ok hget)
  have r2 : Vals [V.ref (hp.objs.size + 1), .int n] [Value.ref (hp.objs.size + 1), u] := .cons rfl (.cons ru .nil)
  refine wpAny_call (PySem.HandSPX.call_ownK PySem.F.excBase_ValueError (fun Y => PySem.HandSPX.refsVE_contains Y bm hbm) (I1.kIn _ _ hC) (PySem.W.looks_findIn I1.kIn J.ini) (fun self => PySem.W.bind_fn I1.kIn self J.ty)
    (codeAny_mono (F1.run _ X.stack _ _ ⟨[Value.ref (hp.objs.size + 1)], [(par, u)]⟩ [Value.ref (hp.objs.size + 1), u] _ (fun v H2 => v = .non ∧ Q (.ref (hp.objs.size + 1)) H2) (fun _ _ _ => False) (hr.make C [] [(par, u)]) (I2.env0.make C [] [(par, u)]) (by
      obtain ⟨cc, cda, oc, od, kV, doc, pm, an, ct, osl, ccl, cdd, vs0, ccs, file, tf, cl, cld, csl, rfl, _⟩ := J.fn
      exact .of_eq (TK _ _ _ _ _ _ _ _ _ _)) r2 (made_sp hn n0 n1 q1)) fun r s' hq' => ?_))
  cases r with
  | error er => exact (pass0 (X := X)) pins σ _ _ er s' I2 hq'
  | ok fl =>
    cases fl with
    | ret u =>
      obtain ⟨v, H', I3, rv, ev, q3⟩ := I2.after hq'
      subst ev
      exact ⟨rv, ⟨V.ref _, H', I3, rfl, q3⟩⟩
    | next => exact False.elim hq'
    | brk => exact False.elim hq'
    | cont => exact False.elim hq'
end
end XEw

set_option linter.all false
set_option maxRecDepth 100000
set_option maxHeartbeats 4000000
namespace KP
open PySem PySem.Spec PyProof.Rows L2 XA XB XC XD XM XE XF XG XV XDz XS XU XEv XEw NdefX
local macro_rules | `(tactic| walk_at "rd") => `(tactic| repeat (first
  | (with_reducible refine rd_seq ?_) | (with_reducible refine rd_asg ?_) | ((with_reducible refine' rd_var ?hv ?_); (case hv => exact rfl)) | (with_reducible refine rd_c ?_) | (with_reducible refine rd_gn ?_)
  | (with_reducible refine rd_op ?_) | (with_reducible refine rd_un ?_) | (with_reducible refine rd_cons ?_) | (with_reducible refine rd_nil ?_) | (with_reducible refine rd_cl ?_) | (with_reducible refine rd_ck ?_) | (with_reducible refine rd_cb ?_)
  | (with_reducible refine rd_ret ?_) | (with_reducible refine rd_drop ?_) | (with_reducible refine rd_ifs ?_) | (with_reducible refine rd_if ?_) | (with_reducible refine rd_test ?_) | (with_reducible refine rd_tb ?_) | (with_reducible refine rd_and ?_) | (with_reducible refine rd_or ?_)
  | (with_reducible refine rd_not ?_) | (with_reducible refine rd_andV ?_) | (with_reducible refine rd_orV ?_) | (with_reducible refine rd_notV ?_) | (with_reducible refine rd_chain ?_) | (with_reducible refine rd_tup ?_) | (with_reducible refine rd_lst ?_)
  | (with_reducible refine rd_bm0 ?_) | (with_reducible refine rd_bm ?_) | (with_reducible refine rd_sl ?_) | (with_reducible refine rd_part ?_) | (with_reducible refine rd_nopart ?_) | (with_reducible refine rd_dget ?_) | (with_reducible refine rd_dput ?_)
  | (with_reducible refine rd_next ?_) | (with_reducible refine rd_lc ?_) | ((with_reducible refine' rd_aug ?hv ?_); (case hv => exact rfl)) | (with_reducible refine rd_cont ?_) | (with_reducible refine rd_gcons ?_) | (with_reducible refine rd_gnil ?_) | (with_reducible refine rd_ifT ?_) | (with_reducible refine rd_yes ?_) | (with_reducible refine rd_tru ?_) | (with_reducible refine rd_cntE ?_) | (with_reducible refine rd_rng1 ?_) | (with_reducible refine rd_lrg ?_) | (with_reducible refine rd_rg2 ?_) | (with_reducible refine rd_back ?_) | (with_reducible refine rd_disp ?_) | (with_reducible refine rd_prN ?_) | (with_reducible refine rd_prC ?_) | (with_reducible refine rd_par ?_) | (with_reducible refine rd_par3 ?_) | (with_reducible refine rd_two ?_) | (with_reducible refine rd_three ?_) | (with_reducible refine rd_one ?_) | (with_reducible refine rd_onei ?_) | (with_reducible refine rd_iL ?_) | (with_reducible refine rd_iT ?_) | (with_reducible refine rd_rng2 ?_) | (with_reducible refine rd_bl ?_) | (with_reducible refine rd_int ?_) | (with_reducible refine rd_I0 ?_) | (with_reducible refine rd_U ?_) | (with_reducible refine rd_din ?_) | (with_reducible refine rd_dnin ?_) | (with_reducible refine rd_dnew ?_) | (with_reducible refine rd_lset ?_) | (with_reducible refine rd_enT ?_) | (with_reducible refine rd_idx ?_) | (with_reducible refine rd_rg1 ?_) | (with_reducible refine rd_tupRg ?_)))

/-! ### the classes of errors -/
def nms : List Str := ["BadChange", "BadDeeds", "BadHouse", "BadMove", "BadName", "BadNumber", "BadPlace", "BadPlaces", "BadRank", "BadRenaming", "BadRow", "BadRows", "BadSpelling", "BadWeb", "NoName", "NotFree", "NotFull", "NotMade", "NotOver", "UnlikeMany", "UnlikeWebs", "TooMany", "BadText", "BadJournal"]
structure Ks (K : PySem.W.Frag) : Prop where
  c : ∀ x ∈ nms, ExcC K (He.ga K x)
  m : ∀ x ∈ nms, ∀ y ∈ nms, PySem.W.kitOne K (.ref (He.ga K x)) (.ref (He.ga K y)) = some (x == y)
  ke : ∀ x ∈ nms, PySem.W.kitOne K (.ref (He.ga K x)) (.ref (He.ga K "KeepError")) = some true
  kv : ∀ x ∈ nms, PySem.W.kitOne K (.ref (He.ga K x)) (.type "ValueError") = some true
def clsBody : Stmt → List Stmt
  | .ClassDef (body := b) .. => b
  | _ => []
def iniS (i : Nat) : Stmt := (clsBody (top i)).getD 0 (.Pass ⟨0, 0, 0, 0⟩)
def iTooMany : IniD := ⟨"TooMany", "most", "TooMany.__init__", defArgs (iniS 24), defBody (iniS 24), defScope (iniS 24)⟩
def iBadText : IniD := ⟨"BadText", "at", "BadText.__init__", defArgs (iniS 17), defBody (iniS 17), defScope (iniS 17)⟩
def iBadJournal : IniD := ⟨"BadJournal", "at", "BadJournal.__init__", defArgs (iniS 6), defBody (iniS 6), defScope (iniS 6)⟩
theorem tx_TooMany : IniTx "most" "most" iTooMany.params iTooMany.body iTooMany.scope := by
  refine ⟨⟨_, _, _, _, _, _, _, _, _, _, _, _, _, _, _, by rfl, by decide +kernel, fun env => ⟨_, rfl⟩⟩, nscope_by (by decide +kernel), by decide +kernel, ⟨_, rfl, rfl⟩, by decide, by decide, fun qual kV doc pm an cda ct cc us hl => ?_⟩
  match us, hl with
  | [_, _], _ => rfl
theorem tk_TooMany : IniKw "most" iTooMany.params iTooMany.body iTooMany.scope := fun qual kV doc pm an cda ct cc u w => rfl
theorem tx_BadText : IniTx "at" "at" iBadText.params iBadText.body iBadText.scope := by
  refine ⟨⟨_, _, _, _, _, _, _, _, _, _, _, _, _, _, _, by rfl, by decide +kernel, fun env => ⟨_, rfl⟩⟩, nscope_by (by decide +kernel), by decide +kernel, ⟨_, rfl, rfl⟩, by decide, by decide, fun qual kV doc pm an cda ct cc us hl => ?_⟩
  match us, hl with
  | [_, _], _ => rfl
theorem tk_BadText : IniKw "at" iBadText.params iBadText.body iBadText.scope := fun qual kV doc pm an cda ct cc u w => rfl
theorem tx_BadJournal : IniTx "at" "at" iBadJournal.params iBadJournal.body iBadJournal.scope := by
  refine ⟨⟨_, _, _, _, _, _, _, _, _, _, _, _, _, _, _, by rfl, by decide +kernel, fun env => ⟨_, rfl⟩⟩, nscope_by (by decide +kernel), by decide +kernel, ⟨_, rfl, rfl⟩, by decide, by decide, fun qual kV doc pm an cda ct cc us hl => ?_⟩
  match us, hl with
  | [_, _], _ => rfl
theorem tk_BadJournal : IniKw "at" iBadJournal.params iBadJournal.body iBadJournal.scope := fun qual kV doc pm an cda ct cc u w => rfl
structure Is (P : Program) (K : PySem.W.Frag) (mg : Str → Option Value) : Prop where
  sup : mg "super" = none
  top : (P.main.scope.names.lookup ("super" : Str)).isSome = false
  g_TooMany : mg "TooMany" = some (.ref (He.ga K "TooMany"))
  g_BadText : mg "BadText" = some (.ref (He.ga K "BadText"))
  g_BadJournal : mg "BadJournal" = some (.ref (He.ga K "BadJournal"))
  i_TooMany : ∃ fd, Ini P K (He.ga K "TooMany") "most" iTooMany.qual iTooMany.params iTooMany.body iTooMany.scope (fI K "TooMany") fd
  i_BadText : ∃ fd, Ini P K (He.ga K "BadText") "at" iBadText.qual iBadText.params iBadText.body iBadText.scope (fI K "BadText") fd
  i_BadJournal : ∃ fd, Ini P K (He.ga K "BadJournal") "at" iBadJournal.qual iBadJournal.params iBadJournal.body iBadJournal.scope (fI K "BadJournal") fd
/-- where a list of truths says true -/
def idx (bs : List Bool) (j : Nat) : List Int := ((List.range j).filter fun k => bs[k]? == some true).map fun (k : Nat) => (k : Int)
theorem idx_succ (bs : List Bool) (j : Nat) : idx bs (j + 1) = if (bs[j]? == some true) = true then idx bs j ++ [(j : Int)] else idx bs j := by
  unfold idx
  rw [List.range_succ, List.filter_append, List.map_append]
  split
  · rename_i h
    rw [List.filter_cons, h]; rfl
  · rename_i h
    rw [List.filter_cons, if_neg h]; simp
theorem idx_len (bs : List Bool) (j : Nat) : (idx bs j).length ≤ j := by
  unfold idx
  rw [List.length_map]
  exact Nat.le_trans (List.length_filter_le _ _) (by rw [List.length_range]; omega)
theorem idx_nms : ∀ i : Fin 24, idx (nms.map fun y => (nms[i.val]?.getD "") == y) 24 = [((i.val : Nat) : Int)] := by decide +kernel
theorem nms_lt {i : Nat} {x : Str} (h : nms[i]? = some x) : i < 24 := by
  have := (List.getElem?_eq_some_iff.mp h).1
  exact this
theorem idx_at {i : Nat} {x : Str} (h : nms[i]? = some x) : idx (nms.map fun y => x == y) 24 = [(i : Int)] := by
  have := idx_nms ⟨i, nms_lt h⟩
  simp only [h, Option.getD_some] at this
  exact this
/-! ### lists of truths, told by their readings -/
section
variable {K : PySem.W.Frag} {H H' H0 : Hp} {σ : L2.St} {t t1 : TE} {ts : TA} {v : V} {i : Nat} {a : Addr} {b : Bool} {bs cs : List Bool}
def GB (b : Bool) (t : TE) (σ : L2.St) (H0 : Hp) : Prop := ∀ H, Same H0 H → ∀ Q : VK, Q (.bl b) H → t σ H Q
def GBs (bs : List Bool) (ts : TA) (σ : L2.St) (H0 : Hp) : Prop := ∀ H, Same H0 H → ∀ Q : List V → Hp → Prop, Q (bs.map V.bl) H → ts σ H Q
theorem gbs_nil : GBs [] tNil σ H0 := fun H _ Q q => q
theorem gbs_cons (h1 : GB b t1 σ H0) (h2 : GBs bs ts σ H0) : GBs (b :: bs) (tCons t1 ts) σ H0 := fun H e Q q => h1 H e _ (h2 H e _ q)
theorem gb_is {C D : Addr} {fs : List (Str × V)} (e : σ[i]? = some (some (.ref a))) (hE : ErrO H0 a C fs) (hC : ExcC K C) (k : PySem.W.kitOne K (.ref C) (.ref D) = some b) : GB b (tCB (XEv.rIsV K (rIsU K)) (tCons (tVar i) (tCons (tC (.ref D)) tNil))) σ H0 := fun H s Q q =>
  ⟨_, e, .inr ⟨a, C, fs, _, _, b, rfl, hE.same s, hC, .own D, k, q⟩⟩
theorem lst_b (h : GBs bs ts σ H0) (l : bs.length ≤ 1000) {Q : VK} (q : ∀ p H', Same H0 H' → H' p = some (.lst (bs.map V.bl)) → Q (.ref p) H') : tLst ts σ H0 Q :=
  h H0 (Same.refl _) _ ⟨lz (by rw [List.length_map]; omega), fun p hp => q p _ (same_new hp) upd_same⟩
theorem add_b {p0 : Addr} (e : σ[i]? = some (some (.ref p0))) (hn : H0 p0 = some (.lst (cs.map V.bl))) (h : GBs bs ts σ H0) (l : bs.length ≤ 1000) (l2 : cs.length ≤ 1000) {Q : VK} (q : ∀ p H', Same H0 H' → H' p = some (.lst ((cs ++ bs).map V.bl)) → Q (.ref p) H') : tOp (rAddU K) (tVar i) (tLst ts) σ H0 Q := by
  refine ⟨_, e, lst_b h l fun p H' s' hp => ?_⟩
  refine catL (s' _ _ hn) hp (by rw [List.length_map, List.length_map]; omega) fun p2 hp2 => q p2 _ (s'.trans (same_new hp2)) ?_
  rw [List.map_append]
  exact upd_same
end
local macro_rules | `(tactic| walk_at "gb1") => `(tactic| focus ((repeat (first | exact gbs_nil | (refine gbs_cons ?_ ?_; focus exact gb_is rfl (by assumption) (by assumption) (Ks.m (by assumption) _ (by assumption) _ (by decide))))); done))
section
variable {P : Program} {w : World} {K : PySem.W.Frag} {mg : Str → Option Value} {base : Heap}
/-! ### _law_mr_classes -/
def spClasses (K : PySem.W.Frag) : Sp := fun vs H Q _ => ∃ (a : Addr) (fs : List (Str × V)) (x : Str) (i : Nat), vs = [.ref a] ∧ nms[i]? = some x ∧ ErrO H a (He.ga K x) fs ∧ ∀ p H', Same H H' → H' p = some (.lst [.int i]) → Q (.ref p) H'
abbrev s__law_mr_classes : Stmt := top 44
abbrev N__law_mr_classes : List Str := ["error", "some", "at", "one"]
theorem sc__law_mr_classes : FnScope ["error", "some", "at", "one"] ["error"] (defScope s__law_mr_classes) := ⟨rfl, rfl, rfl, by decide +kernel, rfl, by decide +kernel, by decide +kernel⟩
theorem bd__law_mr_classes : Bnd s__law_mr_classes "_law_mr_classes" ["error"] := fun _ _ _ _ _ _ us hl => match us, hl with | [_], _ => rfl

theorem d__law_mr_classes (T : Bs K mg) (IS : Is P K mg) (KS : Ks K) (R : Rw K mg "_law_mr_classes" s__law_mr_classes) : Df P w K mg base CX0 1 "_law_mr_classes" s__law_mr_classes ["error"] (spClasses K) := by
  refine mk0 R sc__law_mr_classes bd__law_mr_classes (fun vs H Q E h => ?_) fun f cdv A outer sh H vs Q E hr h => ?_
  · obtain ⟨a, fs, x, i, rfl, _⟩ := h; rfl
  obtain ⟨a, fs, x, i, rfl, hx, hE, q⟩ := h
  refine ⟨_, (pss_cons (ps_set (i := 1) sc__law_mr_classes.nd rfl (Or.inl rfl) (pe_lst (pa_cons (pe_callB (XEv.call_isV call_isU) (by rfl) T.n_isinstance (by decide +kernel) (pa_cons (pv 0) (pa_cons (pe_gc T.x_BadChange.g (by rfl)) pa_nil))) (pa_cons (pe_callB (XEv.call_isV call_isU) (by rfl) T.n_isinstance (by decide +kernel) (pa_cons (pv 0) (pa_cons (pe_gc T.x_BadDeeds.g (by rfl)) pa_nil))) (pa_cons (pe_callB (XEv.call_isV call_isU) (by rfl) T.n_isinstance (by decide +kernel) (pa_cons (pv 0) (pa_cons (pe_gc T.x_BadHouse.g (by rfl)) pa_nil))) pa_nil)))))
      (pss_cons (ps_set (i := 1) sc__law_mr_classes.nd rfl (Or.inl rfl) (pe_op op_addU (pv 1) (pe_lst (pa_cons (pe_callB (XEv.call_isV call_isU) (by rfl) T.n_isinstance (by decide +kernel) (pa_cons (pv 0) (pa_cons (pe_gc T.x_BadMove.g (by rfl)) pa_nil))) (pa_cons (pe_callB (XEv.call_isV call_isU) (by rfl) T.n_isinstance (by decide +kernel) (pa_cons (pv 0) (pa_cons (pe_gc T.x_BadName.g (by rfl)) pa_nil))) (pa_cons (pe_callB (XEv.call_isV call_isU) (by rfl) T.n_isinstance (by decide +kernel) (pa_cons (pv 0) (pa_cons (pe_gc T.x_BadNumber.g (by rfl)) pa_nil))) pa_nil))))))
      (pss_cons (ps_set (i := 1) sc__law_mr_classes.nd rfl (Or.inl rfl) (pe_op op_addU (pv 1) (pe_lst (pa_cons (pe_callB (XEv.call_isV call_isU) (by rfl) T.n_isinstance (by decide +kernel) (pa_cons (pv 0) (pa_cons (pe_gc T.x_BadPlace.g (by rfl)) pa_nil))) (pa_cons (pe_callB (XEv.call_isV call_isU) (by rfl) T.n_isinstance (by decide +kernel) (pa_cons (pv 0) (pa_cons (pe_gc T.x_BadPlaces.g (by rfl)) pa_nil))) (pa_cons (pe_callB (XEv.call_isV call_isU) (by rfl) T.n_isinstance (by decide +kernel) (pa_cons (pv 0) (pa_cons (pe_gc T.x_BadRank.g (by rfl)) pa_nil))) pa_nil))))))
      (pss_cons (ps_set (i := 1) sc__law_mr_classes.nd rfl (Or.inl rfl) (pe_op op_addU (pv 1) (pe_lst (pa_cons (pe_callB (XEv.call_isV call_isU) (by rfl) T.n_isinstance (by decide +kernel) (pa_cons (pv 0) (pa_cons (pe_gc T.x_BadRenaming.g (by rfl)) pa_nil))) (pa_cons (pe_callB (XEv.call_isV call_isU) (by rfl) T.n_isinstance (by decide +kernel) (pa_cons (pv 0) (pa_cons (pe_gc T.x_BadRow.g (by rfl)) pa_nil))) (pa_cons (pe_callB (XEv.call_isV call_isU) (by rfl) T.n_isinstance (by decide +kernel) (pa_cons (pv 0) (pa_cons (pe_gc T.x_BadRows.g (by rfl)) pa_nil))) pa_nil))))))
      (pss_cons (ps_set (i := 1) sc__law_mr_classes.nd rfl (Or.inl rfl) (pe_op op_addU (pv 1) (pe_lst (pa_cons (pe_callB (XEv.call_isV call_isU) (by rfl) T.n_isinstance (by decide +kernel) (pa_cons (pv 0) (pa_cons (pe_gc T.x_BadSpelling.g (by rfl)) pa_nil))) (pa_cons (pe_callB (XEv.call_isV call_isU) (by rfl) T.n_isinstance (by decide +kernel) (pa_cons (pv 0) (pa_cons (pe_gc T.x_BadWeb.g (by rfl)) pa_nil))) (pa_cons (pe_callB (XEv.call_isV call_isU) (by rfl) T.n_isinstance (by decide +kernel) (pa_cons (pv 0) (pa_cons (pe_gc T.x_NoName.g (by rfl)) pa_nil))) pa_nil))))))
      (pss_cons (ps_set (i := 1) sc__law_mr_classes.nd rfl (Or.inl rfl) (pe_op op_addU (pv 1) (pe_lst (pa_cons (pe_callB (XEv.call_isV call_isU) (by rfl) T.n_isinstance (by decide +kernel) (pa_cons (pv 0) (pa_cons (pe_gc T.x_NotFree.g (by rfl)) pa_nil))) (pa_cons (pe_callB (XEv.call_isV call_isU) (by rfl) T.n_isinstance (by decide +kernel) (pa_cons (pv 0) (pa_cons (pe_gc T.x_NotFull.g (by rfl)) pa_nil))) (pa_cons (pe_callB (XEv.call_isV call_isU) (by rfl) T.n_isinstance (by decide +kernel) (pa_cons (pv 0) (pa_cons (pe_gc T.x_NotMade.g (by rfl)) pa_nil))) pa_nil))))))
      (pss_cons (ps_set (i := 1) sc__law_mr_classes.nd rfl (Or.inl rfl) (pe_op op_addU (pv 1) (pe_lst (pa_cons (pe_callB (XEv.call_isV call_isU) (by rfl) T.n_isinstance (by decide +kernel) (pa_cons (pv 0) (pa_cons (pe_gc T.x_NotOver.g (by rfl)) pa_nil))) (pa_cons (pe_callB (XEv.call_isV call_isU) (by rfl) T.n_isinstance (by decide +kernel) (pa_cons (pv 0) (pa_cons (pe_gc T.x_UnlikeMany.g (by rfl)) pa_nil))) (pa_cons (pe_callB (XEv.call_isV call_isU) (by rfl) T.n_isinstance (by decide +kernel) (pa_cons (pv 0) (pa_cons (pe_gc T.x_UnlikeWebs.g (by rfl)) pa_nil))) pa_nil))))))
      (pss_cons (ps_set (i := 1) sc__law_mr_classes.nd rfl (Or.inl rfl) (pe_op op_addU (pv 1) (pe_lst (pa_cons (pe_callB (XEv.call_isV call_isU) (by rfl) T.n_isinstance (by decide +kernel) (pa_cons (pv 0) (pa_cons (pe_gc IS.g_TooMany (by rfl)) pa_nil))) (pa_cons (pe_callB (XEv.call_isV call_isU) (by rfl) T.n_isinstance (by decide +kernel) (pa_cons (pv 0) (pa_cons (pe_gc IS.g_BadText (by rfl)) pa_nil))) (pa_cons (pe_callB (XEv.call_isV call_isU) (by rfl) T.n_isinstance (by decide +kernel) (pa_cons (pv 0) (pa_cons (pe_gc IS.g_BadJournal (by rfl)) pa_nil))) pa_nil))))))
      (pss_one (ps_ret (pe_lc (own := [("at", 2), ("one", 3)]) rfl sc__law_mr_classes.nd (pi_enum (by rfl) T.n_enumerate (pa_cons (pv 1) pa_nil)) (blkOk_by (own := [("at", 2), ("one", 3)]) (N := ["error", "some", "at", "one"]) (sc := defScope s__law_mr_classes) (by decide +kernel)) (fun _ _ _ _ _ => (show PG _ _ (gTup K 2 _) from pg_tup (by rfl) (pgs_cons (pg_name (i := 2) sc__law_mr_classes.nd rfl (Or.inl rfl)) (pgs_cons (pg_name (i := 3) sc__law_mr_classes.nd rfl (Or.inl rfl)) pgs_nil)))) (fun _ _ _ _ _ => pts_one (show PT _ _ (tTru K _) from pt_tru (pv 3) (by intro _; rfl))) (fun _ _ _ _ _ => (pv 2))))))))))))), ?_⟩
  have mx : x ∈ nms := List.mem_of_getElem? hx
  have hC := KS.c x mx
  refine rd_seq ?_
  refine rd_asg ?_
  refine lst_b (bs := [x == "BadChange", x == "BadDeeds", x == "BadHouse"]) (by walk_at "gb1") (by simp) fun p1 H1 s1 e1 => ?_
  have u1 := s1
  refine rd_gn ?_
  try dsimp only
  refine rd_seq ?_
  refine rd_asg ?_
  have hE := hE.same s1
  refine add_b (cs := [x == "BadChange", x == "BadDeeds", x == "BadHouse"]) (bs := [x == "BadMove", x == "BadName", x == "BadNumber"]) rfl e1 (by walk_at "gb1") (by simp) (by simp) fun p2 H2 s2 e2 => ?_
  have u2 := u1.trans s2
  refine rd_gn ?_
  try dsimp only
  refine rd_seq ?_
  refine rd_asg ?_
  have hE := hE.same s2
  refine add_b (cs := [x == "BadChange", x == "BadDeeds", x == "BadHouse", x == "BadMove", x == "BadName", x == "BadNumber"]) (bs := [x == "BadPlace", x == "BadPlaces", x == "BadRank"]) rfl e2 (by walk_at "gb1") (by simp) (by simp) fun p3 H3 s3 e3 => ?_
  have u3 := u2.trans s3
  refine rd_gn ?_
  try dsimp only
  refine rd_seq ?_
  refine rd_asg ?_
  have hE := hE.same s3
  refine add_b (cs := [x == "BadChange", x == "BadDeeds", x == "BadHouse", x == "BadMove", x == "BadName", x == "BadNumber", x == "BadPlace", x == "BadPlaces", x == "BadRank"]) (bs := [x == "BadRenaming", x == "BadRow", x == "BadRows"]) rfl e3 (by walk_at "gb1") (by simp) (by simp) fun p4 H4 s4 e4 => ?_
  have u4 := u3.trans s4
  refine rd_gn ?_
  try dsimp only
  refine rd_seq ?_
  refine rd_asg ?_
  have hE := hE.same s4
  refine add_b (cs := [x == "BadChange", x == "BadDeeds", x == "BadHouse", x == "BadMove", x == "BadName", x == "BadNumber", x == "BadPlace", x == "BadPlaces", x == "BadRank", x == "BadRenaming", x == "BadRow", x == "BadRows"]) (bs := [x == "BadSpelling", x == "BadWeb", x == "NoName"]) rfl e4 (by walk_at "gb1") (by simp) (by simp) fun p5 H5 s5 e5 => ?_
  have u5 := u4.trans s5
  refine rd_gn ?_
  try dsimp only
  refine rd_seq ?_
  refine rd_asg ?_
  have hE := hE.same s5
  refine add_b (cs := [x == "BadChange", x == "BadDeeds", x == "BadHouse", x == "BadMove", x == "BadName", x == "BadNumber", x == "BadPlace", x == "BadPlaces", x == "BadRank", x == "BadRenaming", x == "BadRow", x == "BadRows", x == "BadSpelling", x == "BadWeb", x == "NoName"]) (bs := [x == "NotFree", x == "NotFull", x == "NotMade"]) rfl e5 (by walk_at "gb1") (by simp) (by simp) fun p6 H6 s6 e6 => ?_
  have u6 := u5.trans s6
  refine rd_gn ?_
  try dsimp only
  refine rd_seq ?_
  refine rd_asg ?_
  have hE := hE.same s6
  refine add_b (cs := [x == "BadChange", x == "BadDeeds", x == "BadHouse", x == "BadMove", x == "BadName", x == "BadNumber", x == "BadPlace", x == "BadPlaces", x == "BadRank", x == "BadRenaming", x == "BadRow", x == "BadRows", x == "BadSpelling", x == "BadWeb", x == "NoName", x == "NotFree", x == "NotFull", x == "NotMade"]) (bs := [x == "NotOver", x == "UnlikeMany", x == "UnlikeWebs"]) rfl e6 (by walk_at "gb1") (by simp) (by simp) fun p7 H7 s7 e7 => ?_
  have u7 := u6.trans s7
  refine rd_gn ?_
  try dsimp only
  refine rd_seq ?_
  refine rd_asg ?_
  have hE := hE.same s7
  refine add_b (cs := [x == "BadChange", x == "BadDeeds", x == "BadHouse", x == "BadMove", x == "BadName", x == "BadNumber", x == "BadPlace", x == "BadPlaces", x == "BadRank", x == "BadRenaming", x == "BadRow", x == "BadRows", x == "BadSpelling", x == "BadWeb", x == "NoName", x == "NotFree", x == "NotFull", x == "NotMade", x == "NotOver", x == "UnlikeMany", x == "UnlikeWebs"]) (bs := [x == "TooMany", x == "BadText", x == "BadJournal"]) rfl e7 (by walk_at "gb1") (by simp) (by simp) fun p8 H8 s8 e8 => ?_
  have u8 := u7.trans s8
  refine rd_gn ?_
  try dsimp only
  refine rd_ret ?_
  obtain ⟨B, hB⟩ : ∃ B : List Bool, B = nms.map (fun y => x == y) := ⟨_, rfl⟩
  have e8 : H8 p8 = some (.lst (B.map V.bl)) := by rw [hB]; exact e8
  have hlen : B.length = 24 := by rw [hB]; rfl
  have hix : idx B 24 = [(i : Int)] := by rw [hB]; exact idx_at hx
  clear hB e1 e2 e3 e4 e5 e6 e7
  walk_at "rd"
  show tCons _ _ _ _ _
  walk_at "rd"
  refine ⟨p8, _, rfl, .inl (.inl e8), fun D hD => ?_⟩
  refine lc_it (walk_enum (xs := B.map V.bl)) (fun j H' => Same H8 H' ∧ H' D = some (.lst ((idx B j).map V.int))) ⟨same_new hD, upd_same⟩ (fun j H' _ h => .inl (.inl (h.1 _ _ e8))) (fun j v H' H2 hj h y => ?_) fun H' h => ?_
  · obtain ⟨s9, e9⟩ := h
    obtain ⟨T, u, y, rfl, hT, rfl, hu, hy⟩ := y
    cases hu
    rw [List.length_map] at hj
    obtain ⟨b, hb⟩ : ∃ b, B[j]? = some b := ⟨B[j], by simp [hj]⟩
    obtain rfl : y = .bl b := by
      have hy : (B.map V.bl)[j]? = some y := hy
      rw [List.getElem?_map, hb] at hy
      exact (Option.some.inj hy).symm
    obtain ⟨sT, eT⟩ := new_at (o := .tup [V.int (j : Nat), V.bl b]) hT
    have e9 := sT _ _ e9
    have s9 := s9.trans sT
    generalize upd H' T (.tup [V.int (j : Nat), V.bl b]) = H2 at sT eT s9 e9 ⊢
    refine ⟨T, _, rfl, .inl (.inl eT), rfl, ?_⟩
    walk_at "rd"
    refine ⟨rfl, ?_⟩
    walk_at "rd"
    refine truB ?_
    have ix := idx_succ B j
    rw [hb] at ix
    cases b with
    | true =>
      refine iteT ?_
      walk_at "rd"
      refine ⟨_, e9, lz (by rw [List.length_map]; have := idx_len B j; omega), fun b2 o2 hb2 => ?_, ?_⟩
      · have : b2 ≠ D := fun z => by rw [z, hD] at hb2; cases hb2
        rw [upd_ne this]
        exact s9 _ _ hb2
      · rw [upd_same, ix, if_pos (by rfl), List.map_append] <;> rfl
    | false =>
      refine iteF ?_
      refine ⟨s9, ?_⟩
      rw [ix, if_neg (by decide)]
      exact e9
  · obtain ⟨s9, e9⟩ := h
    rw [List.length_map, hlen, hix] at e9
    exact q D H' (u8.trans s9) e9
end
end KP

set_option linter.all false
set_option maxRecDepth 100000
set_option maxHeartbeats 4000000
namespace KP
open PySem PySem.Spec PyProof.Rows L2 XA XB XC XD XM XE XF XG XV XDz XS XU XEv XEw NdefX
local macro_rules | `(tactic| walk_at "rd") => `(tactic| repeat (first
  | (with_reducible refine rd_seq ?_) | (with_reducible refine rd_asg ?_) | ((with_reducible refine' rd_var ?hv ?_); (case hv => exact rfl)) | (with_reducible refine rd_c ?_) | (with_reducible refine rd_gn ?_)
  | (with_reducible refine rd_op ?_) | (with_reducible refine rd_un ?_) | (with_reducible refine rd_cons ?_) | (with_reducible refine rd_nil ?_) | (with_reducible refine rd_cl ?_) | (with_reducible refine rd_ck ?_) | (with_reducible refine rd_cb ?_)
  | (with_reducible refine rd_ret ?_) | (with_reducible refine rd_drop ?_) | (with_reducible refine rd_ifs ?_) | (with_reducible refine rd_if ?_) | (with_reducible refine rd_test ?_) | (with_reducible refine rd_tb ?_) | (with_reducible refine rd_and ?_) | (with_reducible refine rd_or ?_)
  | (with_reducible refine rd_not ?_) | (with_reducible refine rd_andV ?_) | (with_reducible refine rd_orV ?_) | (with_reducible refine rd_notV ?_) | (with_reducible refine rd_chain ?_) | (with_reducible refine rd_tup ?_) | (with_reducible refine rd_lst ?_)
  | (with_reducible refine rd_bm0 ?_) | (with_reducible refine rd_bm ?_) | (with_reducible refine rd_sl ?_) | (with_reducible refine rd_part ?_) | (with_reducible refine rd_nopart ?_) | (with_reducible refine rd_dget ?_) | (with_reducible refine rd_dput ?_)
  | (with_reducible refine rd_next ?_) | (with_reducible refine rd_lc ?_) | ((with_reducible refine' rd_aug ?hv ?_); (case hv => exact rfl)) | (with_reducible refine rd_cont ?_) | (with_reducible refine rd_gcons ?_) | (with_reducible refine rd_gnil ?_) | (with_reducible refine rd_ifT ?_) | (with_reducible refine rd_yes ?_) | (with_reducible refine rd_tru ?_) | (with_reducible refine rd_cntE ?_) | (with_reducible refine rd_rng1 ?_) | (with_reducible refine rd_lrg ?_) | (with_reducible refine rd_rg2 ?_) | (with_reducible refine rd_back ?_) | (with_reducible refine rd_disp ?_) | (with_reducible refine rd_prN ?_) | (with_reducible refine rd_prC ?_) | (with_reducible refine rd_par ?_) | (with_reducible refine rd_par3 ?_) | (with_reducible refine rd_two ?_) | (with_reducible refine rd_three ?_) | (with_reducible refine rd_one ?_) | (with_reducible refine rd_onei ?_) | (with_reducible refine rd_iL ?_) | (with_reducible refine rd_iT ?_) | (with_reducible refine rd_rng2 ?_) | (with_reducible refine rd_bl ?_) | (with_reducible refine rd_int ?_) | (with_reducible refine rd_I0 ?_) | (with_reducible refine rd_U ?_) | (with_reducible refine rd_din ?_) | (with_reducible refine rd_dnin ?_) | (with_reducible refine rd_dnew ?_) | (with_reducible refine rd_lset ?_) | (with_reducible refine rd_enT ?_) | (with_reducible refine rd_idx ?_) | (with_reducible refine rd_rg1 ?_) | (with_reducible refine rd_tupRg ?_)))

/-! ### lists of errors, told by their readings -/
/-- the fields of an error made of n -/
def fldOf (x : Str) (n : Int) : List (Str × V) := if x = "TooMany" then [("most", .int n)] else if x = "BadText" then [("at", .int n)] else if x = "BadJournal" then [("at", .int n)] else []
def ErrN (K : PySem.W.Frag) (H : Hp) (v : V) (x : Str) (n : Int) : Prop := ∃ a, v = .ref a ∧ ErrO H a (He.ga K x) (fldOf x n)
section
variable {K : PySem.W.Frag} {H H' H0 : Hp} {σ : L2.St} {t t1 : TE} {ts : TA} {v : V} {i : Nat} {a : Addr} {x : Str} {n : Int} {xs ys : List Str}
theorem ErrN.same (h : ErrN K H v x n) (e : Same H H') : ErrN K H' v x n := by
  obtain ⟨a, q, r⟩ := h
  exact ⟨a, q, r.same e⟩
def GE (K : PySem.W.Frag) (n : Int) (x : Str) (t : TE) (σ : L2.St) (H0 : Hp) : Prop := ∀ H, Same H0 H → ∀ Q : VK, (∀ v H2, Same H H2 → ErrN K H2 v x n → Q v H2) → t σ H Q
def GEs (K : PySem.W.Frag) (n : Int) (xs : List Str) (ts : TA) (σ : L2.St) (H0 : Hp) : Prop := ∀ H, Same H0 H → ∀ Q : List V → Hp → Prop, (∀ vs H2, Same H H2 → Paired (fun v x => ErrN K H2 v x n) vs xs → Q vs H2) → ts σ H Q
theorem ges_nil : GEs K n [] tNil σ H0 := fun H _ Q q => q [] H (Same.refl _) .nil
theorem ges_cons (h1 : GE K n x t1 σ H0) (h2 : GEs K n xs ts σ H0) : GEs K n (x :: xs) (tCons t1 ts) σ H0 := fun H e Q q => h1 H e _ fun v H2 s2 hv => h2 H2 (e.trans s2) _ fun vs H3 s3 hs => q _ H3 (s2.trans s3) (.cons (hv.same s3) hs)
theorem ge_ex {z : Str} (h : fldOf x n = []) : GE K n x (tEx (He.ga K x) (tC (.str z))) σ H0 := fun H e Q q a H2 s2 hE => q _ H2 s2 ⟨a, rfl, by rw [h]; exact hE⟩
theorem ge_in {fld : Str} (e : σ[i]? = some (some (.int n))) (n0 : 0 ≤ n) (n1 : n < 10 ^ 18) (h : fldOf x n = [(fld, .int n)]) : GE K n x (tInV (He.ga K x) fld (tVar i)) σ H0 := fun H s Q q => ⟨_, e, n, rfl, n0, n1, fun a H2 s2 hE => q _ H2 s2 ⟨a, rfl, by rw [h]; exact hE⟩⟩
def ErrL (K : PySem.W.Frag) (n : Int) (H : Hp) (p : Addr) (xs : List Str) : Prop := ∃ vs, H p = some (.lst vs) ∧ Paired (fun v x => ErrN K H v x n) vs xs
theorem ErrL.same {p : Addr} (h : ErrL K n H p xs) (e : Same H H') : ErrL K n H' p xs := by
  obtain ⟨vs, q, r⟩ := h
  exact ⟨vs, e _ _ q, L2.Paired.mapP r fun _ _ q => q.same e⟩
theorem lst_e (h : GEs K n xs ts σ H0) (l : xs.length ≤ 1000) {Q : VK} (q : ∀ p H', Same H0 H' → ErrL K n H' p xs → Q (.ref p) H') : tLst ts σ H0 Q :=
  h H0 (Same.refl _) _ fun vs H2 s2 hs => ⟨lz (by rw [Paired.length hs]; omega), fun p hp => q p _ (s2.trans (same_new hp)) ⟨vs, upd_same, L2.Paired.mapP hs fun _ _ q => q.same (same_new hp)⟩⟩
theorem paired_app {α β : Type} {R : α → β → Prop} : ∀ {as : List α} {bs : List β} {cs : List α} {ds : List β}, Paired R as bs → Paired R cs ds → Paired R (as ++ cs) (bs ++ ds)
  | [], [], _, _, _, h => h
  | _ :: _, _ :: _, _, _, .cons a t, h => .cons a (paired_app t h)
theorem add_e {p0 : Addr} (e : σ[i]? = some (some (.ref p0))) (hn : ErrL K n H0 p0 ys) (h : GEs K n xs ts σ H0) (l : xs.length ≤ 1000) (l2 : ys.length ≤ 1000) {Q : VK} (q : ∀ p H', Same H0 H' → ErrL K n H' p (ys ++ xs) → Q (.ref p) H') : tOp (rAddU K) (tVar i) (tLst ts) σ H0 Q := by
  refine ⟨_, e, lst_e h l fun p H' s' hp => ?_⟩
  obtain ⟨vs, a1, a2⟩ := hn.same s'
  obtain ⟨us, b1, b2⟩ := hp
  have z1 := Paired.length a2
  have z2 := Paired.length b2
  refine catL a1 b1 (by omega) fun p2 hp2 => q p2 _ (s'.trans (same_new hp2)) ⟨vs ++ us, upd_same, L2.Paired.mapP (paired_app a2 b2) fun _ _ q => q.same (same_new hp2)⟩
end
local macro_rules | `(tactic| walk_at "ge1") => `(tactic| focus ((repeat (first | exact ges_nil | (refine ges_cons ?_ ?_; focus (first | exact ge_ex (by rfl) | exact ge_in rfl (by assumption) (by assumption) (by rfl))))); done))
section
variable {P : Program} {w : World} {K : PySem.W.Frag} {mg : Str → Option Value} {base : Heap}
/-! ### _law_mr_made -/
def spMadeE (K : PySem.W.Frag) : Sp := fun vs H Q _ => ∃ n : Int, vs = [.int n] ∧ 0 ≤ n ∧ n < 10 ^ 18 ∧ ∀ p H', Same H H' → ErrL K n H' p nms → Q (.ref p) H'
abbrev s__law_mr_made : Stmt := top 45
abbrev N__law_mr_made : List Str := ["many", "some"]
theorem sc__law_mr_made : FnScope ["many", "some"] ["many"] (defScope s__law_mr_made) := ⟨rfl, rfl, rfl, by decide +kernel, rfl, by decide +kernel, by decide +kernel⟩
theorem bd__law_mr_made : Bnd s__law_mr_made "_law_mr_made" ["many"] := fun _ _ _ _ _ _ us hl => match us, hl with | [_], _ => rfl

theorem d__law_mr_made (T : Bs K mg) (IS : Is P K mg) (R : Rw K mg "_law_mr_made" s__law_mr_made) : Df P w K mg base CX0 4 "_law_mr_made" s__law_mr_made ["many"] (spMadeE K) := by
  obtain ⟨f1, J_TooMany⟩ := IS.i_TooMany
  obtain ⟨f2, J_BadText⟩ := IS.i_BadText
  obtain ⟨f3, J_BadJournal⟩ := IS.i_BadJournal
  refine mk0 R sc__law_mr_made bd__law_mr_made (fun vs H Q E h => ?_) fun f cdv A outer sh H vs Q E hr h => ?_
  · obtain ⟨n, rfl, _⟩ := h; rfl
  obtain ⟨n, rfl, n0, n1, q⟩ := h
  refine ⟨_, (pss_cons (ps_set (i := 1) sc__law_mr_made.nd rfl (Or.inl rfl) (pe_lst (pa_cons (XEv.pe_ex T.x_BadChange (by rfl) pe_str) (pa_cons (XEv.pe_ex T.x_BadDeeds (by rfl) pe_str) (pa_cons (XEv.pe_ex T.x_BadHouse (by rfl) pe_str) (pa_cons (XEv.pe_ex T.x_BadMove (by rfl) pe_str) (pa_cons (XEv.pe_ex T.x_BadName (by rfl) pe_str) (pa_cons (XEv.pe_ex T.x_BadNumber (by rfl) pe_str) pa_nil))))))))
      (pss_cons (ps_set (i := 1) sc__law_mr_made.nd rfl (Or.inl rfl) (pe_op op_addU (pv 1) (pe_lst (pa_cons (XEv.pe_ex T.x_BadPlace (by rfl) pe_str) (pa_cons (XEv.pe_ex T.x_BadPlaces (by rfl) pe_str) (pa_cons (XEv.pe_ex T.x_BadRank (by rfl) pe_str) (pa_cons (XEv.pe_ex T.x_BadRenaming (by rfl) pe_str) (pa_cons (XEv.pe_ex T.x_BadRow (by rfl) pe_str) (pa_cons (XEv.pe_ex T.x_BadRows (by rfl) pe_str) pa_nil)))))))))
      (pss_cons (ps_set (i := 1) sc__law_mr_made.nd rfl (Or.inl rfl) (pe_op op_addU (pv 1) (pe_lst (pa_cons (XEv.pe_ex T.x_BadSpelling (by rfl) pe_str) (pa_cons (XEv.pe_ex T.x_BadWeb (by rfl) pe_str) (pa_cons (XEv.pe_ex T.x_NoName (by rfl) pe_str) (pa_cons (XEv.pe_ex T.x_NotFree (by rfl) pe_str) (pa_cons (XEv.pe_ex T.x_NotFull (by rfl) pe_str) (pa_cons (XEv.pe_ex T.x_NotMade (by rfl) pe_str) pa_nil)))))))))
      (pss_cons (ps_set (i := 1) sc__law_mr_made.nd rfl (Or.inl rfl) (pe_op op_addU (pv 1) (pe_lst (pa_cons (XEv.pe_ex T.x_NotOver (by rfl) pe_str) pa_nil))))
      (pss_one (ps_ret (pe_op op_addU (pv 1) (pe_lst (pa_cons (XEv.pe_ex T.x_UnlikeMany (by rfl) pe_str) (pa_cons (XEv.pe_ex T.x_UnlikeWebs (by rfl) pe_str) (pa_cons (XEw.pe_ini tx_TooMany J_TooMany IS.sup IS.top (hr : Room (_ + 2) _) (by rfl) IS.g_TooMany (pv 0)) (pa_cons (XEw.pe_ini tx_BadText J_BadText IS.sup IS.top (hr : Room (_ + 2) _) (by rfl) IS.g_BadText (pv 0)) (pa_cons (XEw.pe_ini tx_BadJournal J_BadJournal IS.sup IS.top (hr : Room (_ + 2) _) (by rfl) IS.g_BadJournal (pv 0)) pa_nil))))))))))))), ?_⟩
  refine rd_seq ?_
  refine rd_asg ?_
  refine lst_e (K := K) (n := n) (xs := ["BadChange", "BadDeeds", "BadHouse", "BadMove", "BadName", "BadNumber"]) (by walk_at "ge1") (by simp) fun p1 H1 s1 e1 => ?_
  refine rd_gn ?_
  try dsimp only
  refine rd_seq ?_
  refine rd_asg ?_
  refine add_e (xs := ["BadPlace", "BadPlaces", "BadRank", "BadRenaming", "BadRow", "BadRows"]) rfl e1 (by walk_at "ge1") (by simp) (by simp) fun p2 H2 s2 e2 => ?_
  refine rd_gn ?_
  try dsimp only
  refine rd_seq ?_
  refine rd_asg ?_
  refine add_e (xs := ["BadSpelling", "BadWeb", "NoName", "NotFree", "NotFull", "NotMade"]) rfl e2 (by walk_at "ge1") (by simp) (by simp) fun p3 H3 s3 e3 => ?_
  refine rd_gn ?_
  try dsimp only
  refine rd_seq ?_
  refine rd_asg ?_
  refine add_e (xs := ["NotOver"]) rfl e3 (by walk_at "ge1") (by simp) (by simp) fun p4 H4 s4 e4 => ?_
  refine rd_gn ?_
  try dsimp only
  refine rd_ret ?_
  refine add_e (xs := ["UnlikeMany", "UnlikeWebs", "TooMany", "BadText", "BadJournal"]) rfl e4 (by walk_at "ge1") (by simp) (by simp) fun p5 H5 s5 e5 => ?_
  exact q p5 H5 (s1.trans (s2.trans (s3.trans (s4.trans s5)))) e5
end
end KP

set_option linter.all false
set_option maxRecDepth 100000
set_option maxHeartbeats 4000000
namespace KP
open PySem PySem.Spec PyProof.Rows L2 XA XB XC XD XM XE XF XG XV XDz XS XU XEv XEw NdefX
local macro_rules | `(tactic| walk_at "rd") => `(tactic| repeat (first
  | (with_reducible refine rd_seq ?_) | (with_reducible refine rd_asg ?_) | ((with_reducible refine' rd_var ?hv ?_); (case hv => exact rfl)) | (with_reducible refine rd_c ?_) | (with_reducible refine rd_gn ?_)
  | (with_reducible refine rd_op ?_) | (with_reducible refine rd_un ?_) | (with_reducible refine rd_cons ?_) | (with_reducible refine rd_nil ?_) | (with_reducible refine rd_cl ?_) | (with_reducible refine rd_ck ?_) | (with_reducible refine rd_cb ?_)
  | (with_reducible refine rd_ret ?_) | (with_reducible refine rd_drop ?_) | (with_reducible refine rd_ifs ?_) | (with_reducible refine rd_if ?_) | (with_reducible refine rd_test ?_) | (with_reducible refine rd_tb ?_) | (with_reducible refine rd_and ?_) | (with_reducible refine rd_or ?_)
  | (with_reducible refine rd_not ?_) | (with_reducible refine rd_andV ?_) | (with_reducible refine rd_orV ?_) | (with_reducible refine rd_notV ?_) | (with_reducible refine rd_chain ?_) | (with_reducible refine rd_tup ?_) | (with_reducible refine rd_lst ?_)
  | (with_reducible refine rd_bm0 ?_) | (with_reducible refine rd_bm ?_) | (with_reducible refine rd_sl ?_) | (with_reducible refine rd_part ?_) | (with_reducible refine rd_nopart ?_) | (with_reducible refine rd_dget ?_) | (with_reducible refine rd_dput ?_)
  | (with_reducible refine rd_next ?_) | (with_reducible refine rd_lc ?_) | ((with_reducible refine' rd_aug ?hv ?_); (case hv => exact rfl)) | (with_reducible refine rd_cont ?_) | (with_reducible refine rd_gcons ?_) | (with_reducible refine rd_gnil ?_) | (with_reducible refine rd_ifT ?_) | (with_reducible refine rd_yes ?_) | (with_reducible refine rd_tru ?_) | (with_reducible refine rd_cntE ?_) | (with_reducible refine rd_rng1 ?_) | (with_reducible refine rd_lrg ?_) | (with_reducible refine rd_rg2 ?_) | (with_reducible refine rd_back ?_) | (with_reducible refine rd_disp ?_) | (with_reducible refine rd_prN ?_) | (with_reducible refine rd_prC ?_) | (with_reducible refine rd_par ?_) | (with_reducible refine rd_par3 ?_) | (with_reducible refine rd_two ?_) | (with_reducible refine rd_three ?_) | (with_reducible refine rd_one ?_) | (with_reducible refine rd_onei ?_) | (with_reducible refine rd_iL ?_) | (with_reducible refine rd_iT ?_) | (with_reducible refine rd_rng2 ?_) | (with_reducible refine rd_bl ?_) | (with_reducible refine rd_int ?_) | (with_reducible refine rd_I0 ?_) | (with_reducible refine rd_U ?_) | (with_reducible refine rd_din ?_) | (with_reducible refine rd_dnin ?_) | (with_reducible refine rd_dnew ?_) | (with_reducible refine rd_lset ?_) | (with_reducible refine rd_enT ?_) | (with_reducible refine rd_idx ?_) | (with_reducible refine rd_rg1 ?_) | (with_reducible refine rd_tupRg ?_)))

theorem iteN {c : Bool} {A B : Prop} (h : c = false) (b : B) : if c = true then A else B := by rw [h]; exact b
theorem fo_in {K : PySem.W.Frag} {C : Addr} {fld : Str} {i : Nat} {n : Int} {σ : L2.St} {H : Hp} {Q : VK} (e : σ[i]? = some (some (.int n))) (n0 : 0 ≤ n) (n1 : n < 10 ^ 18) (hC : ExcC K C) (nof : PySem.W.findIn K (.ref C) fld = some none) (q : ∀ H', Same H H' → Q (.int n) H') : tFo K fld (tInV C fld (tVar i)) σ H Q :=
  ⟨_, e, n, rfl, n0, n1, fun a H2 s2 hE => ⟨a, C, _, .int n, rfl, hE, hC, nof, by simp [List.lookup], q H2 s2⟩⟩
section
variable {P : Program} {w : World} {K : PySem.W.Frag} {mg : Str → Option Value} {base : Heap}
/-! ### _law_mr_errors_hold -/
def spHold (K : PySem.W.Frag) : Sp := fun vs H Q _ => ∃ n : Int, vs = [.int n] ∧ 0 ≤ n ∧ n < 10 ^ 18 ∧ ∀ H', Same H H' → Q (.bl true) H'
abbrev s__law_mr_errors_hold : Stmt := top 46
abbrev N__law_mr_errors_hold : List Str := ["many", "at", "error"]
theorem sc__law_mr_errors_hold : FnScope ["many", "at", "error"] ["many"] (defScope s__law_mr_errors_hold) := ⟨rfl, rfl, rfl, by decide +kernel, rfl, by decide +kernel, by decide +kernel⟩
theorem bd__law_mr_errors_hold : Bnd s__law_mr_errors_hold "_law_mr_errors_hold" ["many"] := fun _ _ _ _ _ _ us hl => match us, hl with | [_], _ => rfl

theorem d__law_mr_errors_hold (T : Bs K mg) (IS : Is P K mg) (KS : Ks K) (R : Rw K mg "_law_mr_errors_hold" s__law_mr_errors_hold) (D__law_mr_made : Df P w K mg base CX0 4 "_law_mr_made" s__law_mr_made ["many"] (spMadeE K))
    (D__law_mr_classes : Df P w K mg base CX0 1 "_law_mr_classes" s__law_mr_classes ["error"] (spClasses K)) : Df P w K mg base CX0 5 "_law_mr_errors_hold" s__law_mr_errors_hold ["many"] (spHold K) := by
  obtain ⟨f1, J_TooMany⟩ := IS.i_TooMany
  obtain ⟨f2, J_BadText⟩ := IS.i_BadText
  obtain ⟨f3, J_BadJournal⟩ := IS.i_BadJournal
  refine mk0 R sc__law_mr_errors_hold bd__law_mr_errors_hold (fun vs H Q E h => ?_) fun f cdv A outer sh H vs Q E hr h => ?_
  · obtain ⟨n, rfl, _⟩ := h; rfl
  obtain ⟨n, rfl, n0, n1, q⟩ := h
  refine ⟨_, (pss_cons (ps_for PassesOwn.never rfl (pi_enum (by rfl) T.n_enumerate (pa_cons (pe_d D__law_mr_made hr (by decide) (by rfl) pass0 (pa_cons (pv 0) pa_nil)) pa_nil)) (pg_tup (by rfl) (pgs_cons (pg_name (i := 1) sc__law_mr_errors_hold.nd rfl (Or.inl rfl)) (pgs_cons (pg_name (i := 2) sc__law_mr_errors_hold.nd rfl (Or.inl rfl)) pgs_nil)))
        (pss_one (ps_if (PW.pt (pw_or (pt_not (pt_tru (pe_callB (XEv.call_isV call_isU) (by rfl) T.n_isinstance (by decide +kernel) (pa_cons (pv 2) (pa_cons (pe_gc T.x_KeepError.g (by rfl)) pa_nil))) (by intro _; rfl))) (pw_or (pt_not (pt_tru (pe_callB (XEv.call_isV call_isU) (by rfl) T.n_isinstance (by decide +kernel) (pa_cons (pv 2) (pa_cons (pe_bltn (v := .ty "ValueError") (by rfl) T.n_ValueError (by decide +kernel) rfl) pa_nil))) (by intro _; rfl))) (pw_or1 (pt_cmpR (op_neU hr.units) (pe_d D__law_mr_classes hr (by decide) (by rfl) pass0 (pa_cons (pv 2) pa_nil)) (pe_lst (pa_cons (pv 1) pa_nil)) (nomark _)))))) (pss_one (ps_ret pe_bl)) pss_nil)))
      (pss_cons (ps_if (PW.pt (pw_or (pt_cmpR (op_neU hr.units) (XEv.pe_fo (XEw.pe_ini tx_TooMany J_TooMany IS.sup IS.top (hr : Room (_ + 2) _) (by rfl) IS.g_TooMany (pv 0))) (pv 0) (nomark _)) (pw_or1 (pt_cmpR (op_neU hr.units) (XEv.pe_fo (XEw.pe_iniK tx_TooMany tk_TooMany J_TooMany IS.sup IS.top (hr : Room (_ + 2) _) (by rfl) IS.g_TooMany (pv 0))) (pv 0) (nomark _))))) (pss_one (ps_ret pe_bl)) pss_nil)
      (pss_cons (ps_if (PW.pt (pw_or (pt_cmpR (op_neU hr.units) (XEv.pe_fo (XEw.pe_ini tx_BadText J_BadText IS.sup IS.top (hr : Room (_ + 2) _) (by rfl) IS.g_BadText (pv 0))) (pv 0) (nomark _)) (pw_or1 (pt_cmpR (op_neU hr.units) (XEv.pe_fo (XEw.pe_iniK tx_BadText tk_BadText J_BadText IS.sup IS.top (hr : Room (_ + 2) _) (by rfl) IS.g_BadText (pv 0))) (pv 0) (nomark _))))) (pss_one (ps_ret pe_bl)) pss_nil)
      (pss_one (ps_ret (pe_and (pe_cmpR (op_eqU hr.units) (XEv.pe_fo (XEw.pe_ini tx_BadJournal J_BadJournal IS.sup IS.top (hr : Room (_ + 2) _) (by rfl) IS.g_BadJournal (pv 0))) (pv 0) (nomark _)) (pe_one (pe_cmpR (op_eqU hr.units) (XEv.pe_fo (XEw.pe_iniK tx_BadJournal tk_BadJournal J_BadJournal IS.sup IS.top (hr : Room (_ + 2) _) (by rfl) IS.g_BadJournal (pv 0))) (pv 0) (nomark _))))))))), ?_⟩
  walk_at "rd"
  refine rd_for ?_
  show tCons _ _ _ _ _
  walk_at "rd"
  refine ⟨n, rfl, n0, n1, fun p1 H1 s1 e1 => ?_⟩
  obtain ⟨vs, e1, pr⟩ := e1
  walk_at "rd"
  refine ⟨p1, _, rfl, .inl (.inl e1), ?_⟩
  have lv := Paired.length pr
  refine for_it (walk_enum (xs := vs)) (fun i σ H' => ∃ y1 y2, σ = [some (.int n), y1, y2] ∧ Same H1 H') ⟨none, none, rfl, Same.refl _⟩ (fun i σ H' _ h => ?_) (fun i v σ H2 H3 hi h y => ?_) fun σ H' h => ?_
  · obtain ⟨_, _, _, e⟩ := h
    exact .inl (.inl (e _ _ e1))
  · obtain ⟨y1, y2, rfl, s2⟩ := h
    obtain ⟨t, u, z, rfl, hT, rfl, hu, hy⟩ := y
    cases hu
    have hy : vs[i]? = some z := hy
    obtain ⟨x, hx, a, rfl, hE⟩ : ∃ x, nms[i]? = some x ∧ ErrN K H1 z x n := by
      have key : ∀ {vs : List V} {xs : List Str}, Paired (fun v x => ErrN K H1 v x n) vs xs → ∀ {i : Nat} {z : V}, vs[i]? = some z → ∃ x, xs[i]? = some x ∧ ErrN K H1 z x n := by
        intro vs xs h
        induction h with
        | nil => intro i z e; simp at e
        | cons a _ ih =>
          intro i z e
          cases i with
          | zero => simp at e; subst e; exact ⟨_, rfl, a⟩
          | succ i => simp at e; simpa using ih e
      exact key pr hy
    have mx : x ∈ nms := List.mem_of_getElem? hx
    obtain ⟨sT, eT⟩ := new_at (o := .tup [V.int (i : Nat), V.ref a]) hT
    have s3 := s2.trans sT
    generalize upd H2 t (.tup [V.int (i : Nat), V.ref a]) = H3 at sT eT s3 ⊢
    have hE := hE.same s3
    refine ⟨t, _, rfl, .inl (.inl eT), rfl, ?_⟩
    walk_at "rd"
    refine .inr ⟨a, _, _, _, _, true, rfl, hE, KS.c x mx, .own _, KS.ke x mx, ?_⟩
    refine truB ?_
    refine iteF ?_
    walk_at "rd"
    refine .inr ⟨a, _, _, _, _, true, rfl, hE, KS.c x mx, .ty _, KS.kv x mx, ?_⟩
    refine truB ?_
    refine iteF ?_
    walk_at "rd"
    refine ⟨a, _, x, i, rfl, hx, hE, fun p4 H4 s4 e4 => ?_⟩
    walk_at "rd"
    refine ⟨lz (by simp), fun p5 h5 => ?_⟩
    obtain ⟨s5, e5⟩ := new_at (o := .lst [.int (i : Nat)]) h5
    walk_at "rd"
    have e4 := s5 _ _ e4
    have s5 := s3.trans (s4.trans s5)
    generalize upd H4 p5 (.lst [.int (i : Nat)]) = H5 at s5 e5 e4 ⊢
    refine neL (xs := [(i : Int)]) (ys := [(i : Int)]) (.inl (.inl e4)) (.inl (.inl e5)) ?_
    walk_at "rd"
    refine iteN (by simp) ?_
    walk_at "rd"
    exact ⟨_, _, rfl, s5⟩
  · obtain ⟨y1, y2, rfl, s2⟩ := h
    have s2 := s1.trans s2
    walk_at "rd"
    refine fo_in rfl n0 n1 J_TooMany.ex J_TooMany.nof fun H4 s4 => ?_
    walk_at "rd"
    refine rd_neI ?_
    walk_at "rd"
    refine iteN (by simp) ?_
    walk_at "rd"
    refine fo_in rfl n0 n1 J_TooMany.ex J_TooMany.nof fun H5 s5 => ?_
    walk_at "rd"
    refine rd_neI ?_
    walk_at "rd"
    refine iteN (by simp) ?_
    walk_at "rd"
    refine fo_in rfl n0 n1 J_BadText.ex J_BadText.nof fun H6 s6 => ?_
    walk_at "rd"
    refine rd_neI ?_
    walk_at "rd"
    refine iteN (by simp) ?_
    walk_at "rd"
    refine fo_in rfl n0 n1 J_BadText.ex J_BadText.nof fun H7 s7 => ?_
    walk_at "rd"
    refine rd_neI ?_
    walk_at "rd"
    refine iteN (by simp) ?_
    walk_at "rd"
    refine fo_in rfl n0 n1 J_BadJournal.ex J_BadJournal.nof fun H8 s8 => ?_
    walk_at "rd"
    refine rd_eqI ?_
    walk_at "rd"
    refine iteT' (by simp) ?_
    walk_at "rd"
    refine fo_in rfl n0 n1 J_BadJournal.ex J_BadJournal.nof fun H9 s9 => ?_
    walk_at "rd"
    refine rd_eqI ?_
    have q := q H9 (s2.trans (s4.trans (s5.trans (s6.trans (s7.trans (s8.trans s9))))))
    rw [show decide (n = n) = true by simp]
    exact q
end
end KP

set_option linter.all false
set_option maxRecDepth 100000
set_option maxHeartbeats 4000000
namespace KP
open PySem PySem.Spec PyProof.Rows L2 XA XB XC XD XM XE XF XG XV XDz XS XU XEv XEw
local macro_rules | `(tactic| walk_at "rd") => `(tactic| repeat (first
  | (with_reducible refine rd_seq ?_) | (with_reducible refine rd_asg ?_) | ((with_reducible refine' rd_var ?hv ?_); (case hv => exact rfl)) | (with_reducible refine rd_c ?_) | (with_reducible refine rd_gn ?_)
  | (with_reducible refine rd_op ?_) | (with_reducible refine rd_un ?_) | (with_reducible refine rd_cons ?_) | (with_reducible refine rd_nil ?_) | (with_reducible refine rd_cl ?_) | (with_reducible refine rd_ck ?_) | (with_reducible refine rd_cb ?_)
  | (with_reducible refine rd_ret ?_) | (with_reducible refine rd_drop ?_) | (with_reducible refine rd_ifs ?_) | (with_reducible refine rd_if ?_) | (with_reducible refine rd_test ?_) | (with_reducible refine rd_tb ?_) | (with_reducible refine rd_and ?_) | (with_reducible refine rd_or ?_)
  | (with_reducible refine rd_not ?_) | (with_reducible refine rd_andV ?_) | (with_reducible refine rd_orV ?_) | (with_reducible refine rd_notV ?_) | (with_reducible refine rd_chain ?_) | (with_reducible refine rd_tup ?_) | (with_reducible refine rd_lst ?_)
  | (with_reducible refine rd_bm0 ?_) | (with_reducible refine rd_bm ?_) | (with_reducible refine rd_sl ?_) | (with_reducible refine rd_part ?_) | (with_reducible refine rd_nopart ?_) | (with_reducible refine rd_dget ?_) | (with_reducible refine rd_dput ?_)
  | (with_reducible refine rd_next ?_) | (with_reducible refine rd_lc ?_) | ((with_reducible refine' rd_aug ?hv ?_); (case hv => exact rfl)) | (with_reducible refine rd_cont ?_) | (with_reducible refine rd_gcons ?_) | (with_reducible refine rd_gnil ?_) | (with_reducible refine rd_ifT ?_) | (with_reducible refine rd_yes ?_) | (with_reducible refine rd_tru ?_) | (with_reducible refine rd_cntE ?_) | (with_reducible refine rd_rng1 ?_) | (with_reducible refine rd_lrg ?_) | (with_reducible refine rd_rg2 ?_) | (with_reducible refine rd_back ?_) | (with_reducible refine rd_disp ?_) | (with_reducible refine rd_prN ?_) | (with_reducible refine rd_prC ?_) | (with_reducible refine rd_par ?_) | (with_reducible refine rd_par3 ?_) | (with_reducible refine rd_two ?_) | (with_reducible refine rd_three ?_) | (with_reducible refine rd_one ?_) | (with_reducible refine rd_onei ?_) | (with_reducible refine rd_iL ?_) | (with_reducible refine rd_iT ?_) | (with_reducible refine rd_rng2 ?_) | (with_reducible refine rd_bl ?_) | (with_reducible refine rd_int ?_) | (with_reducible refine rd_I0 ?_) | (with_reducible refine rd_U ?_) | (with_reducible refine rd_din ?_) | (with_reducible refine rd_dnin ?_) | (with_reducible refine rd_dnew ?_) | (with_reducible refine rd_lset ?_) | (with_reducible refine rd_enT ?_) | (with_reducible refine rd_idx ?_) | (with_reducible refine rd_rg1 ?_) | (with_reducible refine rd_tupRg ?_)))

/-! ### _law_caught -/
abbrev s__law_caught : Stmt := top 37
abbrev N__law_caught : List Str := ["action", "found", "error"]
theorem sc__law_caught : FnScope ["action", "found", "error"] ["action"] (defScope s__law_caught) := ⟨rfl, rfl, rfl, by decide +kernel, rfl, by decide +kernel, by decide +kernel⟩
theorem bd__law_caught : Bnd s__law_caught "_law_caught" ["action"] := fun _ _ _ _ _ _ us hl => match us, hl with | [_], _ => rfl

theorem gives__law_caught {X : Cx} {g CS : Addr} {cdg : Value} {q : Str} (hme : X.mg "KeepError" = some (.ref CS)) : LamX.GivesTo X ["action", "found", "error"] "_law_caught" (defScope s__law_caught) g cdg (defBody s__law_caught) "action" q (TCaught X.K CS) :=
  caught_gives (p15 := ⟨0, 0, 0, 0⟩) (e := "KeepError") (by decide) rfl hme (by decide) rfl rfl
theorem pe_lam__law_caught {X : Cx} {st0 : Stmt} {P c CS : Addr} {k : Nat} {params : Arguments} {body : Expr} {scope : Scope} {t : XK → TE} {p lpos pos : Pos} (R : Rw X.K X.mg "_law_caught" s__law_caught) (TB : LamX.TabB X.base X.mg c P) (hcode : X.env.code = .ref c) (hme : X.mg "KeepError" = some (.ref CS))
    (hr : Room (k + 2) X.A) (hg : Gl X "_law_caught") (hsc : X.env.scope = defScope st0) (L : LamX.lamSB (defScope st0) scope = true)
    (hbody : ∀ (A : Around) (outer : List Env) (s : Shared) (H : Hp) (E : XK) (f c' : Addr), Room k (A.deeper (LamX.lamEnv X scope s.heap.objs.size f c')) → PE (LamX.lamCx X A outer s H E scope f c') body (t E))
    (hdef : defaultsOf params X.env = ([], []) := by rfl)
    (hbind : ∀ (q : Str) (cl : List (Str × Addr)) (pm cv ctv : Value), bindArgs (PySem.W.kla_fn "<lambda>" q params body scope cl pm cv ctv) ⟨[], []⟩ = pure [] := by intros; rfl) :
    PE X (.Call (.Name "_law_caught" p) [.Lambda params body scope lpos] [] pos) (LamX.tLam [(P, X.env.qual ++ "<lambda>")] (TCaught X.K CS) t) := by
  obtain ⟨g, fd, F, hm⟩ := R
  have b := F.bindsN bd__law_caught
  have kp := F.kp
  obtain ⟨oc, od, dV, kV, doc, pm, an, cdv, ct, osl, rfl, lk, hcd, _, _⟩ := F.ex
  exact LamX.pe_lamcall hg hm kp lk hcd b sc__law_caught rfl (.inl rfl) (gives__law_caught hme) TB hcode (List.mem_singleton_self _) (fun q hq _ => by rw [List.mem_singleton.mp hq]) hr (LamX.lamS_by (by rw [hsc]; exact L)) hdef hbind hbody
section
variable {P : Program} {w : World} {K : PySem.W.Frag} {mg : Str → Option Value} {base : Heap}
/-! ### _law_mr_number_faults -/
def spFaults (K : PySem.W.Frag) (Tb : List (Addr × Str)) : Sp := fun vs H Q _ => ∃ (s g c : Addr) (m : Nat) (a b : Int), vs = [.ref s, .int a, .int b] ∧ StAt m H s g c ∧ m < 900000 ∧ LamX.Tabs Tb H ∧
  ∀ H', StAt (m + 1) H' s g c → LamX.Tabs Tb H' → Q (.bl true) H'
abbrev s__law_mr_number_faults : Stmt := top 47
abbrev N__law_mr_number_faults : List Str := ["state", "top", "bottom", "bad", "error", "first", "second"]
theorem sc__law_mr_number_faults : FnScope ["state", "top", "bottom", "bad", "error", "first", "second"] ["state", "top", "bottom"] (defScope s__law_mr_number_faults) := ⟨rfl, rfl, rfl, by decide +kernel, rfl, by decide +kernel, by decide +kernel⟩
theorem bd__law_mr_number_faults : Bnd s__law_mr_number_faults "_law_mr_number_faults" ["state", "top", "bottom"] := fun _ _ _ _ _ _ us hl => match us, hl with | [_, _, _], _ => rfl

theorem d__law_mr_number_faults {Pt c0 : Addr} (T : Bs K mg) (IS : Is P K mg) (KS : Ks K) (Ec : Es K) (TB : LamX.TabB base mg c0 Pt) (R : RwC K mg "_law_mr_number_faults" s__law_mr_number_faults c0) (R__law_caught : Rw K mg "_law_caught" s__law_caught)
    (D__law_pick : Df P w K mg base CX0 3 "_law_pick" s__law_pick ["state", "some"] (spPick K))
    (D__law_mr_classes : Df P w K mg base CX0 1 "_law_mr_classes" s__law_mr_classes ["error"] (spClasses K))
    (D_number : Df P w K mg base (L2.CX P w) 2 "number" s_number ["top", "bottom"] (spNumber K)) :
    Df P w K mg base CX0 7 "_law_mr_number_faults" s__law_mr_number_faults ["state", "top", "bottom"] (spFaults K [(Pt, "_law_mr_number_faults.<locals>.<lambda>")]) := by
  refine mk0C R sc__law_mr_number_faults bd__law_mr_number_faults (fun vs H Q E h => ?_) fun f A outer sh H vs Q E hr h => ?_
  · obtain ⟨s, g, c, m, a, b, rfl, _⟩ := h; rfl
  obtain ⟨s, g, c, m, a, b, rfl, hS, hm, hT, q⟩ := h
  refine ⟨_, (pss_cons (ps_set (i := 3) sc__law_mr_number_faults.nd rfl (Or.inl rfl) (pe_d D__law_pick hr (by decide) (by rfl) pass0 (pa_cons (pv 0) (pa_cons (pe_lst (pa_cons pe_non (pa_cons pe_bl (pa_cons pe_bl (pa_cons pe_str (pa_cons (pe_tup (pa_cons pe_int (pa_cons pe_int pa_nil))) (pa_cons (pe_tup (pa_cons pe_int pa_nil)) (pa_cons (pe_lst (pa_cons pe_int pa_nil)) (pa_cons pe_dnewK pa_nil))))))))) pa_nil))))
      (pss_cons (ps_for PassesOwn.never rfl (pi_U (pe_lst (pa_cons (pe_tup (pa_cons (pv 3) (pa_cons (pv 2) pa_nil))) (pa_cons (pe_tup (pa_cons (pv 1) (pa_cons (pv 3) pa_nil))) (pa_cons (pe_tup (pa_cons (pv 1) (pa_cons pe_int pa_nil))) (pa_cons (pe_tup (pa_cons (pv 3) (pa_cons pe_int pa_nil))) (pa_cons (pe_tup (pa_cons pe_int (pa_cons pe_int pa_nil))) (pa_cons (pe_tup (pa_cons (pv 3) (pa_cons (pv 3) pa_nil))) pa_nil)))))))) (pg_tup (by rfl) (pgs_cons (pg_name (i := 5) sc__law_mr_number_faults.nd rfl (Or.inr rfl)) (pgs_cons (pg_name (i := 6) sc__law_mr_number_faults.nd rfl (Or.inr rfl)) pgs_nil)))
        (pss_cons (ps_set (i := 4) sc__law_mr_number_faults.nd rfl (Or.inl rfl) (pe_lam__law_caught R__law_caught TB rfl T.x_KeepError.g hr (by rfl) (st0 := s__law_mr_number_faults) rfl (by decide +kernel) (fun A outer s H E f c' hr => (pe_d D_number hr (by decide) (by rfl) passLam (pa_cons (pv 5) (pa_cons (pv 6) pa_nil))))))
        (pss_one (ps_if (PW.pt (pw_or (pt_not (pt_tru (pe_callB (XEv.call_isV call_isU) (by rfl) T.n_isinstance (by decide +kernel) (pa_cons (pv 4) (pa_cons (pe_gc T.x_BadNumber.g (by rfl)) pa_nil))) (by intro _; rfl))) (pw_or1 (pt_cmpR (op_neU hr.units) (pe_d D__law_mr_classes hr (by decide) (by rfl) pass0 (pa_cons (pv 4) pa_nil)) (pe_lst (pa_cons pe_int pa_nil)) (nomark _))))) (pss_one (ps_ret pe_bl)) pss_nil))))
      (pss_one (ps_ret pe_bl)))), ?_⟩
  walk_at "rd"
  refine ⟨lz (by simp), fun p1 h1 => ?_⟩
  obtain ⟨s1, e1⟩ := new_at (o := .tup [.int 1, .int 2]) h1
  walk_at "rd"
  generalize upd H p1 (.tup [.int 1, .int 2]) = H1 at s1 e1 ⊢
  refine ⟨lz (by simp), fun p2 h2 => ?_⟩
  obtain ⟨s2, e2⟩ := new_at (o := .tup [.int 1]) h2
  walk_at "rd"
  generalize upd H1 p2 (.tup [.int 1]) = H2 at s2 e2 ⊢
  refine ⟨lz (by simp), fun p3 h3 => ?_⟩
  obtain ⟨s3, e3⟩ := new_at (o := .lst [.int 1]) h3
  walk_at "rd"
  generalize upd H2 p3 (.lst [.int 1]) = H3 at s3 e3 ⊢
  refine fun p4 h4 => ?_
  obtain ⟨s4, e4⟩ := new_at (o := .dK []) h4
  walk_at "rd"
  generalize upd H3 p4 (.dK []) = H4 at s4 e4 ⊢
  refine ⟨lz (by simp), fun p5 h5 => ?_⟩
  obtain ⟨s5, e5⟩ := new_at (o := .lst [.non, .bl true, .bl false, .str "1", .ref p1, .ref p2, .ref p3, .ref p4]) h5
  walk_at "rd"
  generalize upd H4 p5 (.lst [.non, .bl true, .bl false, .str "1", .ref p1, .ref p2, .ref p3, .ref p4]) = H5 at s5 e5 ⊢
  have t5 : Same H H5 := s1.trans (s2.trans (s3.trans (s4.trans s5)))
  have S5 := hS.same t5
  refine ⟨s, g, c, p5, m, _, rfl, S5, by omega, .inl (.inl e5), (hS.same (s1.trans (s2.trans (s3.trans s4)))).ne_n h5, by simp, by simp, fun vb H6 hx S6 k6 => ?_⟩
  have key : ∃ d, Rp K H5 vb d ∧ wh2 (.one d) = false ∧ vb ≠ .ref g := by
    simp only [List.mem_cons, List.not_mem_nil, or_false] at hx
    rcases hx with rfl | rfl | rfl | rfl | rfl | rfl | rfl | rfl
    · exact ⟨.flat _, ⟨rfl, rfl⟩, rfl, by intro z; cases z⟩
    · exact ⟨.flat _, ⟨rfl, rfl⟩, rfl, by intro z; cases z⟩
    · exact ⟨.flat _, ⟨rfl, rfl⟩, rfl, by intro z; cases z⟩
    · exact ⟨.flat _, ⟨rfl, rfl⟩, rfl, by intro z; cases z⟩
    · exact ⟨.tup [.int 1, .int 2], ⟨p1, rfl, .inl (.inl (s5 _ _ (s4 _ _ (s3 _ _ (s2 _ _ e1))))), okTwo⟩, rfl, fun z => hS.ne_n h1 (V.ref.inj z)⟩
    · exact ⟨.tup [.int 1], ⟨p2, rfl, .inl (.inl (s5 _ _ (s4 _ _ (s3 _ _ e2)))), rfl⟩, rfl, fun z => (hS.same s1).ne_n h2 (V.ref.inj z)⟩
    · exact ⟨.lst [.int 1], ⟨p3, rfl, .inl (.inl (s5 _ _ (s4 _ _ e3)))⟩, rfl, fun z => (hS.same (s1.trans s2)).ne_n h3 (V.ref.inj z)⟩
    · exact ⟨.dct, ⟨p4, [], rfl, s5 _ _ e4, by simp⟩, rfl, fun z => (hS.same (s1.trans (s2.trans s3))).ne_n h4 (V.ref.inj z)⟩
  obtain ⟨db, r5, wb, gb⟩ := key
  have r6 := k6.rp S5 r5 gb
  have T6 := tabs_kept (tabs_same hT t5) k6 S5
  clear k6 hx S5 t5 e5 e4 e3 e2 e1 s5 s4 s3 s2 s1 h5 h4 h3 h2 h1 r5 gb hT hS
  walk_at "rd"
  refine .inl ?_
  walk_at "rd"
  refine ⟨lz (by simp), fun t1 h1 => ?_⟩
  obtain ⟨s1, e1⟩ := new_at (o := .tup [vb, .int b]) h1
  walk_at "rd"
  generalize upd H6 t1 (.tup [vb, .int b]) = G1 at s1 e1 ⊢
  refine ⟨lz (by simp), fun t2 h2 => ?_⟩
  obtain ⟨s2, e2⟩ := new_at (o := .tup [.int a, vb]) h2
  walk_at "rd"
  generalize upd G1 t2 (.tup [.int a, vb]) = G2 at s2 e2 ⊢
  refine ⟨lz (by simp), fun t3 h3 => ?_⟩
  obtain ⟨s3, e3⟩ := new_at (o := .tup [.int a, .int 0]) h3
  walk_at "rd"
  generalize upd G2 t3 (.tup [.int a, .int 0]) = G3 at s3 e3 ⊢
  refine ⟨lz (by simp), fun t4 h4 => ?_⟩
  obtain ⟨s4, e4⟩ := new_at (o := .tup [vb, .int 0]) h4
  walk_at "rd"
  generalize upd G3 t4 (.tup [vb, .int 0]) = G4 at s4 e4 ⊢
  refine ⟨lz (by simp), fun t5 h5 => ?_⟩
  obtain ⟨s5, e5⟩ := new_at (o := .tup [.int 0, .int 0]) h5
  walk_at "rd"
  generalize upd G4 t5 (.tup [.int 0, .int 0]) = G5 at s5 e5 ⊢
  refine ⟨lz (by simp), fun t6 h6 => ?_⟩
  obtain ⟨s6, e6⟩ := new_at (o := .tup [vb, vb]) h6
  walk_at "rd"
  generalize upd G5 t6 (.tup [vb, vb]) = G6 at s6 e6 ⊢
  refine ⟨lz (by simp), fun q7 h7 => ?_⟩
  obtain ⟨s7, e7⟩ := new_at (o := .lst [.ref t1, .ref t2, .ref t3, .ref t4, .ref t5, .ref t6]) h7
  walk_at "rd"
  generalize upd G6 q7 (.lst [.ref t1, .ref t2, .ref t3, .ref t4, .ref t5, .ref t6]) = G7 at s7 e7 ⊢
  have e6 := s7 _ _ e6
  have e5 := s7 _ _ (s6 _ _ e5)
  have e4 := s7 _ _ (s6 _ _ (s5 _ _ e4))
  have e3 := s7 _ _ (s6 _ _ (s5 _ _ (s4 _ _ e3)))
  have e2 := s7 _ _ (s6 _ _ (s5 _ _ (s4 _ _ (s3 _ _ e2))))
  have e1 := s7 _ _ (s6 _ _ (s5 _ _ (s4 _ _ (s3 _ _ (s2 _ _ e1)))))
  have t7 := s1.trans (s2.trans (s3.trans (s4.trans (s5.trans (s6.trans s7)))))
  have S7 := S6.same t7
  have T7 := tabs_same T6 t7
  have r7 := r6.same t7
  clear s1 s2 s3 s4 s5 s6 s7 h1 h2 h3 h4 h5 h6 h7 S6 T6 r6 t7
  refine ⟨q7, rfl, ⟨_, .inl (.inl e7)⟩, ?_⟩
  refine for_list (xs := [.ref t1, .ref t2, .ref t3, .ref t4, .ref t5, .ref t6]) (fun i σ H' => ∃ (y4 y5 y6 : Option V), σ = [some (.ref s), some (.int a), some (.int b), some vb, y4, y5, y6] ∧ LamX.ExtN G7 H' ∧ LamX.Tabs [(Pt, "_law_mr_number_faults.<locals>.<lambda>")] H')
    ⟨none, none, none, rfl, .refl _, T7⟩ (fun i σ H' _ h => ?_) (fun i x σ H' hx h => ?_) (fun σ H' h => ?_)
  · obtain ⟨y4, y5, y6, rfl, ex, tx⟩ := h
    exact .inl (.inl (ex _ _ e7 (by intro _ z; cases z)))
  · obtain ⟨y4, y5, y6, rfl, ex, tx⟩ := h
    obtain ⟨pt, v1, v2, d1, d2, rfl, et, r1, r2, bad⟩ : ∃ pt v1 v2 d1 d2, x = .ref pt ∧ G7 pt = some (.tup [v1, v2]) ∧ Rp K G7 v1 d1 ∧ Rp K G7 v2 d2 ∧ (wh2 (.one d1) = false ∨ wh2 (.one d2) = false ∨ d2 = .flat (.int 0)) := by
      have hx := List.mem_of_getElem? hx
      simp only [List.mem_cons, List.not_mem_nil, or_false] at hx
      rcases hx with rfl | rfl | rfl | rfl | rfl | rfl
      · exact ⟨t1, _, _, db, .flat _, rfl, e1, r7, ⟨rfl, rfl⟩, .inl wb⟩
      · exact ⟨t2, _, _, .flat _, db, rfl, e2, ⟨rfl, rfl⟩, r7, .inr (.inl wb)⟩
      · exact ⟨t3, _, _, .flat _, .flat _, rfl, e3, ⟨rfl, rfl⟩, ⟨rfl, rfl⟩, .inr (.inr rfl)⟩
      · exact ⟨t4, _, _, db, .flat _, rfl, e4, r7, ⟨rfl, rfl⟩, .inl wb⟩
      · exact ⟨t5, _, _, .flat _, .flat _, rfl, e5, ⟨rfl, rfl⟩, ⟨rfl, rfl⟩, .inr (.inr rfl)⟩
      · exact ⟨t6, _, _, db, db, rfl, e6, r7, r7, .inl wb⟩
    refine ⟨pt, _, rfl, .inl (.inl (ex _ _ et (by intro _ z; cases z))), rfl, ?_⟩
    walk_at "rd"
    refine rd_caught tx Ec.m_BadNumber fun H2 Ech Q' x2 t2 he => ?_
    walk_at "rd"
    have he2 : Ech (.ref (He.ga K "BadNumber")) none H2 := he _ fun v H4 s4 er => by
      walk_at "rd"
      obtain ⟨ea, rfl, eO⟩ := errO_of er
      refine .inr ⟨ea, _, _, _, _, true, rfl, eO, T.x_BadNumber.c, .own _, Ec.k_BadNumber, ?_⟩
      refine truB ?_
      refine iteF ?_
      walk_at "rd"
      refine ⟨ea, _, "BadNumber", 5, rfl, rfl, eO, fun p6 H6 s6 e6 => ?_⟩
      walk_at "rd"
      refine ⟨lz (by simp), fun p8 h8 => ?_⟩
      obtain ⟨s8, e8⟩ := new_at (o := .lst [.int 5]) h8
      walk_at "rd"
      have e6 := s8 _ _ e6
      have s8 := s4.trans (s6.trans s8)
      generalize upd H6 p8 (.lst [.int 5]) = H8 at s8 e8 e6 ⊢
      refine neL (xs := [(5 : Int)]) (ys := [(5 : Int)]) (.inl (.inl e6)) (.inl (.inl e8)) ?_
      walk_at "rd"
      refine iteN (by simp) ?_
      exact ⟨_, _, _, rfl, (ex.trans x2).trans (.of s8), tabs_same t2 s8⟩
    refine ⟨v1, v2, .one d1, .one d2, rfl, ext_rp x2 (ext_rp ex r1), ext_rp x2 (ext_rp ex r2), fun _ => he2, fun _ _ => he2, fun a2 b2 f1 f2 => ⟨fun _ => he2, fun nz => ?_⟩⟩
    rcases bad with h | h | h
    · rw [f1] at h; cases h
    · rw [f2] at h; cases h
    · injection f2 with f2
      rw [h] at f2
      injection f2 with f2
      injection f2 with f2
      exact absurd f2.symm nz
  obtain ⟨y4, y5, y6, rfl, ex, tx⟩ := h
  walk_at "rd"
  exact q _ (ext_st ex S7) tx
end
end KP

set_option linter.all false
set_option maxRecDepth 100000
set_option maxHeartbeats 4000000
namespace KP
open PySem PySem.Spec PyProof.Rows L2 XA XB XC XD XM XE XF XG XV XDz
/-! ### mathematics: fractions told once -/
theorem frac {a b : Int} (hb : b ≠ 0) : ∃ h l : Int, a = cmnI a b * h ∧ b = cmnI a b * l ∧ a.fdiv (cmnI a b) = h ∧ b.fdiv (cmnI a b) = l ∧ 1 ≤ l ∧ Nat.gcd h.natAbs l.natAbs = 1 ∧ l.natAbs ≤ b.natAbs := by
  obtain ⟨h, eh⟩ := cmn_dvl a b
  obtain ⟨l, el⟩ := cmn_dvr a b
  have c0 := cmn_ne (a := a) hb
  have gn := cmn_nat a b
  have sg : (b < 0 → cmnI a b ≤ 0) ∧ (0 < b → 0 ≤ cmnI a b) := by
    unfold cmnI
    constructor
    · intro z; rw [if_pos z]; omega
    · intro z; rw [if_neg (by omega)]; omega
  generalize cmnI a b = c at *
  have l1 : 1 ≤ l := by
    rcases Int.lt_or_gt_of_ne hb with z | z
    · have c1 : c < 0 := by have := sg.1 z; omega
      apply Int.not_lt.mp
      intro q
      have : 0 ≤ c * l := Int.mul_nonneg_of_nonpos_of_nonpos (by omega) (by omega)
      omega
    · have c1 : 0 < c := by have := sg.2 z; omega
      apply Int.not_lt.mp
      intro q
      have : c * l ≤ 0 := Int.mul_nonpos_of_nonneg_of_nonpos (by omega) (by omega)
      omega
  refine ⟨h, l, eh, el, ?_, ?_, l1, ?_, ?_⟩
  · rw [eh, Int.mul_comm, Int.mul_fdiv_cancel _ c0]
  · rw [el, Int.mul_comm, Int.mul_fdiv_cancel _ c0]
  · rw [eh, el, Int.natAbs_mul, Int.natAbs_mul, Nat.gcd_mul_left] at gn
    have p : 0 < c.natAbs := by omega
    exact Nat.eq_of_mul_eq_mul_left p (by rw [← gn, Nat.mul_one])
  · rw [el, Int.natAbs_mul]
    exact Nat.le_mul_of_pos_left _ (by omega)
theorem cmn_scale {a b m : Int} (hb : b ≠ 0) (hm : m ≠ 0) : cmnI (a * m) (b * m) = cmnI a b * m := by
  have g : (Nat.gcd (a * m).natAbs (b * m).natAbs : Nat) = Nat.gcd a.natAbs b.natAbs * m.natAbs := by rw [Int.natAbs_mul, Int.natAbs_mul, Nat.gcd_mul_right]
  unfold cmnI
  rw [g, Int.natCast_mul]
  generalize ((Nat.gcd a.natAbs b.natAbs : Nat) : Int) = G
  rcases Int.lt_or_gt_of_ne hb with h | h <;> rcases Int.lt_or_gt_of_ne hm with k | k
  · rw [if_neg (by have := Int.mul_pos_of_neg_of_neg h k; omega), if_pos h, show ((m.natAbs : Nat) : Int) = -m by omega, Int.mul_neg, Int.neg_mul]
  · rw [if_pos (Int.mul_neg_of_neg_of_pos h k), if_pos h, show ((m.natAbs : Nat) : Int) = m by omega, Int.neg_mul]
  · rw [if_pos (Int.mul_neg_of_pos_of_neg h k), if_neg (by omega), show ((m.natAbs : Nat) : Int) = -m by omega, Int.mul_neg, Int.neg_neg]
  · rw [if_neg (by have := Int.mul_pos h k; omega), if_neg (by omega), show ((m.natAbs : Nat) : Int) = m by omega]
/-- a fraction made wider is told alike -/
theorem same_frac {a b m : Int} (hb : b ≠ 0) (hm : m ≠ 0) : (a * m).fdiv (cmnI (a * m) (b * m)) = a.fdiv (cmnI a b) ∧ (b * m).fdiv (cmnI (a * m) (b * m)) = b.fdiv (cmnI a b) := by
  obtain ⟨h, l, eh, el, fh, fl, _⟩ := frac (a := a) hb
  have c0 := cmn_ne (a := a) hb
  rw [cmn_scale hb hm, fh, fl]
  have cm : cmnI a b * m ≠ 0 := Int.mul_ne_zero c0 hm
  generalize cmnI a b = c at *
  constructor
  · rw [eh, show c * h * m = h * (c * m) by rw [Int.mul_comm c h, Int.mul_assoc], Int.mul_fdiv_cancel _ cm]
  · rw [el, show c * l * m = l * (c * m) by rw [Int.mul_comm c l, Int.mul_assoc], Int.mul_fdiv_cancel _ cm]
theorem neg_frac {a b : Int} (hb : b ≠ 0) : (0 - a).fdiv (cmnI (0 - a) (0 - b)) = a.fdiv (cmnI a b) ∧ (0 - b).fdiv (cmnI (0 - a) (0 - b)) = b.fdiv (cmnI a b) := by
  have := same_frac (a := a) (m := -1) hb (by decide)
  rw [show a * -1 = 0 - a by omega, show b * -1 = 0 - b by omega] at this
  exact this
section
variable {K : PySem.W.Frag} {H : Hp} {v u : V} {h l : Int} {Q : VK}
theorem num_rp (hv : NumV K H v h l) (l1 : 1 ≤ l) (g : Nat.gcd h.natAbs l.natAbs = 1) : ∃ d, Rp2 K H v d ∧ isNum d = true := by
  unfold NumV at hv
  split at hv
  · subst hv; exact ⟨.one (.flat (.int h)), ⟨rfl, rfl⟩, rfl⟩
  · obtain ⟨p, rfl, hp⟩ := hv
    refine ⟨.one (.tup [.int h, .int l]), ⟨p, rfl, hp, okTwo⟩, ?_⟩
    show (false || (decide (2 ≤ l) && decide (Nat.gcd h.natAbs l.natAbs = 1))) = true
    rw [decide_eq_true g, decide_eq_true (show 2 ≤ l by omega)] <;> rfl
theorem ne_num (hr : True) (h1 : NumV K H v h l) (h2 : NumV K H u h l) (q : Q (.bl false) H) : rNeU K v u H Q := by
  unfold NumV at h1 h2
  split at h1
  · rename_i e
    rw [if_pos e] at h2
    subst h1 h2
    refine rd_neI ?_
    rw [show (!decide (h = h)) = false by simp]
    exact q
  · rename_i e
    rw [if_neg e] at h2
    obtain ⟨p, rfl, hp⟩ := h1
    obtain ⟨p2, rfl, hp2⟩ := h2
    refine neT (xs := [h, l]) (ys := [h, l]) hp hp2 ?_
    rw [show (!decide ([h, l] = [h, l])) = false by simp]
    exact q
end
theorem NumV.same {K : PySem.W.Frag} {H H' : Hp} {v : V} {h l : Int} (q : NumV K H v h l) (e : Same H H') : NumV K H' v h l := by
  unfold NumV at q ⊢
  split
  · rename_i z; rw [if_pos z] at q; exact q
  · rename_i z
    rw [if_neg z] at q
    obtain ⟨p, r, s⟩ := q
    exact ⟨p, r, sqT_same e s⟩
end KP

set_option linter.all false
set_option maxRecDepth 100000
set_option maxHeartbeats 4000000
namespace KP
open PySem PySem.Spec PyProof.Rows L2 XA XB XC XD XM XE XF XG XV XDz
local macro_rules | `(tactic| walk_at "rd") => `(tactic| repeat (first
  | (with_reducible refine rd_seq ?_) | (with_reducible refine rd_asg ?_) | ((with_reducible refine' rd_var ?hv ?_); (case hv => exact rfl)) | (with_reducible refine rd_c ?_) | (with_reducible refine rd_gn ?_)
  | (with_reducible refine rd_op ?_) | (with_reducible refine rd_un ?_) | (with_reducible refine rd_cons ?_) | (with_reducible refine rd_nil ?_) | (with_reducible refine rd_cl ?_) | (with_reducible refine rd_ck ?_) | (with_reducible refine rd_cb ?_)
  | (with_reducible refine rd_ret ?_) | (with_reducible refine rd_drop ?_) | (with_reducible refine rd_ifs ?_) | (with_reducible refine rd_if ?_) | (with_reducible refine rd_test ?_) | (with_reducible refine rd_tb ?_) | (with_reducible refine rd_and ?_) | (with_reducible refine rd_or ?_)
  | (with_reducible refine rd_not ?_) | (with_reducible refine rd_andV ?_) | (with_reducible refine rd_orV ?_) | (with_reducible refine rd_notV ?_) | (with_reducible refine rd_chain ?_) | (with_reducible refine rd_tup ?_) | (with_reducible refine rd_lst ?_)
  | (with_reducible refine rd_bm0 ?_) | (with_reducible refine rd_bm ?_) | (with_reducible refine rd_sl ?_) | (with_reducible refine rd_part ?_) | (with_reducible refine rd_nopart ?_) | (with_reducible refine rd_dget ?_) | (with_reducible refine rd_dput ?_)
  | (with_reducible refine rd_next ?_) | (with_reducible refine rd_lc ?_) | ((with_reducible refine' rd_aug ?hv ?_); (case hv => exact rfl)) | (with_reducible refine rd_cont ?_) | (with_reducible refine rd_gcons ?_) | (with_reducible refine rd_gnil ?_) | (with_reducible refine rd_ifT ?_) | (with_reducible refine rd_yes ?_) | (with_reducible refine rd_tru ?_) | (with_reducible refine rd_cntE ?_) | (with_reducible refine rd_rng1 ?_) | (with_reducible refine rd_lrg ?_) | (with_reducible refine rd_rg2 ?_) | (with_reducible refine rd_back ?_) | (with_reducible refine rd_disp ?_) | (with_reducible refine rd_prN ?_) | (with_reducible refine rd_prC ?_) | (with_reducible refine rd_par ?_) | (with_reducible refine rd_par3 ?_) | (with_reducible refine rd_two ?_) | (with_reducible refine rd_three ?_) | (with_reducible refine rd_one ?_) | (with_reducible refine rd_onei ?_) | (with_reducible refine rd_iL ?_) | (with_reducible refine rd_iT ?_) | (with_reducible refine rd_rng2 ?_) | (with_reducible refine rd_bl ?_) | (with_reducible refine rd_int ?_) | (with_reducible refine rd_I0 ?_) | (with_reducible refine rd_U ?_) | (with_reducible refine rd_din ?_) | (with_reducible refine rd_dnin ?_) | (with_reducible refine rd_dnew ?_) | (with_reducible refine rd_lset ?_) | (with_reducible refine rd_enT ?_) | (with_reducible refine rd_idx ?_) | (with_reducible refine rd_rg1 ?_) | (with_reducible refine rd_tupRg ?_)))

theorem iteJ {c : Bool} {t u : TS} {D : Ends} {σ : L2.St} {H : Hp} (C : L2.St → Hp → Prop) (key : ∀ σ1 H1, C σ1 H1 → D.nx σ1 H1) (h : (∀ σ1 H1, C σ1 H1 → D.nx σ1 H1) → if c = true then t D σ H else u D σ H) : if c = true then t D σ H else u D σ H := h key
theorem rd_ifV {c : TT} {ta tb : TE} {σ : L2.St} {H : Hp} {Q : VK} (C : V → Hp → Prop) (key : ∀ x H, C x H → Q x H) (h : (∀ x H, C x H → Q x H) → tIf c ta tb σ H Q) : tIf c ta tb σ H Q := h key
theorem num_call {K : PySem.W.Frag} {x1 x2 h l : Int} {G : Hp} {Q' : VK} {E : XK} (x0 : x2 ≠ 0) (xb : x2.natAbs < 2 ^ 200) (f1 : x1.fdiv (cmnI x1 x2) = h) (f2 : x2.fdiv (cmnI x1 x2) = l) (q : ∀ v H', Same G H' → NumV K H' v h l → Q' v H') : spNumber K [.int x1, .int x2] G Q' E := by
  have w : ∀ i : Int, wh2 (.one (.flat (.int i))) = true := fun _ => rfl
  refine ⟨_, _, .one (.flat (.int x1)), .one (.flat (.int x2)), rfl, ⟨rfl, rfl⟩, ⟨rfl, rfl⟩, fun z => ?_, fun _ z => ?_, fun a2 b2 g1 g2 => ?_⟩
  · rw [w] at z; cases z
  · rw [w] at z; cases z
  · cases g1
    cases g2
    exact ⟨fun z => absurd z x0, fun _ => ⟨xb, fun v H' s hv => q v H' s (by rw [f1, f2] at hv; exact hv)⟩⟩
section
variable {P : Program} {w : World} {K : PySem.W.Frag} {mg : Str → Option Value} {base : Heap}
/-! ### law -/
def spLaw (K : PySem.W.Frag) (Tb : List (Addr × Str)) : Sp := fun vs H Q _ => ∃ (a : Addr) (ns : List Int), vs = [.ref a] ∧ SqL K H a (ns.map V.int) ∧ ns.length ≤ 63 ∧ LamX.Tabs Tb H ∧ ∀ H', Q (.bl true) H'
abbrev s_law : Stmt := top 48
abbrev N_law : List Str := ["script", "state", "turn", "top", "bottom", "many", "due", "high", "low", "first", "second", "found", "near"]
theorem sc_law : FnScope ["script", "state", "turn", "top", "bottom", "many", "due", "high", "low", "first", "second", "found", "near"] ["script"] (defScope s_law) := ⟨rfl, rfl, rfl, by decide +kernel, rfl, by decide +kernel, by decide +kernel⟩
theorem bd_law : Bnd s_law "law" ["script"] := fun _ _ _ _ _ _ us hl => match us, hl with | [_], _ => rfl

theorem ok_law {Tb : List (Addr × Str)} {f : Addr} {fd : FuncData} (T : Bs K mg) (F : FunD K "law" "law" (defArgs s_law) (defBody s_law) (defScope s_law) [] [] f fd)
    (D_is_number : Df P w K mg base CX0 2 "is_number" s_is_number ["value"] (spIsNum K))
    (D_number : Df P w K mg base (L2.CX P w) 2 "number" s_number ["top", "bottom"] (spNumber K))
    (D__law_begun : Df P w K mg base CX0 1 "_law_begun" s__law_begun ["script"] (spBegun K))
    (D__law_draw : Df P w K mg base CX0 2 "_law_draw" s__law_draw ["state", "room"] (spDraw K))
    (D__law_pick : Df P w K mg base CX0 3 "_law_pick" s__law_pick ["state", "some"] (spPick K))
    (D__law_is_truth : Df P w K mg base CX0 1 "_law_is_truth" s__law_is_truth ["found", "due"] spTruth)
    (D__law_mk_made : Df P w K mg base CX0 2 "_law_mk_made" s__law_mk_made ["top", "bottom"] (spMade K))
    (D__law_mk_is_number : Df P w K mg base CX0 2 "_law_mk_is_number" s__law_mk_is_number ["item"] (spMkNum K))
    (D__law_mr_great : Df P w K mg base CX0 4 "_law_mr_great" s__law_mr_great ["state"] (spGreat K))
    (D__law_mr_near : Df P w K mg base CX0 1 "_law_mr_near" s__law_mr_near ["top", "bottom", "due"] (spNear K))
    (D__law_mr_errors_hold : Df P w K mg base CX0 5 "_law_mr_errors_hold" s__law_mr_errors_hold ["many"] (spHold K))
    (D__law_mr_number_faults : Df P w K mg base CX0 7 "_law_mr_number_faults" s__law_mr_number_faults ["state", "top", "bottom"] (spFaults K Tb)) :
    FnOk P w K mg base CX0 9 f fd ["script"] (spLaw K Tb) := by
  refine mk0F F sc_law (fun vs H Q E h => ?_) fun cdv A outer sh H vs Q E hr h => ?_
  · obtain ⟨a, ns, rfl, _⟩ := h; rfl
  obtain ⟨a, ns, rfl, hS, hl, hT, q⟩ := h
  have hu := lt1 hr.units
  refine ⟨_, (pss_cons (ps_set (i := 1) sc_law.nd rfl (Or.inl rfl) (pe_d D__law_begun hr (by decide) (by rfl) pass0 (pa_cons (pv 0) pa_nil)))
      (pss_cons (ps_for PassesOwn.never rfl (pi_range1 (by rfl) T.n_range (pa_cons (pe_op op_addU pe_int (pe_callB (call_min2 rfl) (by rfl) T.n_min (by decide +kernel) (pa_cons (pe_callB call_len (by rfl) T.n_len (by decide +kernel) (pa_cons (pv 0) pa_nil)) (pa_cons pe_int pa_nil)))) pa_nil)) (pg_name (i := 2) sc_law.nd rfl (Or.inl rfl))
        (pss_cons (ps_par3 (i := 3) (j := 4) (l := 5) rfl sc_law.nd rfl rfl rfl (by decide) (by decide) (by decide) rfl rfl rfl (pa_cons (pe_d D__law_mr_great hr (by decide) (by rfl) pass0 (pa_cons (pv 1) pa_nil)) (pa_cons (pe_d D__law_mr_great hr (by decide) (by rfl) pass0 (pa_cons (pv 1) pa_nil)) (pa_cons (pe_d D__law_mr_great hr (by decide) (by rfl) pass0 (pa_cons (pv 1) pa_nil)) pa_nil))) (by rfl))
        (pss_cons (ps_if (pt_cmpR (op_eqU hr.units) (pe_d D__law_draw hr (by decide) (by rfl) pass0 (pa_cons (pv 1) (pa_cons pe_int pa_nil))) pe_int (nomark _)) (pss_one (ps_set (i := 3) sc_law.nd rfl (Or.inl rfl) (pe_d D__law_pick hr (by decide) (by rfl) pass0 (pa_cons (pv 1) (pa_cons (pe_lst (pa_cons pe_int (pa_cons (pv 4) (pa_cons (pe_op op_sub pe_int (pv 4)) (pa_cons (pe_op op_mulU (pv 4) (pv 5)) pa_nil))))) pa_nil))))) pss_nil)
        (pss_cons (ps_set (i := 6) sc_law.nd rfl (Or.inl rfl) (pe_d D__law_mk_made hr (by decide) (by rfl) pass0 (pa_cons (pv 3) (pa_cons (pv 4) pa_nil))))
        (pss_cons (ps_set (i := 7) sc_law.nd rfl (Or.inl rfl) (pe_ifExp (pt_cmpR op_lt (pe_callB call_abs (by rfl) T.n_abs (by decide +kernel) (pa_cons (pv 3) pa_nil)) (pe_op op_pow pe_int pe_int) (nomark _)) (pe_op op_mulU (pv 3) (pv 5)) (pv 3)))
        (pss_cons (ps_set (i := 8) sc_law.nd rfl (Or.inl rfl) (pe_ifExp (pt_cmpR op_lt (pe_callB call_abs (by rfl) T.n_abs (by decide +kernel) (pa_cons (pv 3) pa_nil)) (pe_op op_pow pe_int pe_int) (nomark _)) (pe_op op_mulU (pv 4) (pv 5)) (pv 4)))
        (pss_cons (ps_for PassesOwn.never rfl (pi_U (pe_lst (pa_cons (pe_tup (pa_cons (pv 3) (pa_cons (pv 4) pa_nil))) (pa_cons (pe_tup (pa_cons (pv 7) (pa_cons (pv 8) pa_nil))) (pa_cons (pe_tup (pa_cons (pe_op op_sub pe_int (pv 3)) (pa_cons (pe_op op_sub pe_int (pv 4)) pa_nil))) pa_nil))))) (pg_tup (by rfl) (pgs_cons (pg_name (i := 9) sc_law.nd rfl (Or.inl rfl)) (pgs_cons (pg_name (i := 10) sc_law.nd rfl (Or.inl rfl)) pgs_nil)))
          (pss_cons (ps_set (i := 11) sc_law.nd rfl (Or.inl rfl) (pe_dk0 D_number bdk_number_0 hr (by decide) (by rfl) passL (pk_cons (pv 9) (pk_cons (pv 10) pk_nil))))
          (pss_one (ps_if (PW.pt (pw_or (pt_not (pt_tru (pe_d D__law_mk_is_number hr (by decide) (by rfl) pass0 (pa_cons (pv 11) pa_nil)) (by intro _; rfl))) (pw_or (pt_cmpR (op_neU hr.units) (pv 11) (pv 6) (nomark _)) (pw_or1 (pt_cmpR (op_neU hr.units) (pe_d D_number hr (by decide) (by rfl) passL (pa_cons (pv 9) (pa_cons (pv 10) pa_nil))) (pv 6) (nomark _)))))) (pss_one (ps_ret pe_bl)) pss_nil))))
        (pss_cons (ps_for PassesOwn.never rfl (pi_U (pe_op op_addU (pe_d D__law_mr_near hr (by decide) (by rfl) pass0 (pa_cons (pv 3) (pa_cons (pv 4) (pa_cons (pv 6) pa_nil)))) (pe_lst (pa_cons (pe_tup (pa_cons (pv 7) (pa_cons (pv 8) pa_nil))) pa_nil)))) (pg_name (i := 12) sc_law.nd rfl (Or.inl rfl))
          (pss_one (ps_if (pt_not (pt_tru (pe_d D__law_is_truth hr (by decide) (by rfl) pass0 (pa_cons (pe_dk0 D_is_number bdk_is_number_0 hr (by decide) (by rfl) pass0 (pk_cons (pv 12) pk_nil)) (pa_cons (pe_d D__law_mk_is_number hr (by decide) (by rfl) pass0 (pa_cons (pv 12) pa_nil)) pa_nil))) (by intro _; rfl))) (pss_one (ps_ret pe_bl)) pss_nil)))
        (pss_one (ps_if (pt_not (pt_tru (pe_d D__law_mr_number_faults hr (by decide) (by rfl) pass0 (pa_cons (pv 1) (pa_cons (pv 3) (pa_cons (pv 4) pa_nil)))) (by intro _; rfl))) (pss_one (ps_ret pe_bl)) pss_nil))))))))))
      (pss_one (ps_ret (pe_d D__law_mr_errors_hold hr (by decide) (by rfl) pass0 (pa_cons (pe_d D__law_pick hr (by decide) (by rfl) pass0 (pa_cons (pv 1) (pa_cons (pe_lst (pa_cons pe_int (pa_cons pe_int (pa_cons pe_int (pa_cons pe_int (pa_cons (pe_op op_addU (pe_op op_pow pe_int pe_int) pe_int) pa_nil)))))) pa_nil))) pa_nil)))))), ?_⟩
  walk_at "rd"
  refine ⟨a, ns, rfl, hS, by omega, fun s g c H1 s1 S1 => ?_⟩
  walk_at "rd"
  refine rd_for ?_
  walk_at "rd"
  refine lenL (s1.seq hS) ?_
  walk_at "rd"
  refine ⟨((ns.map V.int).length : Nat), 6, rfl, ?_⟩
  refine rd_addI ?_
  walk_at "rd"
  refine ⟨by split <;> omega, by split <;> omega, ?_⟩
  refine for_range (fun i σ H' => ∃ (y2 y3 y4 y5 y6 y7 y8 y9 y10 y11 y12 : Option V), σ = [some (.ref a), some (.ref s), y2, y3, y4, y5, y6, y7, y8, y9, y10, y11, y12] ∧ StAt (100 * i) H' s g c ∧ LamX.Tabs Tb H')
    ⟨_, _, _, _, _, _, _, _, _, _, _, rfl, S1, tabs_same hT s1⟩ (fun i σ H' hi h => ?_) (fun σ H' h => ?_)
  rotate_left
  · obtain ⟨y2, y3, y4, y5, y6, y7, y8, y9, y10, y11, y12, rfl, S2, T2⟩ := h
    walk_at "rd"
    refine rd_I (show CPow 10 9 from ⟨by decide, by decide, by decide⟩) ?_
    walk_at "rd"
    refine rd_addI ?_
    walk_at "rd"
    refine ⟨lz (by simp), fun p3 h3 => ?_⟩
    obtain ⟨s3, e3⟩ := new_at (o := .lst [.int 0, .int 3, .int 7, .int 20000, .int (10 ^ (9 : Int).toNat + 7)]) h3
    walk_at "rd"
    generalize upd H' p3 (.lst [.int 0, .int 3, .int 7, .int 20000, .int (10 ^ (9 : Int).toNat + 7)]) = H3 at s3 e3 ⊢
    refine ⟨s, g, c, p3, _, _, rfl, S2.same s3, by omega, .inl (.inl e3), S2.ne_n h3, by simp, by simp, fun o H4 ho S4 k4 => ?_⟩
    obtain ⟨m, rfl, m0, m1⟩ : ∃ m : Int, o = .int m ∧ 0 ≤ m ∧ m < 10 ^ 18 := by
      simp only [List.mem_cons, List.not_mem_nil, or_false] at ho
      rcases ho with rfl | rfl | rfl | rfl | rfl
      all_goals exact ⟨_, rfl, by decide, by decide⟩
    walk_at "rd"
    exact ⟨m, rfl, m0, m1, fun H5 s5 => q H5⟩
  obtain ⟨y2, y3, y4, y5, y6, y7, y8, y9, y10, y11, y12, rfl, S2, T2⟩ := h
  have hi6 : i < 10 := by
    have e : (if (6 : Int) < ((ns.map V.int).length : Nat) then (6 : Int) else ((ns.map V.int).length : Nat)) ≤ 6 := by split <;> omega
    omega
  clear hT S1 s1 hS
  walk_at "rd"
  refine ⟨s, g, c, _, rfl, S2, by omega, fun top H2 gt1 S3 k2 => ?_⟩
  walk_at "rd"
  refine ⟨s, g, c, _, rfl, S3, by omega, fun bot H3 gt2 S4 k3 => ?_⟩
  walk_at "rd"
  refine ⟨s, g, c, _, rfl, S4, by omega, fun many H4 gt3 S5 k4 => ?_⟩
  have T4 := tabs_kept T2 ((k2.trans k3).trans k4) S2
  walk_at "rd"
  refine ⟨s, g, c, _, 8, rfl, S5, by omega, by omega, by omega, fun r H5 r0 r1 S6 k5 => ?_⟩
  have T5 := tabs_kept T4 k5 S5
  clear T2 T4 k2 k3 k4 k5 S2 S3 S4 S5
  walk_at "rd"
  refine rd_eqI ?_
  walk_at "rd"
  refine iteJ (fun σ1 H1 => ∃ top2 : Int, σ1 = [some (.ref a), some (.ref s), some (.int (0 + (i : Nat))), some (.int top2), some (.int bot), some (.int many), y6, y7, y8, y9, y10, y11, y12] ∧ top2.natAbs < 10 ^ 30 ∧ StAt (100 * i + 11) H1 s g c ∧ LamX.Tabs Tb H1) (fun σ1 H6 hC => ?_) fun fin => ?_
  rotate_left
  · refine rd_ite (fun e => ?_) fun e => ?_
    · walk_at "rd"
      have mb : (bot * many).natAbs < 10 ^ 30 := by
        rw [Int.natAbs_mul, show (10 ^ 30 : Nat) = 10 ^ 15 * 10 ^ 15 by decide]
        exact Nat.mul_lt_mul'' gt2.2 gt3.2
      refine rd_mulI (.inr ⟨by have := gt3.2; omega, by have := gt3.2; omega⟩) ?_
      walk_at "rd"
      refine ⟨lz (by simp), fun p3 h3 => ?_⟩
      obtain ⟨s3, e3⟩ := new_at (o := .lst [.int 0, .int bot, .int (0 - bot), .int (bot * many)]) h3
      walk_at "rd"
      generalize upd H5 p3 (.lst [.int 0, .int bot, .int (0 - bot), .int (bot * many)]) = H6 at s3 e3 ⊢
      refine ⟨s, g, c, p3, _, _, rfl, S6.same s3, by omega, .inl (.inl e3), S6.ne_n h3, by simp, by simp, fun o H7 ho S7 k7 => ?_⟩
      obtain ⟨m, rfl, m1⟩ : ∃ m : Int, o = .int m ∧ m.natAbs < 10 ^ 30 := by
        simp only [List.mem_cons, List.not_mem_nil, or_false] at ho
        have := gt2.2
        rcases ho with rfl | rfl | rfl | rfl
        · exact ⟨_, rfl, by decide⟩
        · exact ⟨_, rfl, by omega⟩
        · exact ⟨_, rfl, by omega⟩
        · exact ⟨_, rfl, mb⟩
      refine rd_gn ?_
      exact fin _ _ ⟨m, rfl, m1, S7.mono (by omega), tabs_kept (tabs_same T5 s3) k7 (S6.same s3)⟩
    · exact fin _ _ ⟨top, rfl, by have := gt1.2; omega, S6.mono (by omega), T5⟩
  obtain ⟨tp, rfl, tb, S7, T7⟩ := hC
  clear T5 S6 gt1 r0 r1
  dsimp only
  walk_at "rd"
  have b0 := gt2.1
  have bb : bot.natAbs < 2 ^ 200 := Nat.lt_trans gt2.2 (by decide)
  refine ⟨tp, bot, rfl, b0, bb, fun due H8 s8 hd => ?_⟩
  obtain ⟨h, l, eh, el, fh, fl, l1, gc, lb⟩ := frac (a := tp) b0
  rw [fh, fl] at hd
  have S8 := S7.same s8
  have T8 := tabs_same T7 s8
  clear S7 T7 s8
  obtain ⟨kk, hk⟩ : ∃ kk : Int, kk = if decide ((if tp < 0 then -tp else tp) < 10 ^ (15 : Int).toNat) = true then many else 1 := ⟨_, rfl⟩
  have both : ∀ cb : Bool, (if cb = true then many else 1) ≠ 0 ∧ (if cb = true then many else 1).natAbs < 10 ^ 15 := fun cb => by
    cases cb
    · rw [if_neg (by decide)]; exact ⟨by decide, by decide⟩
    · rw [if_pos rfl]; exact gt3
  have k0 : kk ≠ 0 := by rw [hk]; exact (both _).1
  have kb : kk.natAbs < 10 ^ 15 := by rw [hk]; exact (both _).2
  have m64 : -(2 ^ 64) < many ∧ many < 2 ^ 64 := ⟨by have := gt3.2; omega, by have := gt3.2; omega⟩
  refine rd_gn ?_
  try dsimp only
  refine rd_seq ?_
  refine rd_asg ?_
  refine rd_ifV (fun v H9 => v = .int (tp * kk) ∧ H9 = H8) (fun v H9 hC => ?_) fun fin => ?_
  rotate_left
  · walk_at "rd"
    refine rd_I (show CPow 10 15 from ⟨by decide, by decide, by decide⟩) ?_
    walk_at "rd"
    refine rd_ite (fun e => ?_) fun e => ?_
    · refine rd_op ?_
      refine ⟨_, rfl, _, rfl, rd_mulI (.inr m64) (fin _ _ ⟨?_, rfl⟩)⟩
      rw [hk, if_pos e]
    · exact ⟨_, rfl, fin _ _ ⟨by rw [hk, if_neg (by rw [e]; decide), Int.mul_one], rfl⟩⟩
  obtain ⟨rfl, rfl⟩ := hC
  refine rd_gn ?_
  try dsimp only
  refine rd_seq ?_
  refine rd_asg ?_
  refine rd_ifV (fun v H8 => v = .int (bot * kk) ∧ H8 = H9) (fun v H8 hC => ?_) fun fin => ?_
  rotate_left
  · walk_at "rd"
    refine rd_I (show CPow 10 15 from ⟨by decide, by decide, by decide⟩) ?_
    walk_at "rd"
    refine rd_ite (fun e => ?_) fun e => ?_
    · refine rd_op ?_
      refine ⟨_, rfl, _, rfl, rd_mulI (.inr m64) (fin _ _ ⟨?_, rfl⟩)⟩
      rw [hk, if_pos e]
    · exact ⟨_, rfl, fin _ _ ⟨by rw [hk, if_neg (by rw [e]; decide), Int.mul_one], rfl⟩⟩
  obtain ⟨rfl, rfl⟩ := hC
  obtain ⟨hi, ehi⟩ : ∃ hi, hi = tp * kk := ⟨_, rfl⟩
  obtain ⟨lo, elo⟩ : ∃ lo, lo = bot * kk := ⟨_, rfl⟩
  have lo0 : lo ≠ 0 := by rw [elo]; exact Int.mul_ne_zero b0 k0
  have lob : lo.natAbs < 2 ^ 200 := by
    rw [elo, Int.natAbs_mul]
    exact Nat.lt_trans (Nat.mul_lt_mul'' gt2.2 kb) (by decide)
  have fr2 : hi.fdiv (cmnI hi lo) = h ∧ lo.fdiv (cmnI hi lo) = l := by
    have := same_frac (a := tp) b0 k0
    rw [fh, fl] at this
    rw [ehi, elo]
    exact this
  have fr3 : (0 - tp).fdiv (cmnI (0 - tp) (0 - bot)) = h ∧ (0 - bot).fdiv (cmnI (0 - tp) (0 - bot)) = l := by
    have := neg_frac (a := tp) b0
    rw [fh, fl] at this
    exact this
  rw [← ehi, ← elo]
  clear hk k0 kb m64 gt3 both
  walk_at "rd"
  refine .inl ?_
  walk_at "rd"
  refine ⟨lz (by simp), fun t1 n1 => ?_⟩
  obtain ⟨s1, e1⟩ := new_at (o := .tup [.int tp, .int bot]) n1
  walk_at "rd"
  generalize hG1 : upd _ t1 (.tup [.int tp, .int bot]) = G1 at s1 e1 ⊢
  refine ⟨lz (by simp), fun t2 n2 => ?_⟩
  obtain ⟨s2, e2⟩ := new_at (o := .tup [.int hi, .int lo]) n2
  walk_at "rd"
  generalize upd G1 t2 (.tup [.int hi, .int lo]) = G2 at s2 e2 ⊢
  refine ⟨lz (by simp), fun t3 n3 => ?_⟩
  obtain ⟨s3, e3⟩ := new_at (o := .tup [.int (0 - tp), .int (0 - bot)]) n3
  walk_at "rd"
  generalize upd G2 t3 (.tup [.int (0 - tp), .int (0 - bot)]) = G3 at s3 e3 ⊢
  refine ⟨lz (by simp), fun q4 n4 => ?_⟩
  obtain ⟨s4, e4⟩ := new_at (o := .lst [.ref t1, .ref t2, .ref t3]) n4
  walk_at "rd"
  generalize upd G3 q4 (.lst [.ref t1, .ref t2, .ref t3]) = G4 at s4 e4 ⊢
  have e3 := s4 _ _ e3
  have e2 := s4 _ _ (s3 _ _ e2)
  have e1 := s4 _ _ (s3 _ _ (s2 _ _ e1))
  have t4 := s1.trans (s2.trans (s3.trans s4))
  have S9 := S8.same t4
  have T9 := tabs_same T8 t4
  have hd := hd.same t4
  clear hG1 S8 T8 t4 s1 s2 s3 s4 n1 n2 n3 n4
  refine ⟨q4, rfl, ⟨_, .inl (.inl e4)⟩, ?_⟩
  refine for_list (xs := [.ref t1, .ref t2, .ref t3]) (fun j σ H' => ∃ (z9 z10 z11 : Option V), σ = [some (.ref a), some (.ref s), some (.int (0 + (i : Nat))), some (.int tp), some (.int bot), some (.int many), some due, some (.int hi), some (.int lo), z9, z10, z11, y12] ∧ Same G4 H')
    ⟨_, _, _, rfl, Same.refl _⟩ (fun j σ H' _ h => ?_) (fun j x σ H' hx h => ?_) (fun σ H' h => ?_)
  · obtain ⟨_, _, _, _, e⟩ := h
    exact .inl (.inl (e _ _ e4))
  · obtain ⟨z9, z10, z11, rfl, sx⟩ := h
    obtain ⟨pt, x1, x2, rfl, et, x0, xb, f1, f2⟩ : ∃ pt x1 x2, x = .ref pt ∧ G4 pt = some (.tup [.int x1, .int x2]) ∧ x2 ≠ 0 ∧ x2.natAbs < 2 ^ 200 ∧ x1.fdiv (cmnI x1 x2) = h ∧ x2.fdiv (cmnI x1 x2) = l := by
      have hx := List.mem_of_getElem? hx
      simp only [List.mem_cons, List.not_mem_nil, or_false] at hx
      rcases hx with rfl | rfl | rfl
      · exact ⟨t1, _, _, rfl, e1, b0, bb, fh, fl⟩
      · exact ⟨t2, _, _, rfl, e2, lo0, lob, fr2.1, fr2.2⟩
      · exact ⟨t3, _, _, rfl, e3, by omega, by rw [show (0 - bot).natAbs = bot.natAbs by omega]; exact bb, fr3.1, fr3.2⟩
    refine ⟨pt, _, rfl, .inl (.inl (sx _ _ et)), rfl, ?_⟩
    walk_at "rd"
    refine ⟨rfl, rfl, num_call x0 xb f1 f2 fun v1 H1 s1 hv1 => ?_⟩
    walk_at "rd"
    obtain ⟨dv, rv, nv⟩ := num_rp hv1 l1 gc
    refine ⟨v1, dv, rfl, rv, fun H2 s2 => ?_⟩
    rw [nv]
    refine truB ?_
    refine iteF ?_
    walk_at "rd"
    refine ne_num trivial (hv1.same s2) (hd.same (sx.trans (s1.trans s2))) ?_
    walk_at "rd"
    refine iteN rfl ?_
    walk_at "rd"
    refine num_call x0 xb f1 f2 fun v3 H3 s3 hv3 => ?_
    walk_at "rd"
    refine ne_num trivial hv3 (hd.same (sx.trans (s1.trans (s2.trans s3)))) ?_
    walk_at "rd"
    refine iteN rfl ?_
    walk_at "rd"
    exact ⟨_, _, _, rfl, sx.trans (s1.trans (s2.trans s3))⟩
  obtain ⟨z9, z10, z11, rfl, sx⟩ := h
  have S9 := S9.same sx
  have T9 := tabs_same T9 sx
  have hd := hd.same sx
  clear sx e1 e2 e3 e4 fr2 fr3 lo0 lob
  walk_at "rd"
  refine .inl ?_
  walk_at "rd"
  refine ⟨tp, bot, h, l, due, rfl, hd, Nat.lt_of_le_of_lt lb bb, fun p5 G5 s5 n5 => ?_⟩
  obtain ⟨xs, e5, l5, x5⟩ := n5
  walk_at "rd"
  refine ⟨lz (by simp), fun p6 n6 => ?_⟩
  obtain ⟨s6, e6⟩ := new_at (o := .tup [.int hi, .int lo]) n6
  walk_at "rd"
  generalize upd G5 p6 (.tup [.int hi, .int lo]) = G6 at s6 e6 ⊢
  refine ⟨lz (by simp), fun p7 n7 => ?_⟩
  obtain ⟨s7, e7⟩ := new_at (o := .lst [.ref p6]) n7
  walk_at "rd"
  generalize upd G6 p7 (.lst [.ref p6]) = G7 at s7 e7 ⊢
  refine catL (s7 _ _ (s6 _ _ e5)) e7 (by simp; omega) fun p8 n8 => ?_
  obtain ⟨s8, e8⟩ := new_at (o := .lst (xs ++ [.ref p6])) n8
  walk_at "rd"
  generalize upd G7 p8 (.lst (xs ++ [.ref p6])) = G8 at s8 e8 ⊢
  have nr : ∀ x ∈ xs ++ [V.ref p6], NearV K G8 x := fun x hx => by
    rcases List.mem_append.mp hx with hx | hx
    · exact (x5 x hx).same (s6.trans (s7.trans s8))
    · rw [List.mem_singleton.mp hx]
      exact ⟨.one (.tup [.int hi, .int lo]), p6, rfl, .inl (.inl (s8 _ _ (s7 _ _ e6))), okTwo⟩
  have s8 := s5.trans (s6.trans (s7.trans s8))
  have S10 := S9.same s8
  have T10 := tabs_same T9 s8
  clear S9 T9 s5 s6 s7 e5 e6 e7 n6 n7 n8 x5
  refine ⟨p8, rfl, ⟨_, .inl (.inl e8)⟩, ?_⟩
  refine for_list (xs := xs ++ [V.ref p6]) (fun j σ H' => ∃ (z9 z10 z11 z12 : Option V), σ = [some (.ref a), some (.ref s), some (.int (0 + (i : Nat))), some (.int tp), some (.int bot), some (.int many), some due, some (.int hi), some (.int lo), z9, z10, z11, z12] ∧ Same G8 H')
    ⟨_, _, _, _, rfl, Same.refl _⟩ (fun j σ H' _ h => ?_) (fun j x σ H' hx h => ?_) (fun σ H' h => ?_)
  · obtain ⟨_, _, _, _, _, e⟩ := h
    exact .inl (.inl (e _ _ e8))
  · obtain ⟨z9, z10, z11, z12, rfl, sx⟩ := h
    obtain ⟨dx, rx⟩ := (nr x (List.mem_of_getElem? hx)).same sx
    walk_at "rd"
    refine ⟨rfl, rfl, x, dx, rfl, rx, ?_⟩
    walk_at "rd"
    refine ⟨x, dx, rfl, rx, fun H2 s2 => ?_⟩
    walk_at "rd"
    refine ⟨_, _, rfl, ?_⟩
    refine truB ?_
    rw [show (isNum dx == isNum dx) = true by simp]
    refine iteF ?_
    walk_at "rd"
    exact ⟨_, _, _, _, rfl, sx.trans s2⟩
  obtain ⟨z9, z10, z11, z12, rfl, sx⟩ := h
  have S11 := S10.same sx
  have T11 := tabs_same T10 sx
  walk_at "rd"
  refine ⟨s, g, c, _, tp, bot, rfl, S11, by omega, T11, fun H2 S12 T12 => ?_⟩
  refine truB ?_
  refine iteF ?_
  walk_at "rd"
  exact ⟨_, _, _, _, _, _, _, _, _, _, _, rfl, S12.mono (by omega), T12⟩
end
end KP

set_option linter.all false
set_option maxRecDepth 100000
set_option maxHeartbeats 4000000
namespace KP
open PySem PySem.Spec PyProof.Rows L2 XA XB XC XD XM XE XF XG
theorem all_of {α : Type} {l : List α} {p : α → Bool} (h : l.all p = true) (i : Nat) {x : α} (e : l[i]? = some x := by rfl) : p x = true := List.all_eq_true.mp h x (List.mem_of_getElem? e)
theorem excC_of {K : PySem.W.Frag} {x : Str} (h : excCB K x = true) : ExcC K (He.ga K x) := by
  obtain ⟨h1, h⟩ := He.ba h
  obtain ⟨h2, h⟩ := He.ba h
  obtain ⟨h3, h⟩ := He.ba h
  obtain ⟨h4, h⟩ := He.ba h
  obtain ⟨h5, h⟩ := He.ba h
  obtain ⟨h6, h⟩ := He.ba h
  obtain ⟨h7, h8⟩ := He.ba h
  exact ⟨He.eqO_ok h1, He.eqO_ok h2, of_decide_eq_true h3, h4, He.eqO_ok h5, He.eqO_ok h6, of_decide_eq_true h7, of_decide_eq_true h8⟩
section
variable {w : World} {K : PySem.W.Frag} {h : Heap} {mg : Str → Option Value}
theorem xc_of (X : K.In h) (G : h.Ns mainGlobals mg) {x : Str} (g : (He.Fa.glo x).ok K = true) (c : (He.Fa.exc x).ok K = true) (e : excCB K x = true) : Xc K mg x (He.ga K x) := by
  obtain ⟨a1, a2, a3, a4⟩ := He.exc_ok c
  exact ⟨He.glo_ok X G g, a1, a2, a3, a4, excC_of e⟩
theorem bs_of (X : K.In h) (G : h.Ns mainGlobals mg) (c : He.SaysX hfa hfn [] htf hex_ w h K) : Bs K mg := by
  have d := c.t.d
  have mm : (hfx.all (excCB K) && hfx.all (kitB1 K) && He.eqO (PySem.W.nsIn K mainGlobals "gcd") (some (some (.builtin "math.gcd"))) && hini.all (XU.iniB K HR.prog.main.file) && (nmsR.all (excCB K) && (kitB2 K && nmsR.all (kitB3 K)))) = true := c.more
  obtain ⟨mm, jk⟩ := He.ba mm
  obtain ⟨mm, ji⟩ := He.ba mm
  obtain ⟨mm, i_gcd⟩ := He.ba mm
  obtain ⟨m1, m2⟩ := He.ba mm
  exact ⟨He.free_ok X G (d.fact 0 (f := .free "isinstance") rfl),
    He.free_ok X G (d.fact 1 (f := .free "int") rfl),
    He.free_ok X G (d.fact 2 (f := .free "bool") rfl),
    He.free_ok X G (d.fact 3 (f := .free "tuple") rfl),
    He.free_ok X G (d.fact 4 (f := .free "list") rfl),
    He.free_ok X G (d.fact 5 (f := .free "len") rfl),
    He.free_ok X G (d.fact 6 (f := .free "abs") rfl),
    He.free_ok X G (d.fact 7 (f := .free "min") rfl),
    He.free_ok X G (d.fact 8 (f := .free "range") rfl),
    He.free_ok X G (d.fact 9 (f := .free "enumerate") rfl),
    He.free_ok X G (d.fact 10 (f := .free "str") rfl),
    He.free_ok X G (d.fact 11 (f := .free "ValueError") rfl),
    PySem.W.mg_of X G (He.eqO_ok i_gcd),
    xc_of X G (d.fact 32 (f := .glo "KeepError") rfl) (d.fact 54 (f := .exc "KeepError") rfl) (all_of m1 0),
    xc_of X G (d.fact 33 (f := .glo "BadChange") rfl) (d.fact 55 (f := .exc "BadChange") rfl) (all_of m1 1),
    xc_of X G (d.fact 34 (f := .glo "BadDeeds") rfl) (d.fact 56 (f := .exc "BadDeeds") rfl) (all_of m1 2),
    xc_of X G (d.fact 35 (f := .glo "BadHouse") rfl) (d.fact 57 (f := .exc "BadHouse") rfl) (all_of m1 3),
    xc_of X G (d.fact 36 (f := .glo "BadMove") rfl) (d.fact 58 (f := .exc "BadMove") rfl) (all_of m1 4),
    xc_of X G (d.fact 37 (f := .glo "BadName") rfl) (d.fact 59 (f := .exc "BadName") rfl) (all_of m1 5),
    xc_of X G (d.fact 38 (f := .glo "BadNumber") rfl) (d.fact 60 (f := .exc "BadNumber") rfl) (all_of m1 6),
    xc_of X G (d.fact 39 (f := .glo "BadPlace") rfl) (d.fact 61 (f := .exc "BadPlace") rfl) (all_of m1 7),
    xc_of X G (d.fact 40 (f := .glo "BadPlaces") rfl) (d.fact 62 (f := .exc "BadPlaces") rfl) (all_of m1 8),
    xc_of X G (d.fact 41 (f := .glo "BadRank") rfl) (d.fact 63 (f := .exc "BadRank") rfl) (all_of m1 9),
    xc_of X G (d.fact 42 (f := .glo "BadRenaming") rfl) (d.fact 64 (f := .exc "BadRenaming") rfl) (all_of m1 10),
    xc_of X G (d.fact 43 (f := .glo "BadRow") rfl) (d.fact 65 (f := .exc "BadRow") rfl) (all_of m1 11),
    xc_of X G (d.fact 44 (f := .glo "BadRows") rfl) (d.fact 66 (f := .exc "BadRows") rfl) (all_of m1 12),
    xc_of X G (d.fact 45 (f := .glo "BadSpelling") rfl) (d.fact 67 (f := .exc "BadSpelling") rfl) (all_of m1 13),
    xc_of X G (d.fact 46 (f := .glo "BadWeb") rfl) (d.fact 68 (f := .exc "BadWeb") rfl) (all_of m1 14),
    xc_of X G (d.fact 47 (f := .glo "NoName") rfl) (d.fact 69 (f := .exc "NoName") rfl) (all_of m1 15),
    xc_of X G (d.fact 48 (f := .glo "NotFree") rfl) (d.fact 70 (f := .exc "NotFree") rfl) (all_of m1 16),
    xc_of X G (d.fact 49 (f := .glo "NotFull") rfl) (d.fact 71 (f := .exc "NotFull") rfl) (all_of m1 17),
    xc_of X G (d.fact 50 (f := .glo "NotMade") rfl) (d.fact 72 (f := .exc "NotMade") rfl) (all_of m1 18),
    xc_of X G (d.fact 51 (f := .glo "NotOver") rfl) (d.fact 73 (f := .exc "NotOver") rfl) (all_of m1 19),
    xc_of X G (d.fact 52 (f := .glo "UnlikeMany") rfl) (d.fact 74 (f := .exc "UnlikeMany") rfl) (all_of m1 20),
    xc_of X G (d.fact 53 (f := .glo "UnlikeWebs") rfl) (d.fact 75 (f := .exc "UnlikeWebs") rfl) (all_of m1 21)⟩
theorem es_of (c : He.SaysX hfa hfn [] htf hex_ w h K) : Es K := by
  have d := c.t.d
  have mm : (hfx.all (excCB K) && hfx.all (kitB1 K) && He.eqO (PySem.W.nsIn K mainGlobals "gcd") (some (some (.builtin "math.gcd"))) && hini.all (XU.iniB K HR.prog.main.file) && (nmsR.all (excCB K) && (kitB2 K && nmsR.all (kitB3 K)))) = true := c.more
  obtain ⟨mm, jk⟩ := He.ba mm
  obtain ⟨mm, ji⟩ := He.ba mm
  obtain ⟨mm, i_gcd⟩ := He.ba mm
  obtain ⟨m1, m2⟩ := He.ba mm
  exact ⟨He.exm_ok (d.fact 76 (f := .exm "BadChange" "KeepError" true) rfl), He.exm_ok (d.fact 77 (f := .exm "BadDeeds" "KeepError" true) rfl), He.exm_ok (d.fact 78 (f := .exm "BadHouse" "KeepError" true) rfl), He.exm_ok (d.fact 79 (f := .exm "BadMove" "KeepError" true) rfl), He.exm_ok (d.fact 80 (f := .exm "BadName" "KeepError" true) rfl), He.exm_ok (d.fact 81 (f := .exm "BadNumber" "KeepError" true) rfl), He.exm_ok (d.fact 82 (f := .exm "BadPlace" "KeepError" true) rfl), He.exm_ok (d.fact 83 (f := .exm "BadPlaces" "KeepError" true) rfl), He.exm_ok (d.fact 84 (f := .exm "BadRank" "KeepError" true) rfl), He.exm_ok (d.fact 85 (f := .exm "BadRenaming" "KeepError" true) rfl), He.exm_ok (d.fact 86 (f := .exm "BadRow" "KeepError" true) rfl), He.exm_ok (d.fact 87 (f := .exm "BadRows" "KeepError" true) rfl), He.exm_ok (d.fact 88 (f := .exm "BadSpelling" "KeepError" true) rfl), He.exm_ok (d.fact 89 (f := .exm "BadWeb" "KeepError" true) rfl), He.exm_ok (d.fact 90 (f := .exm "NoName" "KeepError" true) rfl), He.exm_ok (d.fact 91 (f := .exm "NotFree" "KeepError" true) rfl), He.exm_ok (d.fact 92 (f := .exm "NotFull" "KeepError" true) rfl), He.exm_ok (d.fact 93 (f := .exm "NotMade" "KeepError" true) rfl), He.exm_ok (d.fact 94 (f := .exm "NotOver" "KeepError" true) rfl), He.exm_ok (d.fact 95 (f := .exm "UnlikeMany" "KeepError" true) rfl), He.exm_ok (d.fact 96 (f := .exm "UnlikeWebs" "KeepError" true) rfl), of_decide_eq_true (all_of m2 1), of_decide_eq_true (all_of m2 2), of_decide_eq_true (all_of m2 3), of_decide_eq_true (all_of m2 4), of_decide_eq_true (all_of m2 5), of_decide_eq_true (all_of m2 6), of_decide_eq_true (all_of m2 7), of_decide_eq_true (all_of m2 8), of_decide_eq_true (all_of m2 9), of_decide_eq_true (all_of m2 10), of_decide_eq_true (all_of m2 11), of_decide_eq_true (all_of m2 12), of_decide_eq_true (all_of m2 13), of_decide_eq_true (all_of m2 14), of_decide_eq_true (all_of m2 15), of_decide_eq_true (all_of m2 16), of_decide_eq_true (all_of m2 17), of_decide_eq_true (all_of m2 18), of_decide_eq_true (all_of m2 19), of_decide_eq_true (all_of m2 20), of_decide_eq_true (all_of m2 21)⟩
theorem is_of (X : K.In h) (G : h.Ns mainGlobals mg) (c : He.SaysX hfa hfn [] htf hex_ w h K) (ci : XU.SaysI hini K) : Is (PySem.Challenge.rw_meankept_k21_numbers_and_errors).prog K mg := by
  have d := c.t.d
  have mm : (hfx.all (excCB K) && hfx.all (kitB1 K) && He.eqO (PySem.W.nsIn K mainGlobals "gcd") (some (some (.builtin "math.gcd"))) && hini.all (XU.iniB K HR.prog.main.file) && (nmsR.all (excCB K) && (kitB2 K && nmsR.all (kitB3 K)))) = true := c.more
  obtain ⟨mm, jk⟩ := He.ba mm
  obtain ⟨mm, ji⟩ := He.ba mm
  obtain ⟨mm, i_gcd⟩ := He.ba mm
  obtain ⟨jc, _⟩ := He.ba jk
  exact ⟨He.free_ok X G (d.fact 12 (f := .free "super") rfl), by decide +kernel, He.glo_ok X G (d.fact 99 (f := .glo "TooMany") rfl), He.glo_ok X G (d.fact 98 (f := .glo "BadText") rfl), He.glo_ok X G (d.fact 97 (f := .glo "BadJournal") rfl), XU.ini_of (P := (PySem.Challenge.rw_meankept_k21_numbers_and_errors).prog) (d := hini[2]) (all_of ji 2) (ci.at_ 2) (excC_of (all_of jc 21)), XU.ini_of (P := (PySem.Challenge.rw_meankept_k21_numbers_and_errors).prog) (d := hini[1]) (all_of ji 1) (ci.at_ 1) (excC_of (all_of jc 22)), XU.ini_of (P := (PySem.Challenge.rw_meankept_k21_numbers_and_errors).prog) (d := hini[0]) (all_of ji 0) (ci.at_ 0) (excC_of (all_of jc 23))⟩
theorem ks_of (c : He.SaysX hfa hfn [] htf hex_ w h K) : Ks K := by
  have mm : (hfx.all (excCB K) && hfx.all (kitB1 K) && He.eqO (PySem.W.nsIn K mainGlobals "gcd") (some (some (.builtin "math.gcd"))) && hini.all (XU.iniB K HR.prog.main.file) && (nmsR.all (excCB K) && (kitB2 K && nmsR.all (kitB3 K)))) = true := c.more
  obtain ⟨mm, jk⟩ := He.ba mm
  obtain ⟨mm, ji⟩ := He.ba mm
  obtain ⟨mm, i_gcd⟩ := He.ba mm
  obtain ⟨jc, jk⟩ := He.ba jk
  obtain ⟨jm, jn⟩ := He.ba jk
  refine ⟨fun x hx => excC_of (List.all_eq_true.mp jc x hx), fun x hx y hy => of_decide_eq_true (List.all_eq_true.mp (List.all_eq_true.mp jm x hx) y hy), fun x hx => ?_, fun x hx => ?_⟩
  · exact of_decide_eq_true (He.ba (List.all_eq_true.mp jn x hx)).1
  · exact of_decide_eq_true (He.ba (List.all_eq_true.mp jn x hx)).2
abbrev tbQ (K : PySem.W.Frag) : List (Addr × Str) := [((He.cT K ("_law_mr_number_faults", none)).2, "_law_mr_number_faults.<locals>.<lambda>")]
theorem lawAt {f : Addr} (X : K.In h) (G : h.Ns mainGlobals mg) (hf : mg ("law" : Str) = some (.ref f)) (c : He.SaysX hfa hfn [] htf hex_ w h K) (ci : XU.SaysI hini K) :
    LamX.LawAtS PySem.Challenge.rw_meankept_k21_numbers_and_errors w K CX0 9 63 "script" mg f h := by
  have d := c.t.d
  have T := bs_of X G c
  have Ec := es_of c
  have IS := is_of X G c ci
  have KS := ks_of c
  obtain ⟨f_is_whole, F_is_whole⟩ := d.def_ 0 (d := dfn "is_whole" 28) rfl
  have R_is_whole : Rw K mg "is_whole" s_is_whole := ⟨_, _, F_is_whole, He.glo_ok X G (d.fact 13 (f := .glo "is_whole") rfl)⟩
  obtain ⟨f_is_number, F_is_number⟩ := d.def_ 1 (d := dfn "is_number" 30) rfl
  have R_is_number : Rw K mg "is_number" s_is_number := ⟨_, _, F_is_number, He.glo_ok X G (d.fact 14 (f := .glo "is_number") rfl)⟩
  obtain ⟨f_number, F_number⟩ := d.def_ 2 (d := dfn "number" 31) rfl
  have R_number : Rw K mg "number" s_number := ⟨_, _, F_number, He.glo_ok X G (d.fact 15 (f := .glo "number") rfl)⟩
  obtain ⟨f__law_begun, F__law_begun⟩ := d.def_ 3 (d := dfn "_law_begun" 33) rfl
  have R__law_begun : Rw K mg "_law_begun" s__law_begun := ⟨_, _, F__law_begun, He.glo_ok X G (d.fact 16 (f := .glo "_law_begun") rfl)⟩
  obtain ⟨f__law_blended, F__law_blended⟩ := d.def_ 4 (d := dfn "_law_blended" 34) rfl
  have R__law_blended : Rw K mg "_law_blended" s__law_blended := ⟨_, _, F__law_blended, He.glo_ok X G (d.fact 17 (f := .glo "_law_blended") rfl)⟩
  obtain ⟨f__law_draw, F__law_draw⟩ := d.def_ 5 (d := dfn "_law_draw" 35) rfl
  have R__law_draw : Rw K mg "_law_draw" s__law_draw := ⟨_, _, F__law_draw, He.glo_ok X G (d.fact 18 (f := .glo "_law_draw") rfl)⟩
  obtain ⟨f__law_pick, F__law_pick⟩ := d.def_ 6 (d := dfn "_law_pick" 36) rfl
  have R__law_pick : Rw K mg "_law_pick" s__law_pick := ⟨_, _, F__law_pick, He.glo_ok X G (d.fact 19 (f := .glo "_law_pick") rfl)⟩
  obtain ⟨f__law_caught, F__law_caught⟩ := d.def_ 7 (d := dfn "_law_caught" 37) rfl
  have R__law_caught : Rw K mg "_law_caught" s__law_caught := ⟨_, _, F__law_caught, He.glo_ok X G (d.fact 20 (f := .glo "_law_caught") rfl)⟩
  obtain ⟨f__law_is_truth, F__law_is_truth⟩ := d.def_ 8 (d := dfn "_law_is_truth" 38) rfl
  have R__law_is_truth : Rw K mg "_law_is_truth" s__law_is_truth := ⟨_, _, F__law_is_truth, He.glo_ok X G (d.fact 21 (f := .glo "_law_is_truth") rfl)⟩
  obtain ⟨f__law_mk_gcd, F__law_mk_gcd⟩ := d.def_ 9 (d := dfn "_law_mk_gcd" 39) rfl
  have R__law_mk_gcd : Rw K mg "_law_mk_gcd" s__law_mk_gcd := ⟨_, _, F__law_mk_gcd, He.glo_ok X G (d.fact 22 (f := .glo "_law_mk_gcd") rfl)⟩
  obtain ⟨f__law_mk_made, F__law_mk_made⟩ := d.def_ 10 (d := dfn "_law_mk_made" 40) rfl
  have R__law_mk_made : Rw K mg "_law_mk_made" s__law_mk_made := ⟨_, _, F__law_mk_made, He.glo_ok X G (d.fact 23 (f := .glo "_law_mk_made") rfl)⟩
  obtain ⟨f__law_mk_is_number, F__law_mk_is_number⟩ := d.def_ 11 (d := dfn "_law_mk_is_number" 41) rfl
  have R__law_mk_is_number : Rw K mg "_law_mk_is_number" s__law_mk_is_number := ⟨_, _, F__law_mk_is_number, He.glo_ok X G (d.fact 24 (f := .glo "_law_mk_is_number") rfl)⟩
  obtain ⟨f__law_mr_great, F__law_mr_great⟩ := d.def_ 12 (d := dfn "_law_mr_great" 42) rfl
  have R__law_mr_great : Rw K mg "_law_mr_great" s__law_mr_great := ⟨_, _, F__law_mr_great, He.glo_ok X G (d.fact 25 (f := .glo "_law_mr_great") rfl)⟩
  obtain ⟨f__law_mr_near, F__law_mr_near⟩ := d.def_ 13 (d := dfn "_law_mr_near" 43) rfl
  have R__law_mr_near : Rw K mg "_law_mr_near" s__law_mr_near := ⟨_, _, F__law_mr_near, He.glo_ok X G (d.fact 26 (f := .glo "_law_mr_near") rfl)⟩
  obtain ⟨f__law_mr_classes, F__law_mr_classes⟩ := d.def_ 14 (d := dfn "_law_mr_classes" 44) rfl
  have R__law_mr_classes : Rw K mg "_law_mr_classes" s__law_mr_classes := ⟨_, _, F__law_mr_classes, He.glo_ok X G (d.fact 27 (f := .glo "_law_mr_classes") rfl)⟩
  obtain ⟨f__law_mr_made, F__law_mr_made⟩ := d.def_ 15 (d := dfn "_law_mr_made" 45) rfl
  have R__law_mr_made : Rw K mg "_law_mr_made" s__law_mr_made := ⟨_, _, F__law_mr_made, He.glo_ok X G (d.fact 28 (f := .glo "_law_mr_made") rfl)⟩
  obtain ⟨f__law_mr_errors_hold, F__law_mr_errors_hold⟩ := d.def_ 16 (d := dfn "_law_mr_errors_hold" 46) rfl
  have R__law_mr_errors_hold : Rw K mg "_law_mr_errors_hold" s__law_mr_errors_hold := ⟨_, _, F__law_mr_errors_hold, He.glo_ok X G (d.fact 29 (f := .glo "_law_mr_errors_hold") rfl)⟩
  obtain ⟨f__law_mr_number_faults, F__law_mr_number_faults⟩ := d.def_ 17 (d := dfn "_law_mr_number_faults" 47) rfl
  obtain ⟨f_law, F_law⟩ := d.def_ 18 (d := dfn "law" 48) rfl
  have hc : ∃ c0, f__law_mr_number_faults.code = .ref c0 := by
    obtain ⟨oc, od, dV, kV, doc, pm, an, cdv, ct, osl, e, lk, hcd, _, _⟩ := F__law_mr_number_faults.ex
    subst e
    exact He.codeIn_ref hcd
  obtain ⟨c0, hc⟩ := hc
  have hcT : (He.cT K ("_law_mr_number_faults", none)).1 = c0 := by
    obtain ⟨oc, od, dV, kV, doc, pm, an, cdv, ct, osl, e, lk, hcd, _, _⟩ := F__law_mr_number_faults.ex
    subst e
    exact He.codeOf_eq lk hc
  have R__law_mr_number_faults : RwC K mg "_law_mr_number_faults" s__law_mr_number_faults c0 := ⟨_, _, F__law_mr_number_faults, He.glo_ok X G (d.fact 30 (f := .glo "_law_mr_number_faults") rfl), hc⟩
  have hg := He.glo_ok X G (d.fact 31 (f := .glo "law") rfl)
  have ef := hf.symm.trans hg
  cases ef
  have b := FunD.bindsA (ps := ["script"]) F_law fun _ _ _ _ _ _ us hl => match us, hl with | [_], _ => rfl
  refine ⟨f_law, [He.cT K ("_law_mr_number_faults", none)], spLaw K (tbQ K), fun p hp => ?_, fun p hp => ?_, fun p hp => ?_, fun s v => b s [v] rfl, fun H a ns hl _ hT hS => ?_, fun base hK hN hT => ?_⟩
  · rw [List.mem_singleton.mp hp]
    exact c.empty _ (List.mem_singleton_self _)
  · rw [List.mem_singleton.mp hp]
    exact c.out _ (List.mem_singleton_self _)
  · rw [List.mem_singleton.mp hp]
    exact PySem.W.codeHd_of_K X (c.hd _ (List.mem_singleton_self _))
  · refine ⟨a, ns, rfl, hS, hl, fun p hp => ?_, fun _ => rfl⟩
    rw [List.mem_singleton.mp hp]
    exact LamX.TabS.nil (hT _ (List.mem_singleton_self _))
  · have TB := hT _ (List.mem_singleton_self _)
    rw [hcT] at TB
    have D_is_whole := d_is_whole (P := (PySem.Challenge.rw_meankept_k21_numbers_and_errors).prog) (w := w) (base := base) T R_is_whole
    have D_is_number := d_is_number (P := (PySem.Challenge.rw_meankept_k21_numbers_and_errors).prog) (w := w) (base := base) T R_is_number D_is_whole
    have D_number := d_number (P := (PySem.Challenge.rw_meankept_k21_numbers_and_errors).prog) (w := w) (base := base) T R_number D_is_whole
    have D__law_begun := d__law_begun (P := (PySem.Challenge.rw_meankept_k21_numbers_and_errors).prog) (w := w) (base := base) T R__law_begun
    have D__law_blended := d__law_blended (P := (PySem.Challenge.rw_meankept_k21_numbers_and_errors).prog) (w := w) (base := base) T R__law_blended
    have D__law_draw := d__law_draw (P := (PySem.Challenge.rw_meankept_k21_numbers_and_errors).prog) (w := w) (base := base) T R__law_draw D__law_blended
    have D__law_pick := d__law_pick (P := (PySem.Challenge.rw_meankept_k21_numbers_and_errors).prog) (w := w) (base := base) T R__law_pick D__law_draw
    have D__law_is_truth := d__law_is_truth (P := (PySem.Challenge.rw_meankept_k21_numbers_and_errors).prog) (w := w) (base := base) T R__law_is_truth
    have D__law_mk_gcd := d__law_mk_gcd (P := (PySem.Challenge.rw_meankept_k21_numbers_and_errors).prog) (w := w) (base := base) T R__law_mk_gcd
    have D__law_mk_made := d__law_mk_made (P := (PySem.Challenge.rw_meankept_k21_numbers_and_errors).prog) (w := w) (base := base) T R__law_mk_made D__law_mk_gcd
    have D__law_mk_is_number := d__law_mk_is_number (P := (PySem.Challenge.rw_meankept_k21_numbers_and_errors).prog) (w := w) (base := base) T R__law_mk_is_number D__law_mk_gcd
    have D__law_mr_great := d__law_mr_great (P := (PySem.Challenge.rw_meankept_k21_numbers_and_errors).prog) (w := w) (base := base) T R__law_mr_great D__law_draw D__law_pick
    have D__law_mr_near := d__law_mr_near (P := (PySem.Challenge.rw_meankept_k21_numbers_and_errors).prog) (w := w) (base := base) T R__law_mr_near
    have D__law_mr_classes := d__law_mr_classes (P := (PySem.Challenge.rw_meankept_k21_numbers_and_errors).prog) (w := w) (base := base) T IS KS R__law_mr_classes
    have D__law_mr_made := d__law_mr_made (P := (PySem.Challenge.rw_meankept_k21_numbers_and_errors).prog) (w := w) (base := base) T IS R__law_mr_made
    have D__law_mr_errors_hold := d__law_mr_errors_hold (P := (PySem.Challenge.rw_meankept_k21_numbers_and_errors).prog) (w := w) (base := base) T IS KS R__law_mr_errors_hold D__law_mr_made D__law_mr_classes
    have D__law_mr_number_faults := d__law_mr_number_faults (P := (PySem.Challenge.rw_meankept_k21_numbers_and_errors).prog) (w := w) (base := base) T IS KS Ec TB R__law_mr_number_faults R__law_caught D__law_pick D__law_mr_classes D_number
    exact ok_law T F_law D_is_number D_number D__law_begun D__law_draw D__law_pick D__law_is_truth D__law_mk_made D__law_mk_is_number D__law_mr_great D__law_mr_near D__law_mr_errors_hold D__law_mr_number_faults
end
end KP
open PySem PySem.W PySem.Calls PyProof.Rows
theorem PySem.Challenge.cw_meankept_k21_numbers_and_errors_holds : PySem.Challenge.rw_meankept_k21_numbers_and_errors.Holds := by
  w_on; o_law
  refine HandSHeadRun.head_imp (r := OpenLaw.row PySem.Challenge.rw_meankept_k21_numbers_and_errors) (q := view (OpenLaw.row PySem.Challenge.rw_meankept_k21_numbers_and_errors).prog [0, 48]) (H := KP.hk) (ob := KP.hob) (M := 12000) (loose := KP.hloose) (d := HandSHeadRun.topDef (OpenLaw.row PySem.Challenge.rw_meankept_k21_numbers_and_errors).prog 48) (kwd := []) KP.hob_eq
    KP.hrun (by kernel_rfl) (by kernel_rfl) (by kernel_rfl) (by rfl) (by first | assumption | decide +kernel) (by decide +kernel) ⟨rfl, rfl, rfl, rfl, rfl, by decide +kernel⟩ ?hw ?hc
  case hw => w_witness2
  case hc =>
    refine LamX.walk_ofTsE (l := PySem.Challenge.rw_meankept_k21_numbers_and_errors) (n := 63) (k := 9) (x := "script") (CX := fun _ => L2.CX0) rfl (by decide) (by kernel_rfl) ⟨rfl, by decide, by decide⟩ ?F (fun _ _ _ _ _ z => z)
    intro w mg fa h Y G hmg0
    obtain ⟨K, KX, c, ci⟩ := Y
    have hmg : mg ("law" : PySem.Str) = some (.ref fa) := by
      have e : (HandSHeadRun.topDef (OpenLaw.row PySem.Challenge.rw_meankept_k21_numbers_and_errors).prog 48).name = ("law" : PySem.Str) := by kernel_rfl
      rw [← e]
      exact hmg0
    exact ⟨K, KX, KP.lawAt KX G hmg c ci⟩
