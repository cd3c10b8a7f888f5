import PyProof.Rows.All
import Wide.All
import OpenK.AllK
import Wide.FinOn
import HandS.Base
import HandS.Call
import HandS.CallLocal
import HandS.Conv
import HandS.Defaults
import HandS.EndTab
import HandS.Ends
import HandS.ExcIs
import HandS.ExcValue
import HandS.FStr
import HandS.ForExc
import HandS.ForMost
import HandS.Gcd
import HandS.Head0
import HandS.Head1
import HandS.Head2
import HandS.HeadEnd
import HandS.HeadHook1
import HandS.HeadHook2
import HandS.HeadHook3
import HandS.HeadHook4
import HandS.HeadWalk
import HandS.IsInst
import HandS.Lambda
import HandS.LawCells
import HandS.More
import HandS.RaiseMore
import HandS.Rev
import HandS.SetFor
import HandS.Small
import HandS.Style
import HandS.TryOnly
import HandS.TupAny
import HandS.TupMul
import HandS.Walk
import HandS.Wide
import HandS.Words
import HandS.WordsExc
import PyProof.EqAt
import PyProof.FactsAll.tuple_2
import PyProof.ListMulRoad
import PySem.Challenge.RW_meankept_k00_plain_rows_and_products
set_option Elab.async false
set_option linter.all false
set_option maxRecDepth 100000
set_option maxHeartbeats 4000000
/-! XA: tuple * int in all cases, tuple.count, unions of operators by kind. -/
namespace XA
open PySem PySem.Spec PyProof.Rows L2
theorem tuple_mul1 (l : Addr) (items : Array Value) (n : Nat) (dd : Option Addr) (sl : Array (Option Value)) (x : Int) (u : Tok) (c0 : (decide (x < -(2 ^ 63)) || decide (x ≥ 2 ^ 63)) = false) (c1 : (items.isEmpty || x == 1) = true) :
    Meets (Builtin.«tuple.__mul__» ⟨[.ref l, .int x u], []⟩) (fun _ R s => s.heap.get? l = some { cls := .type "tuple", dict := dd, data := .seq items n, slots := sl } ∧
      R (.ok (.ret (Value.ref l))) s) :=
  .of_wp fun prog w A R s h => by
    obtain ⟨hp, g, d, tk, os⟩ := s
    obtain ⟨hl, h⟩ := h
    have f1 := AutoSeq1.idx_int
    wp_walk using wpAny_loadPart' hl
    repeat (first
      | (refine wpAny_ite_false (decide_eq_false (by rw [c0]; exact Bool.false_ne_true)) ?_; wp_walk using wpAny_loadPart' hl)
      | (refine wpAny_ite_true (decide_eq_true (by rw [c1])) ?_; wp_walk using wpAny_loadPart' hl))
    all_goals first | exact ⟨_, rfl, h⟩ | exact h | skip
theorem tuple_mul0 (l : Addr) (items : Array Value) (n : Nat) (dd : Option Addr) (sl : Array (Option Value)) (x : Int) (u : Tok) (c0 : (decide (x < -(2 ^ 63)) || decide (x ≥ 2 ^ 63)) = false) (c1 : (items.isEmpty || x == 1) = false) (c2 : (decide (x ≤ 0) || items.isEmpty) = true) :
    Meets (Builtin.«tuple.__mul__» ⟨[.ref l, .int x u], []⟩) (fun _ R s => s.heap.get? l = some { cls := .type "tuple", dict := dd, data := .seq items n, slots := sl } ∧
      R (.ok (.ret (Value.ref s.heap.objs.size))) { s with heap := s.heap.push { cls := Value.type "tuple", data := Data.seq #[] }, toks := s.toks }) :=
  .of_wp fun prog w A R s h => by
    obtain ⟨hp, g, d, tk, os⟩ := s
    obtain ⟨hl, h⟩ := h
    have f1 := AutoSeq1.idx_int
    wp_walk using wpAny_loadPart' hl
    repeat (first
      | (refine wpAny_ite_false (decide_eq_false (by rw [c0]; exact Bool.false_ne_true)) ?_; wp_walk using wpAny_loadPart' hl)
      | (refine wpAny_ite_false (decide_eq_false (by rw [c1]; exact Bool.false_ne_true)) ?_; wp_walk using wpAny_loadPart' hl)
      | (refine wpAny_ite_true (decide_eq_true (by rw [c2])) ?_; wp_walk using wpAny_loadPart' hl))
    all_goals first | exact ⟨_, rfl, h⟩ | exact h | skip
/-- tuple * int: the same tuple, or a new one -/
def rRepA (K : PySem.W.Frag) : R2 := fun x y H Q => ∃ l k xs, x = .ref l ∧ y = .int k ∧ SqT K H l xs ∧ -1000 ≤ k ∧ k ≤ 1000 ∧ xs.length ≤ 1000 ∧
  ((xs = [] ∨ k = 1) → Q (.ref l) H) ∧ (¬ (xs = [] ∨ k = 1) → ∀ p, H p = none → Q (.ref p) (upd H p (.tup (List.replicate k.toNat xs).flatten)))
section
variable {X : Cx}
theorem op_repA : OpR X (binaryOp .Mult) (rRepA X.K) := by
  intro pins s σ H x y v u Q I rx ry h
  obtain ⟨l, k, xs, rfl, rfl, hT, h1, h2, hz, q1, q2⟩ := h
  by_cases hc : xs = [] ∨ k = 1
  · have q := q1 hc
    cases rx
    obtain ⟨t, rfl⟩ := ry
    obtain ⟨its, r, ⟨⟨cls, dd, data, sl⟩, ho, hcl, n, hd⟩, hs⟩ := I.tuple hT
    simp only at hcl hd
    subst hcl hd
    have c0 : (decide (k < -(2 ^ 63)) || decide (k ≥ 2 ^ 63)) = false := by
      rw [decide_eq_false (by omega), decide_eq_false (by omega)] <;> rfl
    have c1 : (its.toArray.isEmpty || k == 1) = true := by
      rcases hc with e | e
      · subst e
        cases r
        rfl
      · subst e
        simp
    exact wpAny_binaryOp_repeat_ref (T := "tuple") (U := "int") (by decide) ⟨_, ho, rfl⟩ (fun s' => typeIs_int s' k t) noFill_tuple_mul F.fills_int_mul F.slot_int_rmul repeat_tuple F.slot_int_index.lookup
      (call_meets F.slot_int_rmul (typeIs_int s k t) F.entry_int_rmul (F.args_int_rmul_2 _ _) (int_rmul_tuple k t l its.toArray n dd sl)
        ⟨ho, rfl, ⟨_, ho, rfl⟩, call_meets F.slot_tuple_mul ⟨_, ho, rfl⟩ F.entry_tuple_mul (F.args_tuple_mul_2 _ _) (tuple_mul1 l its.toArray n dd sl k t c0 c1) ⟨ho, ⟨.ref l, H, I, rfl, q⟩⟩⟩)
  · have q := q2 hc
    have hne : xs ≠ [] := fun e => hc (.inl e)
    have hk1 : k ≠ 1 := fun e => hc (.inr e)
    by_cases hk : k ≤ 0
    · have e0 : (List.replicate k.toNat xs).flatten = [] := by
        rw [show k.toNat = 0 by omega] <;> rfl
      rw [e0] at q
      cases rx
      obtain ⟨t, rfl⟩ := ry
      obtain ⟨its, r, ⟨⟨cls, dd, data, sl⟩, ho, hcl, n, hd⟩, hs⟩ := I.tuple hT
      simp only at hcl hd
      subst hcl hd
      have c0 : (decide (k < -(2 ^ 63)) || decide (k ≥ 2 ^ 63)) = false := by
        rw [decide_eq_false (by omega), decide_eq_false (by omega)] <;> rfl
      have hi : its.toArray.isEmpty = false := by
        cases r with
        | nil => exact absurd rfl hne
        | cons a b => rfl
      have c1 : (its.toArray.isEmpty || k == 1) = false := by
        rw [hi, Bool.false_or]
        exact beq_eq_false_iff_ne.mpr hk1
      have c2 : (decide (k ≤ 0) || its.toArray.isEmpty) = true := by
        rw [decide_eq_true hk] <;> rfl
      refine wpAny_binaryOp_repeat_ref (T := "tuple") (U := "int") (by decide) ⟨_, ho, rfl⟩ (fun s' => typeIs_int s' k t) noFill_tuple_mul F.fills_int_mul F.slot_int_rmul repeat_tuple F.slot_int_index.lookup
        (call_meets F.slot_int_rmul (typeIs_int s k t) F.entry_int_rmul (F.args_int_rmul_2 _ _) (int_rmul_tuple k t l its.toArray n dd sl)
          ⟨ho, rfl, ⟨_, ho, rfl⟩, call_meets F.slot_tuple_mul ⟨_, ho, rfl⟩ F.entry_tuple_mul (F.args_tuple_mul_2 _ _) (tuple_mul0 l its.toArray n dd sl k t c0 c1 c2) ⟨ho, ?_⟩⟩)
      refine ⟨.ref s.heap.objs.size, _, I.laid (t' := s.toks) (o := .tup []) (fun b ob q => Heap.get?_push_of_some _ q) (Nat.le_refl _) ?_, rfl, q _ (I.hok.fresh (Nat.le_refl _))⟩
      exact ⟨Nat.zero_le _, [], .nil, IsTup.new _ _⟩
    · exact op_repT pins s σ H _ _ v u Q I rx ry ⟨l, k, xs, rfl, rfl, hT, hne, by omega, h2, hz, q⟩
end
/-! ### tuples whose object is known: no dict of their own -/
def Tp (H : Hp) (p : Addr) (xs : List V) : Prop := ∃ o, H p = some (.frz o (.tup xs)) ∧ o.cls = .type "tuple" ∧ o.dict = none
theorem Tp.sqT {K : PySem.W.Frag} {H : Hp} {p : Addr} {xs : List V} (t : Tp H p xs) : SqT K H p xs := by
  obtain ⟨o, h, _⟩ := t
  exact .inl (.inr ⟨o, h⟩)
theorem Tp.same {H H' : Hp} {p : Addr} {xs : List V} (t : Tp H p xs) (k : Same H H') : Tp H' p xs := by
  obtain ⟨o, h, a, b⟩ := t
  exact ⟨o, k _ _ h, a, b⟩
/-- a new such tuple -/
def NewT (H : Hp) (xs : List V) (Q : VK) : Prop := ∀ p o, H p = none → o.cls = .type "tuple" → o.dict = none → Q (.ref p) (upd H p (.frz o (.tup xs)))
section
variable {X : Cx} {pins : List (Addr × Obj)} {σ : L2.St} {H : Hp} {s : Shared}
theorem newT_laid {h' : Heap} {tk : Nat} {xs : List V} {its : List Value} {Q : VK} (I : Inv X pins σ H { s with heap := h', toks := tk }) (hz : xs.length ≤ sizeLine) (r : Vals xs its) (q : NewT H xs Q) :
    EP X pins σ Q (.ref h'.objs.size) { s with heap := h'.push { cls := .type "tuple", data := .seq its.toArray }, toks := tk } :=
  ⟨.ref h'.objs.size, _, I.laid (t' := tk) (o := .frz { cls := .type "tuple", data := .seq its.toArray } (.tup xs)) (fun b ob e => Heap.get?_push_of_some _ e) (Nat.le_refl _)
    ⟨Heap.get?_push_size _ rfl, hz, its, r, IsTup.new _ _⟩, rfl, q _ _ (I.hok.fresh (Nat.le_refl _)) rfl rfl⟩
end
section
variable {X : Cx}
/-- tuple(xs), a list: a new one; a tuple: itself -/
def rTupOf (K : PySem.W.Frag) : List V → Hp → VK → Prop := fun xs H Q => ∃ p ys, xs = [.ref p] ∧ ((SqL K H p ys ∧ NewT H ys Q) ∨ (SqT K H p ys ∧ Q (.ref p) H))
theorem call_tupN : CallR X (.type "tuple") (rTupOf X.K) := by
  intro pins s σ H xs us Q I r h
  obtain ⟨p, ys, rfl, h⟩ := h
  obtain ⟨u, rfl, rx⟩ := vals1 r
  cases rx
  rcases h with ⟨hq, q⟩ | ⟨hq, q⟩
  · obtain ⟨its, r', pl, hz⟩ := I.list hq
    have hlen := r'.length
    refine call_tuple_list pl.isList (fun h' kp => ?_) (by simp only [List.size_toArray] <;> omega)
    have I1 : Inv X pins σ H { s with heap := h', toks := s.toks } := I.kept (t' := s.toks) kp
    exact newT_laid I1 hz r' q
  · obtain ⟨its, r', pl, hz⟩ := I.tuple hq
    exact call_tuple_same pl ⟨.ref p, H, I, rfl, q⟩
/-- t[lo:hi] -/
def rSlN (K : PySem.W.Frag) : V → Option Int → Option Int → Hp → VK → Prop := fun x lo hi H Q => ∃ a xs, x = .ref a ∧ SqT K H a xs ∧
  (HT.sIx xs.length 0 lo = 0 ∧ HT.sIx xs.length xs.length hi = xs.length → Q (.ref a) H) ∧ (¬ (HT.sIx xs.length 0 lo = 0 ∧ HT.sIx xs.length xs.length hi = xs.length) → NewT H (cutV xs lo hi) Q)
theorem sl_tupN : SlR X (rSlN X.K) := by
  intro pins s σ H x v vl vu lo hi sl Q I rx hs pl pu h
  obtain ⟨a, xs, rfl, hx, q1, q2⟩ := h
  by_cases hw : HT.sIx xs.length 0 lo = 0 ∧ HT.sIx xs.length xs.length hi = xs.length
  · exact sl_tupA pins s σ H _ v vl vu lo hi sl Q I rx hs pl pu ⟨a, xs, rfl, hx, q1, fun z => absurd hw z⟩
  · have q := q2 hw
    cases rx
    obtain ⟨its, r, ht, hz⟩ := I.tuple hx
    have hlen : its.toArray.size = xs.length := by rw [List.size_toArray]; exact r.length.symm
    refine ⟨"tuple", _, PyProof.Rows.slot_tuple_getitem.lookup, ht.typeIs, ?_⟩
    refine HT.getItem_tuple_cut ht hs pl pu (by rw [hlen]; exact hw) ?_ (by rw [hlen]; exact hz)
    rw [hlen]
    exact newT_laid (h' := s.heap) (tk := s.toks) I (Nat.le_trans (cutV_length xs lo hi) hz) ((r.drop (HT.sIx xs.length 0 lo)).take (HT.sIx xs.length xs.length hi - HT.sIx xs.length 0 lo)) q
/-- tuple * int -/
def rRepN (K : PySem.W.Frag) : R2 := fun x y H Q => ∃ l k xs, x = .ref l ∧ y = .int k ∧ SqT K H l xs ∧ -1000 ≤ k ∧ k ≤ 1000 ∧ xs.length ≤ 1000 ∧
  ((xs = [] ∨ k = 1) → Q (.ref l) H) ∧ (¬ (xs = [] ∨ k = 1) → NewT H (List.replicate k.toNat xs).flatten Q)
theorem op_repN : OpR X (binaryOp .Mult) (rRepN X.K) := by
  intro pins s σ H x y v u Q I rx ry h
  obtain ⟨l, k, xs, rfl, rfl, hT, h1, h2, hz, q1, q2⟩ := h
  by_cases hc : xs = [] ∨ k = 1
  · exact op_repA pins s σ H _ _ v u Q I rx ry ⟨l, k, xs, rfl, rfl, hT, h1, h2, hz, q1, fun z => absurd hc z⟩
  · have q := q2 hc
    have hne : xs ≠ [] := fun e => hc (.inl e)
    have hk1 : k ≠ 1 := fun e => hc (.inr e)
    cases rx
    obtain ⟨t, rfl⟩ := ry
    obtain ⟨its, r, ⟨⟨cls, dd, data, sl⟩, ho, hcl, n, hd⟩, hs⟩ := I.tuple hT
    simp only at hcl hd
    subst hcl hd
    have hle : its.length = xs.length := r.length.symm
    have c0 : (decide (k < -(2 ^ 63)) || decide (k ≥ 2 ^ 63)) = false := by
      rw [decide_eq_false (by omega), decide_eq_false (by omega)] <;> rfl
    have hi : its.toArray.isEmpty = false := by
      cases r with
      | nil => exact absurd rfl hne
      | cons a b => rfl
    have c1 : (its.toArray.isEmpty || k == 1) = false := by
      rw [hi, Bool.false_or]
      exact beq_eq_false_iff_ne.mpr hk1
    by_cases hk : k ≤ 0
    · have e0 : (List.replicate k.toNat xs).flatten = [] := by
        rw [show k.toNat = 0 by omega] <;> rfl
      rw [e0] at q
      have c2 : (decide (k ≤ 0) || its.toArray.isEmpty) = true := by
        rw [decide_eq_true hk] <;> rfl
      refine wpAny_binaryOp_repeat_ref (T := "tuple") (U := "int") (by decide) ⟨_, ho, rfl⟩ (fun s' => typeIs_int s' k t) noFill_tuple_mul F.fills_int_mul F.slot_int_rmul repeat_tuple F.slot_int_index.lookup
        (call_meets F.slot_int_rmul (typeIs_int s k t) F.entry_int_rmul (F.args_int_rmul_2 _ _) (int_rmul_tuple k t l its.toArray n dd sl)
          ⟨ho, rfl, ⟨_, ho, rfl⟩, call_meets F.slot_tuple_mul ⟨_, ho, rfl⟩ F.entry_tuple_mul (F.args_tuple_mul_2 _ _) (tuple_mul0 l its.toArray n dd sl k t c0 c1 c2) ⟨ho, ?_⟩⟩)
      exact newT_laid (h' := s.heap) (tk := s.toks) (xs := []) (its := []) I (Nat.zero_le _) .nil q
    · have hsz0 : its.toArray.size = xs.length := by rw [List.size_toArray, hle]
      have hm : ((its.toArray.size : Nat) : Int) * k ≤ 1000000 := by
        rw [hsz0]
        have a1 : ((xs.length : Nat) : Int) * k ≤ 1000 * k := Int.mul_le_mul_of_nonneg_right (by omega) (by omega)
        omega
      have flen : (List.replicate k.toNat its).flatten.length ≤ sizeLine := by
        rw [PyProof.Rows.lm_len_rep_flat, hle, sizeLine_eq]
        have a1 : k.toNat * xs.length ≤ 1000 * 1000 := Nat.mul_le_mul (by omega) hz
        omega
      have c2 : (decide (k ≤ 0) || its.toArray.isEmpty) = false := by
        rw [hi, Bool.or_false]
        exact decide_eq_false (by omega)
      have c4 : Builtin.Tuple.tupleTooMany (((its.toArray.size : Nat) : Int) * k) = false := by
        unfold Builtin.Tuple.tupleTooMany
        rw [sizeLine_eq]
        exact decide_eq_false (by omega)
      refine wpAny_binaryOp_repeat_ref (T := "tuple") (U := "int") (by decide) ⟨_, ho, rfl⟩ (fun s' => typeIs_int s' k t) noFill_tuple_mul F.fills_int_mul F.slot_int_rmul repeat_tuple F.slot_int_index.lookup
        (call_meets F.slot_int_rmul (typeIs_int s k t) F.entry_int_rmul (F.args_int_rmul_2 _ _) (int_rmul_tuple k t l its.toArray n dd sl)
          ⟨ho, rfl, ⟨_, ho, rfl⟩, call_meets F.slot_tuple_mul ⟨_, ho, rfl⟩ F.entry_tuple_mul (F.args_tuple_mul_2 _ _) (tuple_mulW l its.toArray n dd sl k t c0 c1 c2 (by omega) c4 (by rw [size_rep, List.size_toArray]; exact flen)) ⟨ho, ?_⟩⟩)
      rw [size_rep]
      refine newT_laid (h' := s.heap) (tk := s.toks) I ?_ (r.rep k.toNat) q
      rw [PyProof.Rows.lm_len_rep_flat, sizeLine_eq]
      have a1 : k.toNat * xs.length ≤ 1000 * 1000 := Nat.mul_le_mul (by omega) hz
      omega
/-! ### t.count(k), whole numbers -/
def tCnt (to te : TE) : TE := fun σ H Q => to σ H fun x H1 => ∃ (p : Addr) (ns : List Int), x = .ref p ∧ Tp H1 p (ns.map V.int) ∧ tCons te tNil σ H1 fun vs H2 => ∃ y, vs = [y] ∧ ∃ k, y = .int k ∧ Tp H2 p (ns.map V.int) ∧ Q (.int (ns.count k : Nat)) H2
variable {o e : Expr} {to te : TE} {apos cpos : Pos}
theorem pe_cnt (ho : PE X o to) (he : PE X e te)
    (hbase : attributeBase o "count" X.env (eval o X.env) = eval o X.env := by rfl)
    (hfew : ((backTo cpos (starEach [e] X.env)).all (fun x => !x.1) && (backToKw cpos (keywordEach [] X.env)).all (fun x => x.1.isSome)
      && decide (([e] : List Expr).length + ([] : List Keyword).length + (if ([] : List Keyword).isEmpty then 0 else 1) < 30)) = true := by rfl)
    (hline : (apos.endLine == cpos.line) = true := by rfl) (hs : starEach [e] X.env = (false, eval e X.env) :: starEach [] X.env := by rfl) (hplain : (backTo cpos (starEach [] X.env)).any (·.1) = false := by rfl) :
    PE X (.Call (.Attribute o "count" apos) [e] [] cpos) (tCnt to te) := by
  refine ⟨fun pins s σ H Q I h => ?_⟩
  refine wpAny_Call_method_late hbase hfew hline rfl (thn (ho.run pins s σ H _ I h) fun v s1 ⟨x, H1, I1, r1, p, ns, ex, hT, q1⟩ => ?_)
  subst ex
  obtain rfl : v = Value.ref p := r1
  obtain ⟨ob, hp, hc, hd⟩ := hT
  obtain ⟨ho', _⟩ := (show ObjOk X.prog X.w H1 s1.heap p (.frz ob (.tup (ns.map V.int))) from I1.hok p _ hp)
  refine ⟨"tuple", "tuple.count", PySem.F.plainAttrs_tuple, PySem.F.slot_tuple_count, PySem.F.type_tuple_count, ⟨ob, ho', hc⟩, fun a ea => by cases ea; exact ⟨ob, ho', hd⟩, ?_⟩
  have hA := (show PA X [e] (tCons te tNil) from pa_cons he pa_nil hs).run cpos pins s1 σ H1 (fun vs H2 => ∃ y, vs = [y] ∧ ∃ k, y = .int k ∧ Tp H2 p (ns.map V.int) ∧ Q (.int (ns.count k : Nat)) H2) I1 q1
  rw [hs] at hA ⊢
  refine Calls.callWith_builtin (by show (false || (backTo cpos (starEach [] X.env)).any (·.1)) = false; rw [hplain] <;> rfl) (Calls.evalArgs_plain ?_)
  refine thn hA fun us s2 ⟨vs, H2, I2, r2, y, ev, k, ey, hT2, q2⟩ => ?_
  subst ev ey
  obtain ⟨u, rfl, t, rfl⟩ := vals1 r2
  obtain ⟨ob2, hp2, hc2, hd2⟩ := hT2
  obtain ⟨ho2, hz, its, rv, ob3, ho3, hc3, n3, hd3⟩ := (show ObjOk X.prog X.w H2 s2.heap p (.frz ob2 (.tup (ns.map V.int))) from I2.hok p _ hp2)
  obtain ⟨oc, od, dt, sl⟩ := ob3
  simp only at hc3 hd3
  subst hc3 hd3
  have hi := ints_of_vals rv
  refine call_meets PySem.F.slot_tuple_count ⟨_, ho3, rfl⟩ PySem.F.entry_tuple_count (PySem.F.args_tuple_count_2 _ _)
    (SeqAt.tuple_countAt p its.toArray n3 od sl (.int k t) (eqk k)) ⟨ho3, fun y hy => (eqk_gives hi y (by simpa using hy)).at _ _, ?_⟩
  have ec : its.toArray.toList.countP (eqk k) = ns.count k := eqk_count hi
  refine ⟨.int (ns.count k : Nat), H2, I2.tok _, ⟨s2.toks, ?_⟩, q2⟩
  show Value.int ((its.toArray.toList.countP (eqk k) : Nat) : Int) s2.toks = Value.int ((ns.count k : Nat) : Int) s2.toks
  rw [ec]
end
end XA

set_option linter.all false
set_option maxRecDepth 100000
set_option maxHeartbeats 4000000
/-! XB: a caught exception kept as a value; isinstance of it. -/
namespace XB
open PySem PySem.Spec PyProof.Rows L2
/-- a caught exception at a -/
def ExV (cls : Value) (d : Option Addr) (a : Addr) : HO := .ext fun h => ∃ (oe : Obj) (vs : Array Value), h.get? a = some oe ∧ Zc cls d oe ∧ oe.data = .fields vs
theorem exV_ok {P : Program} {w : World} {H : Hp} {h : Heap} {a : Addr} {cls : Value} {d : Option Addr} {oe : Obj} {vs : Array Value} (e : h.get? a = some oe) (z : Zc cls d oe) (dd : oe.data = .fields vs) : ObjOk P w H h a (ExV cls d a) :=
  ⟨⟨oe, vs, e, z, dd⟩, ⟨oe, e⟩, fun _ _ ⟨o, v, q, r⟩ k => ⟨o, v, k o q, r⟩⟩
section
variable {X : Cx} {pins : List (Addr × Obj)} {σ : L2.St} {H : Hp} {s : Shared}
theorem track {a : Addr} {oe : Obj} {vs : Array Value} {cls : Value} {d : Option Addr} (I : Inv X ((a, oe) :: pins) σ H s) (n0 : X.s_0.heap.get? a = none) (hz : Zc cls d oe) (hd : oe.data = .fields vs) (hp : ∀ p ∈ X.pn ++ pins, p.1 ≠ a) :
    Inv X pins σ (upd H a (ExV cls d a)) s := by
  obtain ⟨ha, na, nL, nF, hc⟩ := I.pin (a, oe) (List.mem_append_right _ List.mem_cons_self)
  have ne0 : ∀ b o, X.s_0.heap.get? b = some o → b ≠ a := fun b o e z => by
    rw [z, n0] at e
    cases e
  have neS : ∀ b u, H b = some u → b ≠ a := fun b u e => ne_of_none e na
  have neC : ∀ x c, X.env.cells.lookup x = some c → c ≠ a := fun x c e z => by
    obtain ⟨v, o, ho, hd'⟩ := I.cell x c e
    rw [z, ha] at ho
    cases ho
    exact hc v hd'
  refine ⟨I.ok, I.os, I.bare, ⟨I.base.keep, I.base.slot, fun b o e n hx => ?_, I.base.there, fun b xs e => ?_, fun b o u e => ?_, fun b ps e => ?_⟩, I.loc, I.cell, ?_, fun x c e => ?_, fun p hq => ?_, I.hok.laidN (fun _ _ q => q) na (exV_ok ha hz hd), I.len⟩
  · rw [upd_ne (ne0 b o e)]
    exact I.base.free b o e n hx
  · have q := I.base.tups b xs e
    rw [upd_ne (neS b _ q)]
    exact q
  · have q := I.base.frzs b o u e
    rw [upd_ne (neS b _ q)]
    exact q
  · obtain ⟨m, q⟩ := I.base.tbls b ps e
    exact ⟨m, by rw [upd_ne (neS b _ q)]; exact q⟩
  · rw [upd_ne (Ne.symm nL)]
    exact I.free
  · rw [upd_ne (neC x c e)]
    exact I.freeC x c e
  · obtain ⟨e, n, ne, nf, dd⟩ := I.pin p (by
      rcases List.mem_append.mp hq with z | z
      · exact List.mem_append_left _ z
      · exact List.mem_append_right _ (List.mem_cons_of_mem _ z))
    exact ⟨e, by rw [upd_ne (hp p hq)]; exact n, ne, nf, dd⟩
theorem pinned {a : Addr} {oe : Obj} {pn' : List (Addr × Obj)} (I : Inv (X.suite a ((a, oe) :: (X.pn ++ pins))) pn' σ H s) (ok : X.Ok) : Inv X ((a, oe) :: pins) σ H s :=
  ⟨ok, I.os, I.bare, I.base, I.loc, I.cell, I.free, I.freeC, fun p hp => I.pin p (List.mem_append_left _ (by
    rcases List.mem_append.mp hp with z | z
    · exact List.mem_cons_of_mem _ (List.mem_append_left _ z)
    · rcases List.mem_cons.mp z with e | z
      · rw [e]
        exact List.mem_cons_self
      · exact List.mem_cons_of_mem _ (List.mem_append_right _ z))), I.hok, I.len⟩
end
/-- 'except x as n', behind whose suite the exception is kept -/
def wAsV (K : PySem.W.Frag) (c : Value) (i : Nat) (ts : Addr → Value → Option Addr → TS) (Wout : WX) (D : Ends) : WX := fun cls d σ H =>
  ∃ b, PySem.W.exmOne K cls c = some b ∧ (b = true → ∀ a, H a = none → ts a cls d { nx := fun σ' H' => D.nx (σ'.set i none) (upd H' a (ExV cls d a)), rt := fun v H' => D.rt v (upd H' a (ExV cls d a)), bk := fun σ' H' => D.bk (σ'.set i none) (upd H' a (ExV cls d a)), ct := fun σ' H' => D.ct (σ'.set i none) (upd H' a (ExV cls d a)) } (σ.set i (some (.ref a))) H) ∧
    (b = false → Wout cls d σ H)
section
variable {X : Cx} {pins : List (Addr × Obj)} {σ σ1 : L2.St} {H H1 : Hp} {s sI : Shared} {B h3 : Heap} {a : Addr} {cls c : Value} {d : Option Addr} {x n : Str} {i : Nat} {b0 : Stmt} {suite : List Stmt} {np ps1 : Pos} {ts : Addr → Value → Option Addr → TS} {Wout : WX} {D : Ends}
/-- an exception in flight is no frame -/
theorem off_frames {l : List Env} {h : Heap} (fl : HandSPX.FlyingZ B l a (Zc cls d) h) : a ∉ frs l := by
  intro hm
  obtain ⟨oe, vs, e1, _, e2⟩ := fl.there
  obtain ⟨_, o2, e3, e4⟩ := Heap.FunFrames.mem fl.2.2.1 hm
  obtain rfl : oe = o2 := Option.some.inj (e1.symm.trans e3)
  exact e4 _ e2
/-- it wasn't there at the entry, and is no pin -/
theorem was_new (J : Inv X pins σ H sI) (grd : ∀ b o, sI.heap.get? b = some o → b ∉ frs X.stack → B.get? b = some o) (hB : B.get? a = none) (out : a ∉ frs X.stack) (hex : X.ex = []) :
    X.s_0.heap.get? a = none ∧ ∀ p ∈ X.pn ++ pins, p.1 ≠ a := by
  have no : ∀ o, sI.heap.get? a ≠ some o := fun o e => by
    have z := grd a o e out
    rw [hB] at z
    cases z
  constructor
  · cases e : X.s_0.heap.get? a with
    | none => rfl
    | some o =>
      obtain ⟨o2, e2⟩ := J.base.there a o e (fun z => by rw [hex] at z; cases z)
      exact absurd e2 (no o2)
  · intro p hp z
    have e2 := (J.pin p hp).1
    rw [z] at e2
    exact no _ e2
/-- the suite, behind which the name goes and the exception stays known -/
theorem suite_keeps (ok : X.Ok) (hN : X.N.Nodup) (hi : X.N[i]? = some n) (hln : X.env.kindOf n = some .local) (J : Inv X pins σ H { s with heap := h3 }) (fl : HandSPX.FlyingZ B (X.env :: X.outer) a (Zc cls d) h3) (na : H a = none) (nL : a ≠ X.env.locals) (nF : a ∉ X.fs)
    (new : X.s_0.heap.get? a = none ∧ ∀ p ∈ X.pn ++ pins, p.1 ≠ a)
    (hsu : ∀ (a : Addr) (oe : Obj) (cls : Value) (d : Option Addr) (pn : List (Addr × Obj)), Zc cls d oe → (∃ vs, oe.data = .fields vs) → PSs (X.suite a ((a, oe) :: pn)) (b0 :: suite) (ts a cls d))
    (q : ts a cls d { nx := fun σ' H' => D.nx (σ'.set i none) (upd H' a (ExV cls d a)), rt := fun v H' => D.rt v (upd H' a (ExV cls d a)), bk := fun σ' H' => D.bk (σ'.set i none) (upd H' a (ExV cls d a)), ct := fun σ' H' => D.ct (σ'.set i none) (upd H' a (ExV cls d a)) } (σ.set i (some (.ref a))) H) :
    wpAny (model X.prog X.w) (X.A.mark (some (.ref a))) (storeName X.env n (.ref a))
      (fun _ s5 => wpAny (model X.prog X.w) (X.A.mark (some (.ref a))) (execs (b0 :: suite) X.env)
        (fun f s6 => wpAny (model X.prog X.w) X.A (do bindName X.env n .none; unbindBehindTheSuite X.env n ps1) (fun _ s7 => SP X pins D f s7) X.xe s6) (fun _ _ => False) s5) (fun _ _ => False) { s with heap := h3 } := by
  obtain ⟨oe, vs, e1, z1, f1⟩ := fl.there
  refine store_ok (X := X.suite a ((a, oe) :: (X.pn ++ pins))) (v := .ref a) (J.suite e1 f1 na nL nF) hN hi (.inl hln) rfl (fun s5 J5 => ?_) (.inr hln)
  have run := (hsu a oe cls d (X.pn ++ pins) z1 ⟨_, f1⟩).run [] s5 _ H _ J5 q
  refine wpAny_mono run (fun f s6 out => ?_) fun _ _ no => no
  have go : ∀ {σ6 : L2.St} {H6 : Hp} {R : Shared → Prop}, Inv (X.suite a ((a, oe) :: (X.pn ++ pins))) [] σ6 H6 s6 → (∀ s7, Inv X pins (σ6.set i none) (upd H6 a (ExV cls d a)) s7 → R s7) →
      wpAny (model X.prog X.w) X.A (do bindName X.env n .none; unbindBehindTheSuite X.env n ps1) (fun _ s7 => R s7) X.xe s6 := fun J6 k =>
    gone_ok (pinned J6 ok) hN hi hln fun s7 J7 => k s7 (track J7 new.1 z1 f1 new.2)
  match f, out with
  | .next, ⟨_, _, J6, k⟩ => exact go J6 fun _ J7 => ⟨_, _, J7, k⟩
  | .brk, ⟨_, _, J6, k⟩ => exact go J6 fun _ J7 => ⟨_, _, J7, k⟩
  | .cont, ⟨_, _, J6, k⟩ => exact go J6 fun _ J7 => ⟨_, _, J7, k⟩
  | .ret _, ⟨_, _, _, J6, r, k⟩ => exact go J6 fun _ J7 => ⟨_, _, _, J7, r, k⟩
/-- the clause met by an exception that came down onto it -/
theorem clause_ok (hs : X.stack = X.env :: X.outer) (hf : X.env.frame = some X.env.locals) (hex : X.ex = []) (hN : X.N.Nodup) (hi : X.N[i]? = some n) (hln : X.env.kindOf n = some .local) (hc : Names X x c) (tk : Takes X Wout)
    (hsu : ∀ (a : Addr) (oe : Obj) (cls : Value) (d : Option Addr) (pn : List (Addr × Obj)), Zc cls d oe → (∃ vs, oe.data = .fields vs) → PSs (X.suite a ((a, oe) :: pn)) (b0 :: suite) (ts a cls d))
    (J : Inv X pins σ H sI) (grd : ∀ b o, sI.heap.get? b = some o → b ∉ frs X.stack → B.get? b = some o) (up : sI.heap.UpToSlots h3) (os : s.os = sI.os) (ag : AllBare s.gens) (na : H a = none) (fl : HandSPX.FlyingZ B (X.env :: X.outer) a (Zc cls d) h3)
    (wish : wAsV X.K c i ts Wout D cls d σ H) :
    wpAny (model X.prog X.w) X.A (handleBy (.ref a) X.env [.ExceptHandler (some (.Name x np)) (some n) (b0 :: suite) ps1]) (SP X pins D) X.xe { s with heap := h3 } := by
  have ok := J.ok
  have out := off_frames fl
  have out2 : a ∉ frs X.stack := by rw [hs]; exact out
  have nL : a ≠ X.env.locals := fun z => out (by
    unfold frs
    rw [List.filterMap_cons, hf, z]
    exact List.mem_cons_self)
  have nF : a ∉ X.fs := fun z => out (by
    unfold frs
    rw [List.filterMap_cons, hf]
    exact List.mem_cons_of_mem _ z)
  have new := was_new J grd fl.2.1 out2 hex
  have down : ∀ {h : Heap}, HandSPX.FlyingZ B (X.env :: X.outer) a (Zc cls d) h → sI.heap.UpToSlots h → Inv X pins σ H { s with heap := h } := fun f u => J.landed (s' := { s with heap := _ }) grd f.1 u os ag
  obtain ⟨b, m1, yes, no⟩ := wish
  obtain ⟨oe, vs, e1, z1, f1⟩ := fl.there
  have J3 := down fl up
  have J3s := J3.suite e1 f1 na nL nF
  have ty : PySem.W.Looks (model X.prog X.w) h3 (typeOf (.ref a)) cls := fun A Q E s k q => wpAny_typeOf_ref (k _ _ e1) (by rw [z1.1]; exact q)
  have meets := PySem.W.exm_one (M := model X.prog X.w) J3.kIn ty m1
  have named : ∀ {Q : Value → Shared → Prop} {E : Value → Shared → Prop}, Q c { s with heap := h3 } → wpAny (model X.prog X.w) (X.A.mark (some (.ref a))) (eval (.Name x np) X.env) Q E { s with heap := h3 } := fun {Q E} q => by
    obtain ⟨g1, g2, g3 | ⟨g3, g4, g5⟩⟩ := hc
    · exact ld_glob (X := X.suite a ((a, oe) :: (X.pn ++ pins))) J3s g1 g3 q g2
    · exact ld_blt (X := X.suite a ((a, oe) :: (X.pn ++ pins))) J3s g1 g3 g4 q g5 g2
  refine wpAny_handleBy_cons (codeAny_handlers_test (named (meets.here ?_))) (by intro z; cases z)
  cases b with
  | true =>
    refine codeAny_handlers_suite_as (HandSPX.lands_againZ fl fun h4 fl4 up4 => ?_)
    exact wpAny_mono (suite_keeps (ps1 := ps1) ok hN hi hln (down fl4 (up.trans up4)) fl4 na nL nF new hsu (yes rfl a na)) (fun _ s5 h5 => wpAny_mono h5 (fun f s6 h6 => h6) fun _ _ no => no.elim) fun _ _ no => no.elim
  | false =>
    refine wpAny_handleBy_nil ?_
    obtain ⟨_, _, _, oe2, vs2, T, oT, tv, g1, g2, g3, g4, g5⟩ := id fl
    unfold PySem.passOn
    refine wpAny_bind (wpAny_field g1 g3 g4 ?_)
    rw [if_neg (by simp : ¬ ((Value.ref T == Value.none) = true))]
    have last : wpAny (model X.prog X.w) X.A (setFlight (.ref a) X.env.frame) (fun _ s4 => wpAny (model X.prog X.w) X.A (throw (.ref a) : Sem Flow) (SP X pins D) X.xe s4) X.xe { s with heap := h3 } := by
      rw [hf]
      exact HandSPX.setFlight_upZ fl fun h4 held up4 => wpAny_throw (tk _ _ ⟨a, B, sI, pins, σ, H, cls, d, rfl, J, grd, up.trans up4, .inr (.inr (by rw [hs]; exact held)), na, os, ag, no rfl⟩)
    first
      | exact wpAny_bind (wpAny_pure (wpAny_bind last))
      | exact wpAny_bind last
end
section
variable {X : Cx} {x n : Str} {c : Value} {i : Nat} {body suite : List Stmt} {b0 : Stmt} {np ps1 ps2 : Pos} {tb : WX → TS} {ts : Addr → Value → Option Addr → TS} {Wout : WX}
/-- try: body / except x as n: suite; the exception stays known behind it -/
theorem ps_try_asV (hs : X.stack = X.env :: X.outer) (hf : X.env.frame = some X.env.locals) (hex : X.ex = []) (hN : X.N.Nodup) (hi : X.N[i]? = some n) (hln : X.env.kindOf n = some .local) (hc : Names X x c) (tk : Takes X Wout)
    (hb : ∀ (W : WX) (pn : List (Addr × Obj)) (xe : Value → Shared → Prop), Takes (X.tr pn xe) W → PassesOwn (model X.prog X.w) X.A X.env xe → PSs (X.tr pn xe) body (tb W))
    (hsu : ∀ (a : Addr) (oe : Obj) (cls : Value) (d : Option Addr) (pn : List (Addr × Obj)), Zc cls d oe → (∃ vs, oe.data = .fields vs) → PSs (X.suite a ((a, oe) :: pn)) (b0 :: suite) (ts a cls d)) :
    PS X (.Try body [.ExceptHandler (some (.Name x np)) (some n) (b0 :: suite) ps1] [] [] ps2) (fun D σ H => tb (wAsV X.K c i ts Wout D) D σ H) := by
  constructor
  intro pins s σ H D I h
  have ok := I.ok
  refine wpAny_Try_except ?_
  let hd : List ExceptHandler := [.ExceptHandler (some (.Name x np)) (some n) (b0 :: suite) ps1]
  let out : Value → Shared → Prop := fun e s1 => wpAny (model X.prog X.w) X.A (noteFrame e X.env) (fun _ s2 => wpAny (model X.prog X.w) X.A (setFlight e none) (fun _ s3 => wpAny (model X.prog X.w) X.A (handleBy e X.env hd) (SP X pins D) X.xe s3) X.xe s2) X.xe s1
  have caught : Takes (X.tr (X.pn ++ pins) out) (wAsV X.K c i ts Wout D) := by
    rintro u s1 ⟨a, B, sI, pins1, σ1, H1, cls, d, rfl, J, grd, up, sky, na, os, ag, wish⟩
    have sky2 : Sky B (X.env :: X.outer) a (Zc cls d) X.env.locals s1.heap := by
      rw [← hs]
      exact sky
    exact Sky.land Zc.steady (by rw [ok.frames, hs]) hf sky2 fun h3 fl u3 => clause_ok hs hf hex hN hi hln hc tk hsu (J.ofTry ok) grd (up.trans u3) os ag na fl wish
  have run := (hb _ (X.pn ++ pins) out caught PassesOwn.looking).run [] s σ H D (I.toTry _) h
  refine wpAny_mono run (fun f s1 q => ?_) fun e s1 q => q
  match f, q with
  | .next, ⟨_, _, J, k⟩ => exact wpAny_execs_nil ⟨_, _, J.ofTry ok, k⟩
  | .brk, ⟨_, _, J, k⟩ => exact ⟨_, _, J.ofTry ok, k⟩
  | .cont, ⟨_, _, J, k⟩ => exact ⟨_, _, J.ofTry ok, k⟩
  | .ret _, ⟨_, _, _, J, r, k⟩ => exact ⟨_, _, _, J.ofTry ok, r, k⟩
end
/-! ### isinstance of it -/
/-- isinstance(x, c): a plain thing, or a caught exception of the class D -/
def rIsU (K : PySem.W.Frag) : List V → Hp → VK → Prop := fun xs H Q => rIsi K xs H Q ∨ ∃ (a D : Addr) (c : V) (cv : Value) (b : Bool), xs = [.ref a, c] ∧ H a = some (ExV (.ref D) none a) ∧ ExcC K D ∧ ClsV c cv ∧ PySem.W.kitOne K (.ref D) cv = some b ∧ Q (.bl b) H
theorem call_isU {X : Cx} : CallR X (.builtin "isinstance") (rIsU X.K) := by
  intro pins s σ H xs us Q I r h
  rcases h with h | ⟨a, D, c, cv, b, rfl, ha, C, k, e, q⟩
  · exact call_isi pins s σ H xs us Q I r h
  · obtain ⟨u1, u2, rfl, r1, r2⟩ := vals2 r
    cases (show u1 = Value.ref a from r1)
    have e2 := k.eq r2
    subst e2
    obtain ⟨⟨oe, vs, ho, hz, hd⟩, _, _⟩ := (show ObjOk X.prog X.w H s.heap a (ExV (.ref D) none a) from I.hok a _ ha)
    have J : PySem.W.InstAt s.heap a oe D none := by
      obtain ⟨oc, od, oda, osl⟩ := oe
      obtain ⟨h1, h2⟩ := hz
      dsimp only at h1 h2 hd
      subst h1 h2 hd
      exact ⟨ho, rfl, rfl, trivial⟩
    exact PySem.W.kia_one (PySem.W.handS_kitx_exc C.hg C.hk C.hs C.hd C.ha C.hn C.ht C.hm) I.kIn J e (fun z => nomatch z) fun tk => ⟨.bl b, H, I.kept (t' := tk) fun _ _ z => z, rfl, q⟩
end XB

set_option linter.all false
set_option maxRecDepth 100000
set_option maxHeartbeats 4000000
/-! XC: defs bundled under their names, operators by kind, readings from the left. -/
namespace XC
open PySem PySem.Spec PyProof.Rows L2 XA XB
/-! ### defs under their names -/
/-- the def as the top left it -/
def Rw (K : PySem.W.Frag) (mg : Str → Option Value) (x : Str) (st : Stmt) : Prop := ∃ f fd, FunD K x x (defArgs st) (defBody st) (defScope st) [] [] f fd ∧ mg x = some (.ref f)
/-- how the arguments bind -/
def Bnd (st : Stmt) (x : Str) (ps : List Str) : Prop := ∀ (kV doc pm : Value) (an : Option Addr) (cdv ct : Value) (us : List Value), us.length = ps.length → bindArgs (PySem.W.fnOf x x (defArgs st) (defBody st) (defScope st) .none kV doc pm an cdv ct) ⟨us, []⟩ = pure (ps.zip us)
def Bndk (st : Stmt) (x : Str) (ps : List Str) (n : Nat) (ks : List Str) : Prop := ∀ (kV doc pm : Value) (an : Option Addr) (cdv ct : Value) (us ws : List Value), us.length = n → ws.length = ks.length → bindArgs (PySem.W.fnOf x x (defArgs st) (defBody st) (defScope st) .none kV doc pm an cdv ct) ⟨us, ks.zip ws⟩ = pure (ps.zip (us ++ ws))
structure Df (P : Program) (w : World) (K : PySem.W.Frag) (mg : Str → Option Value) (base : Heap) (CX : CXT) (k : Nat) (x : Str) (st : Stmt) (ps : List Str) (sp : Sp) : Prop where
  ex : ∃ f fd, FnOk P w K mg base CX k f fd ps sp ∧ mg x = some (.ref f) ∧ PySem.W.keepIn K (.ref f) = true ∧ Binds K fd ps [] ∧ ∀ n ks, Bndk st x ps n ks → KBn K fd ps n ks (fun us ws => us ++ ws) (fun vs zs => vs ++ zs)
section
variable {P : Program} {w : World} {K : PySem.W.Frag} {mg : Str → Option Value} {base : Heap} {x : Str} {st : Stmt} {N ps : List Str} {k : Nat} {sp : Sp}
theorem kbn_of {f : Addr} {fd : FuncData} (F : FunD K x x (defArgs st) (defBody st) (defScope st) [] [] f fd) (n : Nat) (ks : List Str) (bd : Bndk st x ps n ks) : KBn K fd ps n ks (fun us ws => us ++ ws) (fun vs zs => vs ++ zs) := by
  obtain ⟨oc, od, dV, kV, doc, pm, an, cdv, ct, osl, rfl, lk, hcd, hD, hK⟩ := F.ex
  rcases hD with ⟨_, rfl⟩ | ⟨e, _⟩
  · exact ⟨fun s us ws _ l1 l2 => .of_eq (bd kV doc pm an cdv ct us ws l1 l2), fun r1 r2 => Vals.append r1 r2⟩
  · exact absurd rfl e
theorem mk0 (R : Rw K mg x st) (S : FnScope N ps (defScope st)) (bd : Bnd st x ps) (len : ∀ vs H Q E, sp vs H Q E → vs.length = ps.length)
    (hbody : ∀ (f : Addr) (cdv : Value) (A : Around) (outer : List Env) (s : Shared) (H : Hp) (vs : List V) (Q : VK) (E : XK), Room k (A.deeper (envOfC x (defScope st) s.heap.objs.size f cdv)) → sp vs H Q E →
      ∃ t, PSs (cxOf CX0 P w K mg base N x (defScope st) f cdv A outer s H E).nox (defBody st) t ∧ t { nx := fun _ H' => Q .non H', rt := Q } (L2.start N vs) H) : Df P w K mg base CX0 (k + 1) x st ps sp := by
  obtain ⟨f, fd, F, g⟩ := R
  refine ⟨f, fd, F.ok S len fun cdv A outer s H vs Q E hr h => ?_, g, F.kp, F.bindsN bd, kbn_of F⟩
  obtain ⟨t, a, b⟩ := hbody f cdv A outer s H vs Q E hr h
  exact ⟨t, a.nox, b⟩
theorem mkX (R : Rw K mg x st) (S : FnScope N ps (defScope st)) (bd : Bnd st x ps) (len : ∀ vs H Q E, sp vs H Q E → vs.length = ps.length)
    (hbody : ∀ (f : Addr) (cdv : Value) (A : Around) (outer : List Env) (s : Shared) (H : Hp) (vs : List V) (Q : VK) (E : XK), Room k (A.deeper (envOfC x (defScope st) s.heap.objs.size f cdv)) → sp vs H Q E →
      ∃ t, PSs (cxOf (L2.CX P w) P w K mg base N x (defScope st) f cdv A outer s H E) (defBody st) t ∧ t { nx := fun _ H' => Q .non H', rt := Q } (L2.start N vs) H) : Df P w K mg base (L2.CX P w) (k + 1) x st ps sp := by
  obtain ⟨f, fd, F, g⟩ := R
  exact ⟨f, fd, F.ok S len fun cdv A outer s H vs Q E hr h => hbody f cdv A outer s H vs Q E hr h, g, F.kp, F.bindsN bd, kbn_of F⟩
end
/-! ### calls -/
def tCl (sp : Sp) (E : XK) (t : TA) : TE := fun σ H Q => t σ H fun vs H1 => sp vs H1 Q E
def tCk (sp : Sp) (E : XK) (n m : Nat) (t tk : TA) : TE := fun σ H Q => t σ H fun vs H1 => tk σ H1 fun zs H2 => vs.length = n ∧ zs.length = m ∧ sp (vs ++ zs) H2 Q E
section
variable {X : Cx} {CX : CXT} {j k n : Nat} {x : Str} {st : Stmt} {ps ks : List Str} {sp : Sp} {E : XK} {p pos : Pos} {e : Expr} {es : List Expr} {kws : List Keyword} {t tk : TA}
theorem pe_d (D : Df X.prog X.w X.K X.mg X.base CX k x st ps sp) (hr : Room j X.A) (hk : k ≤ j) (hg : Gl X x) (hx : Passes CX X E) (ha : PA X (e :: es) t) (hdb : (x == ("__debug__" : Str)) = false := by decide)
    (he : starEach (e :: es) X.env = (false, eval e X.env) :: starEach es X.env := by rfl) (hpl : (backTo pos (starEach es X.env)).any (·.1) = false := by rfl) : PE X (.Call (.Name x p) (e :: es) [] pos) (tCl sp E t) := by
  obtain ⟨f, fd, F, g, kp, b, _⟩ := D
  refine ⟨fun pins s σ H Q I h => ?_⟩
  refine (pe_call (E := E) F (hr.mono hk) hg g kp b .nil hx ha hdb he hpl).run pins s σ H Q I ?_
  show t σ H fun vs H1 => sp (vs ++ []) H1 Q E
  simp only [List.append_nil]
  exact h
theorem pe_dk (D : Df X.prog X.w X.K X.mg X.base CX k x st ps sp) (bd : Bndk st x ps n ks) (hr : Room j X.A) (hk : k ≤ j) (hg : Gl X x) (hx : Passes CX X E) (ha : PA X (e :: es) t) (hkw : PK X kws tk)
    (hall : (backToKw pos (keywordEach kws X.env)).all (·.1.isSome) = true := by rfl) (hks : (backToKw pos (keywordEach kws X.env)).filterMap (·.1) = ks := by rfl)
    (hdb : (x == ("__debug__" : Str)) = false := by decide) (he : starEach (e :: es) X.env = (false, eval e X.env) :: starEach es X.env := by rfl)
    (hpl : ((backTo pos (starEach (e :: es) X.env)).any (·.1) || (backToKw pos (keywordEach kws X.env)).any (·.1.isNone)) = false := by rfl) : PE X (.Call (.Name x p) (e :: es) kws pos) (tCk sp E n ks.length t tk) := by
  obtain ⟨f, fd, F, g, kp, _, kb⟩ := D
  exact pe_callN F (hr.mono hk) hg g kp (kb n ks bd) hx ha hkw hall hks hdb he hpl
theorem pe_dk0 (D : Df X.prog X.w X.K X.mg X.base CX k x st ps sp) (bd : Bndk st x ps 0 ks) (hr : Room j X.A) (hk : k ≤ j) (hg : Gl X x) (hx : Passes CX X E) (hkw : PK X kws tk)
    (hall : (backToKw pos (keywordEach kws X.env)).all (·.1.isSome) = true := by rfl) (hks : (backToKw pos (keywordEach kws X.env)).filterMap (·.1) = ks := by rfl)
    (hdb : (x == ("__debug__" : Str)) = false := by decide)
    (hpl : ((backTo pos (starEach [] X.env)).any (·.1) || (backToKw pos (keywordEach kws X.env)).any (·.1.isNone)) = false := by rfl) : PE X (.Call (.Name x p) [] kws pos) (tCk sp E 0 ks.length tNil tk) := by
  obtain ⟨f, fd, F, g, kp, _, kb⟩ := D
  refine ⟨fun pins s σ H Q I h => ?_⟩
  refine wpAny_Call_Name_kw (ld_glob I hg g ?_ hdb)
  refine PySem.W.callWith_KW0 (h₀ := X.base) I.ok.mod.kin kp hall (thn (hkw.run pos pins s σ H _ I h) fun ws s2 ⟨zs, H2, I2, rz, l1, l2, q2⟩ => ⟨I2.kIn, ?_⟩) hpl
  rw [hks]
  exact run_fnN (us := []) (vs := []) F (hr.mono hk) (kb 0 ks bd) hx I2 .nil rz rfl l2 q2
/-- where errors may leave the def -/
theorem passX {P : Program} {w : World} {K : PySem.W.Frag} {mg : Str → Option Value} {base : Heap} {N : List Str} {qual : Str} {scope : Scope} {f : Addr} {cd : Value} {A : Around} {outer : List Env} {s : Shared} {H : Hp} {E : XK} :
    Passes (L2.CX P w) (cxOf (L2.CX P w) P w K mg base N qual scope f cd A outer s H E) E := passes_call (W := fun cls d _ H => E cls d H) (takes_of rfl rfl rfl rfl) fun _ _ _ _ h => h
/-- .. a lambda's body -/
theorem passLam {X : Cx} {A : Around} {outer : List Env} {s : Shared} {H : Hp} {E : XK} {scope : Scope} {f c' : Addr} : Passes (L2.CX X.prog X.w) (LamX.lamCx X A outer s H E scope f c') E := passes_call (W := fun cls d _ H => E cls d H) (takes_of rfl rfl rfl rfl) fun _ _ _ _ h => h
/-- a constant of the module -/
theorem pe_gi {i : Int} (h : ∃ t, X.mg x = some (.int i t)) (hg : Gl X x) (hdb : (x == ("__debug__" : Str)) = false := by decide) : PE X (.Name x p) (tC (.int i)) := by
  obtain ⟨t, h⟩ := h
  exact pe_glob hg h ⟨t, rfl⟩ hdb
/-- a class of the module -/
theorem pe_gc {C : Addr} (h : X.mg x = some (.ref C)) (hg : Gl X x) (hdb : (x == ("__debug__" : Str)) = false := by decide) : PE X (.Name x p) (tC (.ref C)) := pe_glob hg h rfl hdb
end
/-! ### operators by kind -/
def rAddU (K : PySem.W.Frag) : R2 := fun x y H Q => (∃ i j, x = .int i ∧ y = .int j ∧ Q (.int (i + j)) H) ∨ rCatA K x y H Q ∨ rCat x y H Q
def rMulU (K : PySem.W.Frag) : R2 := fun x y H Q => (∃ i j, x = .int i ∧ y = .int j ∧ CMul i j ∧ Q (.int (i * j)) H) ∨ rRepN K x y H Q
def rEqU (K : PySem.W.Frag) : R2 := fun x y H Q => rEq x y H Q ∨ rEqD K x y H Q
def rNeU (K : PySem.W.Frag) : R2 := fun x y H Q => rNe x y H Q ∨ rNeD K x y H Q
def rSlU (K : PySem.W.Frag) : V → Option Int → Option Int → Hp → VK → Prop := fun x lo hi H Q => rSlL K x lo hi H Q ∨ rSlN K x lo hi H Q
def rIsB2 : R2 := fun x y H Q => ∃ a b : Bool, x = .bl a ∧ y = .bl b ∧ Q (.bl (decide (a = b))) H
section
variable {X : Cx}
theorem opr_or {f : Value → Value → Sem Value} {r r' : R2} (a : OpR X f r) (b : OpR X f r') : OpR X f (fun x y H Q => r x y H Q ∨ r' x y H Q) := by
  intro pins s σ H x y v u Q I rx ry h
  rcases h with h | h
  · exact a pins s σ H x y v u Q I rx ry h
  · exact b pins s σ H x y v u Q I rx ry h
theorem op_addU : OpR X (binaryOp .Add) (rAddU X.K) := opr_or op_add (opr_or op_catA op_cat)
theorem op_mulU : OpR X (binaryOp .Mult) (rMulU X.K) := opr_or op_mul op_repN
theorem op_eqU (hu : X.A.units + 64 < cLine) : OpR X (compareOp .Eq) (rEqU X.K) := opr_or op_eq (op_eqD hu)
theorem op_neU (hu : X.A.units + 64 < cLine) : OpR X (compareOp .NotEq) (rNeU X.K) := opr_or op_ne (op_neD hu)
theorem sl_U : SlR X (rSlU X.K) := SlR.or sl_list sl_tupN
end
/-! ### readings, from the left -/
section
variable {K : PySem.W.Frag} {σ : L2.St} {H : Hp} {Q : VK} {v x y z : V} {i : Nat} {ta tb te tc : TE} {t u c : TT} {sp : Sp} {E : XK} {ts us : TS} {D : Ends} {g : TG} {gs : TGs}
theorem rd_var (h : σ[i]? = some (some v)) (q : Q v H) : tVar i σ H Q := ⟨v, h, q⟩
theorem rd_c (q : Q v H) : tC v σ H Q := q
theorem rd_op {r : R2} (h : ta σ H fun x H1 => tb σ H1 fun y H2 => r x y H2 Q) : tOp r ta tb σ H Q := h
theorem rd_un {r : V → Hp → VK → Prop} (h : ta σ H fun x H1 => r x H1 Q) : tUn r ta σ H Q := h
theorem rd_nil {Q : List V → Hp → Prop} (h : Q [] H) : tNil σ H Q := h
theorem rd_cons {tr : TA} {Q : List V → Hp → Prop} (h : ta σ H fun x H1 => tr σ H1 fun xs H2 => Q (x :: xs) H2) : tCons ta tr σ H Q := h
theorem rd_cl {ta : TA} (h : ta σ H fun vs H1 => sp vs H1 Q E) : tCl sp E ta σ H Q := h
theorem rd_ck {ta tk : TA} {n m : Nat} (h : ta σ H fun vs H1 => tk σ H1 fun zs H2 => vs.length = n ∧ zs.length = m ∧ sp (vs ++ zs) H2 Q E) : tCk sp E n m ta tk σ H Q := h
theorem rd_cb {r : List V → Hp → VK → Prop} {ta : TA} (h : ta σ H fun vs H1 => r vs H1 Q) : tCB r ta σ H Q := h
theorem rd_seq (h : ts { D with nx := us D } σ H) : tSeq ts us D σ H := h
theorem rd_next (h : D.nx σ H) : tNext D σ H := h
theorem rd_cont (h : D.ct σ H) : tCont D σ H := h
theorem rd_asg (h : te σ H fun x H1 => g x σ H1 D.nx) : tAsg te g D σ H := h
theorem rd_gn {Q : L2.St → Hp → Prop} (h : Q (σ.set i (some v)) H) : gName i v σ H Q := h
theorem rd_drop (h : te σ H fun _ H1 => D.nx σ H1) : tDrop te D σ H := h
theorem rd_ret (h : te σ H D.rt) : tRet te D σ H := h
theorem rd_ifs (h : c σ H fun b H1 => if b = true then ts D σ H1 else us D σ H1) : tIfS c ts us D σ H := h
theorem rd_if (h : c σ H fun b H1 => if b = true then ta σ H1 Q else tb σ H1 Q) : tIf c ta tb σ H Q := h
theorem rd_test {Q : Bool → Hp → Prop} (h : te σ H fun x H1 => ∃ k, x = .bl k ∧ Q k H1) : tTest te σ H Q := h
theorem rd_tb {Q : Bool → Hp → Prop} (h : te σ H fun x H1 => ∃ k, x = .bl k ∧ Q k H1) : tB te σ H Q := h
theorem rd_and {Q : Bool → Hp → Prop} (h : t σ H fun b H1 => if b = true then u σ H1 Q else Q false H1) : tAnd t u σ H Q := h
theorem rd_or {Q : Bool → Hp → Prop} (h : t σ H fun b H1 => if b = true then Q true H1 else u σ H1 Q) : tOr t u σ H Q := h
theorem rd_not {Q : Bool → Hp → Prop} (h : t σ H fun b H1 => Q (!b) H1) : tNot t σ H Q := h
theorem rd_andV (h : ta σ H fun x H1 => ∃ b, x = .bl b ∧ if b = true then tb σ H1 Q else Q (.bl false) H1) : tAndV ta tb σ H Q := h
theorem rd_orV (h : ta σ H fun x H1 => ∃ b, x = .bl b ∧ if b = true then Q (.bl true) H1 else tb σ H1 Q) : tOrV ta tb σ H Q := h
theorem rd_notV (h : ta σ H fun x H1 => ∃ b, x = .bl b ∧ Q (.bl (!b)) H1) : tNotV ta σ H Q := h
theorem rd_chain {r r' : R2} (h : ta σ H fun x H1 => tb σ H1 fun y H2 => r x y H2 fun z H3 => ∃ k, z = .bl k ∧ (if k = true then tc σ H3 fun w' H4 => r' y w' H4 Q else Q (.bl false) H3)) : tChain r r' ta tb tc σ H Q := h
theorem rd_tup {t : TA} (h : t σ H fun xs H1 => xs.length ≤ sizeLine ∧ ∀ p, H1 p = none → Q (.ref p) (upd H1 p (.tup xs))) : tTup t σ H Q := h
theorem rd_lst {t : TA} (h : t σ H fun xs H1 => xs.length ≤ sizeLine ∧ ∀ p, H1 p = none → Q (.ref p) (upd H1 p (.lst xs))) : tLst t σ H Q := h
theorem rd_bm0 {T : String} {r : V → List V → Hp → VK → Prop} (h : ta σ H fun x H1 => tyV K T x H1 ∧ r x [] H1 Q) : tBM0 K T r ta σ H Q := h
theorem rd_bm {T : String} {r : V → List V → Hp → VK → Prop} {t : TA} (h : ta σ H fun x H1 => tyV K T x H1 ∧ t σ H1 fun xs H2 => r x xs H2 Q) : tBM K T r ta t σ H Q := h
theorem rd_sl {r : V → Option Int → Option Int → Hp → VK → Prop} {tl th : TO} (h : te σ H fun x H1 => tl σ H1 fun l H2 => th σ H2 fun u H3 => r x l u H3 Q) : tSl r te tl th σ H Q := h
theorem rd_part {Q : Option Int → Hp → Prop} (h : te σ H fun x H1 => ∃ i, x = .int i ∧ Q (some i) H1) : tPart te σ H Q := h
theorem rd_nopart {Q : Option Int → Hp → Prop} (h : Q none H) : tNoPart σ H Q := h
theorem rd_dget (h : ta σ H fun x H1 => tb σ H1 fun y H2 => ∃ a v, x = .ref a ∧ DGet H2 a y (some v) ∧ Q v H2) : tDGet ta tb σ H Q := h
theorem rd_dput (h : tc σ H fun v H1 => ta σ H1 fun x H2 => tb σ H2 fun y H3 => ∃ a H4, x = .ref a ∧ DPut H3 a y v H4 ∧ D.nx σ H4) : sDPut ta tb tc D σ H := h
theorem rd_isN (h : ta σ H fun x H1 => Q (.bl (decide (x = .non))) H1) : tIsN ta σ H Q := h
/-- answers -/
theorem rd_bl {b : Bool} {R : Bool → Prop} (h : R b) : ∃ k, V.bl b = .bl k ∧ R k := ⟨b, rfl, h⟩
theorem rd_int {j : Int} {R : Int → Prop} (h : R j) : ∃ k, V.int j = .int k ∧ R k := ⟨j, rfl, h⟩
theorem rd_I0 {f : Int → Int → V} {j k : Int} (h : Q (f j k) H) : rI0 f (.int j) (.int k) H Q := ⟨j, k, rfl, rfl, h⟩
theorem rd_I {C : Int → Int → Prop} {f : Int → Int → V} {j k : Int} (hc : C j k) (h : Q (f j k) H) : rI C f (.int j) (.int k) H Q := ⟨j, k, rfl, rfl, hc, h⟩
theorem rd_U {f : Int → V} {j : Int} (h : Q (f j) H) : rU f (.int j) H Q := ⟨j, rfl, h⟩
theorem rd_addI {j k : Int} (h : Q (.int (j + k)) H) : rAddU K (.int j) (.int k) H Q := .inl ⟨j, k, rfl, rfl, h⟩
theorem rd_mulI {j k : Int} (hc : CMul j k) (h : Q (.int (j * k)) H) : rMulU K (.int j) (.int k) H Q := .inl ⟨j, k, rfl, rfl, hc, h⟩
theorem rd_eqS (h : scal x y = true) (q : Q (.bl (decide (x = y))) H) : rEqU K x y H Q := .inl ⟨h, q⟩
theorem rd_neS (h : scal x y = true) (q : Q (.bl (!decide (x = y))) H) : rNeU K x y H Q := .inl ⟨h, q⟩
theorem rd_eqI {j k : Int} (q : Q (.bl (decide (j = k))) H) : rEqU K (.int j) (.int k) H Q := .inl ⟨rfl, by
  rw [show decide (V.int j = V.int k) = decide (j = k) from by simp]
  exact q⟩
theorem rd_neI {j k : Int} (q : Q (.bl (!decide (j = k))) H) : rNeU K (.int j) (.int k) H Q := .inl ⟨rfl, by
  rw [show decide (V.int j = V.int k) = decide (j = k) from by simp]
  exact q⟩
theorem rd_ite {b : Bool} {A B : Prop} (h1 : b = true → A) (h2 : b = false → B) : if b = true then A else B := by
  cases b with
  | true => exact h1 rfl
  | false => exact h2 rfl
theorem rd_new {o : HO} {R : V → Hp → Prop} (hl : H = H) (h : ∀ p, H p = none → R (.ref p) (upd H p o)) : ∀ p, H p = none → R (.ref p) (upd H p o) := h
theorem rd_lenT {p : Addr} {xs : List V} (h : SqT K H p xs) (q : Q (.int (xs.length : Int)) H) : ∃ x n, [V.ref p] = [x] ∧ LenV K x H n ∧ Q (.int (n : Nat)) H := ⟨_, _, rfl, Or.inr ⟨xs, h, rfl⟩, q⟩
theorem rd_lenL {p : Addr} {xs : List V} (h : SqL K H p xs) (q : Q (.int (xs.length : Int)) H) : ∃ x n, [V.ref p] = [x] ∧ LenV K x H n ∧ Q (.int (n : Nat)) H := ⟨_, _, rfl, Or.inl ⟨xs, h, rfl⟩, q⟩
theorem rd_ixT {p : Addr} {xs : List V} {i : Int} (h : SqT K H p xs) (ha : atI xs i = some v) (q : Q v H) : rIx K (.ref p) (.int i) H Q := .inr (.inl ⟨p, xs, i, v, rfl, rfl, h, ha, q⟩)
theorem rd_ixL {p : Addr} {xs : List V} {i : Int} (h : SqL K H p xs) (ha : atI xs i = some v) (q : Q v H) : rIx K (.ref p) (.int i) H Q := .inl ⟨p, xs, i, v, rfl, rfl, h, ha, q⟩
theorem rd_tupOfL {p : Addr} {xs : List V} (h : SqL K H p xs) (q : NewT H xs Q) : rTupOf K [.ref p] H Q := ⟨p, xs, rfl, .inl ⟨h, q⟩⟩
theorem rd_app {l : Addr} {xs : List V} (h : H l = some (.lst xs)) (hz : xs.length < sizeLine) (q : Q .non (upd H l (.lst (xs ++ [y])))) : tyV K "list" (.ref l) H ∧ rAppend (.ref l) [y] H Q := ⟨.inl ⟨rfl, _, .inl (.inl h)⟩, l, xs, y, rfl, rfl, h, hz, q⟩
theorem tyL {l : Addr} {xs : List V} (h : SqL K H l xs) : tyV K "list" (.ref l) H := .inl ⟨rfl, _, h⟩
end
end XC
namespace XC
open PySem PySem.Spec PyProof.Rows L2 XA XB
section
variable {X : Cx} {tg : Expr}
def iU (K : PySem.W.Frag) (tl : TE) : TI := fun σ H R => iList K tl σ H R ∨ iTup K tl σ H R
theorem pi_U {l : Expr} {tl : TE} (hl : PE X l tl) : PI X tg l (iU X.K tl) :=
  ⟨fun pins s σ H R I h => h.elim (fun h => (pi_list hl).run pins s σ H R I h) fun h => (pi_tup hl).run pins s σ H R I h⟩
end
/-! ### an exception class of the program -/
structure Xc (K : PySem.W.Frag) (mg : Str → Option Value) (x : Str) (C : Addr) : Prop where
  g : mg x = some (.ref C)
  x : PySem.W.excIn K C He.veBase "ValueError.__new__" = true
  k : PySem.W.keepIn K (.ref C) = true
  b : PySem.W.subIn K (.ref C) (.type "BaseException") = some true
  t : PySem.W.typeIn K (.ref C) = some (.type "type")
  c : ExcC K C
theorem pmkx {X : Cx} {C : Addr} {x : Str} {e : Expr} {ta : TE} {p pos : Pos} (T : Xc X.K X.mg x C) (hg : Gl X x) (he : PE X e ta) (hs : starEach [e] X.env = (false, eval e X.env) :: starEach [] X.env := by rfl) (hdb : (x == ("__debug__" : Str)) = false := by decide) :
    PMk X (.Call (.Name x p) [e] [] pos) (fun σ H Q => ta σ H fun _ H1 => Q (.ref C) none H1) := SkE.pmk_own1 PySem.F.excBase_ValueError T.x T.g T.k (raises_own T.b T.t) hg he hs hdb
/-! ### _law_caught -/
/-- what is made of the lambda's reading: None, or the error that it raised -/
def TCaught (K : PySem.W.Frag) (CS : Addr) : (XK → Hp → VK → Prop) → Hp → VK → Prop := fun tl H Q => ∀ (Ech : XK) (Q' : VK),
  (∀ cls d H', PySem.W.exmOne K cls (.ref CS) = some true → (∀ a, H' a = none → Q (.ref a) (upd H' a (ExV cls d a))) → Ech cls d H') → (∀ v H', Q .non H' → Q' v H') → tl Ech H Q'
/-- an expression whose value is dropped, told by its place alone -/
theorem caught_gives {X : Cx} {g CS : Addr} {cdg : Value} {sg : Scope} {q e : Str} {j : Nat} {p1 p2 p3 p4 p5 p6 p7 p8 p9 p10 p11 p12 p13 p14 p15 : Pos} (nd : (["action", "found", "error"] : List Str).Nodup) (hge : sg.names.lookup e = some .globalImplicit) (hme : X.mg e = some (.ref CS)) (hde : (e == ("__debug__" : Str)) = false)
    (hf : sg.names.lookup ("found" : Str) = some .local) (hr : sg.names.lookup ("error" : Str) = some .local) :
    LamX.GivesTo X ["action", "found", "error"] "_law_caught" sg g cdg [.Assign [.Name "found" p1] (.Constant .none j p2) p3,
      .Try [.Expr (.Call (.Name "action" p4) [] [] p5) p6] [.ExceptHandler (some (.Name e p7)) (some "error") [.Assign [.Name "found" p8] (.Name "error" p9) p10] p11] [] [] p12,
      .Return (some (.Name "found" p13)) p14] "action" q (TCaught X.K CS) := by
  intro f c' s H Q tl act hc h
  let Y : Cx := (cxOf C8.CX0 X.prog X.w X.K X.mg X.base ["action", "found", "error"] "_law_caught" sg g cdg X.A X.stack s H C8.E0).nox
  have hgl : Gl Y e := hge
  have body : ∀ (W : WX) (pn : List (Addr × Obj)) (xe : Value → Shared → Prop), Takes (Y.tr pn xe) W → PassesOwn (model Y.prog Y.w) Y.A Y.env xe →
      PSs (Y.tr pn xe) [.Expr (.Call (.Name "action" p4) [] [] p5) p6] (fun D σ H => ∃ Ech : XK, (∀ cls d (σ' : L2.St) H', σ'.length = 3 → Ech cls d H' → W cls d σ' H') ∧ σ[0]? = some (some (.ref f)) ∧ H c' = some (LamX.CodeO c' q) ∧ tl Ech H fun _ H' => D.nx σ H') := by
    intro W pn xe tk hp
    refine ⟨fun pins s1 σ1 H1 D I h1 => ?_⟩
    obtain ⟨Ech, hW, h2, h3, h4⟩ := h1
    have tk2 : Takes (Y.tr pn xe) (fun cls d σ' H' => σ'.length = 3 → W cls d σ' H') := fun u s' ⟨a, B, sI, pins', σ', H', cls, d, e1, I', nb, up, sky, na, os, ag, w⟩ =>
      tk u s' ⟨a, B, sI, pins', σ', H', cls, d, e1, I', nb, up, sky, na, os, ag, w I'.len⟩
    have hp := act (fun cls d σ' H' => σ'.length = 3 → W cls d σ' H') pn xe Ech p4 p5 tk2 fun cls d σ' H' q l => hW cls d σ' H' l q
    exact (pss_one (ps_expr (pos := p6) hp)).run pins s1 σ1 H1 D I ⟨h2, h3, h4⟩
  have suite : ∀ (a : Addr) (oe : Obj) (cls : Value) (d : Option Addr) (pn : List (Addr × Obj)), Zc cls d oe → (∃ vs, oe.data = .fields vs) → PSs (Y.suite a ((a, oe) :: pn)) [.Assign [.Name "found" p8] (.Name "error" p9) p10] (tAsg (tVar 2) (gName 1)) := fun a oe cls d pn _ _ =>
    pss_one (ps_set (X := Y.suite a ((a, oe) :: pn)) (i := 1) nd rfl (.inl hf) (pe_var (X := Y.suite a ((a, oe) :: pn)) (i := 2) rfl (.inl hr)) (hf := .inr hf))
  refine ⟨_, pss_cons (ps_set (X := Y) (i := 1) nd rfl (.inl hf) pe_non (hf := .inr hf))
    (pss_cons (ps_try_asV (X := Y) (i := 2) (c := .ref CS) rfl rfl rfl nd rfl hr ⟨hgl, hde, .inl hme⟩ L2.takes0 body suite)
    (pss_one (ps_ret (pe_var (X := Y) (i := 1) rfl (.inl hf))))), ?_⟩
  refine ⟨fun cls d H' => PySem.W.exmOne X.K cls (.ref CS) = some true ∧ ∀ a, H' a = none → Q (.ref a) (upd H' a (ExV cls d a)), fun cls d σ' H' hl w => ?_, rfl, hc, ?_⟩
  · obtain ⟨m, k⟩ := w
    refine ⟨true, m, fun _ a ha => ?_, fun z => nomatch z⟩
    have l2 : 2 < σ'.length := by omega
    refine ⟨.ref a, ?_, ?_⟩
    · rw [List.getElem?_set_self l2]
    · refine ⟨.ref a, ?_, k a ha⟩
      rw [List.getElem?_set_ne (by decide), List.getElem?_set_self (by simp only [List.length_set]; omega)]
  · exact h _ _ (fun cls d H' m k => ⟨m, k⟩) fun v H' q => ⟨.non, rfl, q⟩
end XC

/-! XM: free reduction of lists of whole numbers; core Lean only. -/
namespace XM
/-- a letter comes onto a stack: it goes away with its undo, or lies on top -/
def push : List Int → Int → List Int
  | [], x => [x]
  | y :: r, x => if y = -x then r else x :: y :: r
def stack (st xs : List Int) : List Int := xs.foldl push st
def red (xs : List Int) : List Int := (stack [] xs).reverse
theorem push_c {y x : Int} (r : List Int) (e : y = -x) : push (y :: r) x = r := by
  show (if y = -x then r else x :: y :: r) = r
  rw [if_pos e]
theorem push_n {y x : Int} (r : List Int) (e : ¬ y = -x) : push (y :: r) x = x :: y :: r := by
  show (if y = -x then r else x :: y :: r) = x :: y :: r
  rw [if_neg e]
/-- no neighbours that undo one another -/
def Ok : List Int → Prop
  | [] => True
  | [_] => True
  | y :: z :: r => y ≠ -z ∧ Ok (z :: r)
theorem Ok.tail : ∀ {y : Int} {r : List Int}, Ok (y :: r) → Ok r
  | _, [], _ => trivial
  | _, _ :: _, h => h.2
theorem ok_push {st : List Int} (h : Ok st) (x : Int) : Ok (push st x) := by
  cases st with
  | nil => trivial
  | cons y r =>
    by_cases e : y = -x
    · rw [push_c r e]; exact h.tail
    · rw [push_n r e]; exact ⟨fun z => e (by omega), h⟩
theorem ok_stack : ∀ (xs : List Int) {st : List Int}, Ok st → Ok (stack st xs)
  | [], _, h => h
  | x :: xs, _, h => ok_stack xs (ok_push h x)
theorem push_back {st : List Int} (h : Ok st) (x : Int) : push (push st x) (-x) = st := by
  cases st with
  | nil => exact push_c [] (by omega)
  | cons y r =>
    by_cases e : y = -x
    · rw [push_c r e]
      cases r with
      | nil => rw [e]; rfl
      | cons z r =>
        have hz : ¬ z = - -x := fun q => h.1 (by omega)
        rw [push_n r hz, e]
    · rw [push_n r e]
      exact push_c (y :: r) (by omega)
theorem stack_append (st xs ys : List Int) : stack st (xs ++ ys) = stack (stack st xs) ys := by
  unfold stack; rw [List.foldl_append]
theorem stack_snoc (st xs : List Int) (x : Int) : stack st (xs ++ [x]) = push (stack st xs) x := by
  rw [stack_append]; rfl
/-- the reduced word acts on stacks as the word does -/
theorem stack_red : ∀ (n : Nat) (xs : List Int), xs.length = n → ∀ {st : List Int}, Ok st → stack st (red xs) = stack st xs := by
  intro n
  induction n with
  | zero =>
    intro xs h st _
    have e : xs = [] := List.eq_nil_of_length_eq_zero h
    subst e; rfl
  | succ n ih =>
    intro xs h st hs
    obtain ⟨zs, x, rfl⟩ : ∃ zs x, xs = zs ++ [x] := by
      cases hx : xs.reverse with
      | nil =>
        have : xs = [] := by simpa using hx
        subst this; simp at h
      | cons x r => exact ⟨r.reverse, x, by rw [← List.reverse_reverse xs, hx, List.reverse_cons]⟩
    have hz : zs.length = n := by simpa using h
    have e1 := ih zs hz hs
    rw [stack_snoc, ← e1]
    show stack st (stack [] (zs ++ [x])).reverse = push (stack st (stack [] zs).reverse) x
    rw [stack_snoc]
    cases hk : stack [] zs with
    | nil => rfl
    | cons y r =>
      by_cases e : y = -x
      · rw [push_c r e, List.reverse_cons, stack_snoc, e]
        have hr : Ok (stack st r.reverse) := ok_stack _ hs
        have := push_back hr (-x)
        rw [Int.neg_neg] at this
        exact this.symm
      · rw [push_n r e, List.reverse_cons, stack_snoc]
theorem act (xs : List Int) {st : List Int} (h : Ok st) : stack st (red xs) = stack st xs := stack_red _ xs rfl h
theorem red_red (xs : List Int) : red (red xs) = red xs := by
  show (stack [] (red xs)).reverse = _
  rw [act xs (st := []) True.intro]; rfl
theorem red_left (xs ys : List Int) : red (red xs ++ ys) = red (xs ++ ys) := by
  unfold red
  rw [stack_append, stack_append]
  have := act xs (st := []) True.intro
  unfold red at this
  rw [this]
theorem red_right (xs ys : List Int) : red (xs ++ red ys) = red (xs ++ ys) := by
  show (stack [] (xs ++ red ys)).reverse = (stack [] (xs ++ ys)).reverse
  rw [stack_append, stack_append, act ys (ok_stack xs (st := []) True.intro)]
/-! ### lengths, letters, counts -/
theorem push_len (st : List Int) (x : Int) : (push st x).length ≤ st.length + 1 := by
  cases st with
  | nil => simp [push]
  | cons y r =>
    by_cases e : y = -x
    · rw [push_c r e, List.length_cons]; omega
    · rw [push_n r e, List.length_cons]; omega
theorem stack_len : ∀ (xs st : List Int), (stack st xs).length ≤ st.length + xs.length
  | [], st => by simp [stack]
  | x :: xs, st => by
    have h1 := stack_len xs (push st x)
    have h2 := push_len st x
    show (stack (push st x) xs).length ≤ _
    simp only [List.length_cons]; omega
theorem red_len (xs : List Int) : (red xs).length ≤ xs.length := by
  have := stack_len xs []
  simpa [red] using this
theorem push_mem {st : List Int} {x z : Int} (h : z ∈ push st x) : z ∈ st ∨ z = x := by
  cases st with
  | nil => exact .inr (List.mem_singleton.mp h)
  | cons y r =>
    by_cases e : y = -x
    · rw [push_c r e] at h
      exact .inl (List.mem_cons_of_mem _ h)
    · rw [push_n r e] at h
      rcases List.mem_cons.mp h with e | e
      · exact .inr e
      · exact .inl e
theorem stack_mem : ∀ {xs st : List Int} {z : Int}, z ∈ stack st xs → z ∈ st ∨ z ∈ xs
  | [], _, _, h => .inl h
  | x :: xs, st, z, h => by
    rcases stack_mem (xs := xs) (st := push st x) h with q | q
    · rcases push_mem q with q | q
      · exact .inl q
      · exact .inr (by rw [q]; exact List.mem_cons_self)
    · exact .inr (List.mem_cons_of_mem _ q)
theorem red_mem {xs : List Int} {z : Int} (h : z ∈ red xs) : z ∈ xs := by
  unfold red at h
  rcases stack_mem (List.mem_reverse.mp h) with q | q
  · cases q
  · exact q
/-- how often a letter stands, less how often its undo -/
def bal (d : Int) (xs : List Int) : Int := (xs.count d : Int) - (xs.count (-d) : Int)
theorem bal_cons (d x : Int) (xs : List Int) (hd : d ≠ 0) : bal d (x :: xs) = bal d xs + (if x = d then 1 else if x = -d then -1 else 0) := by
  unfold bal
  rw [List.count_cons, List.count_cons]
  by_cases h1 : x = d
  · subst h1
    have h2 : ¬ x = -x := fun z => hd (by omega)
    simp [h2]; omega
  · by_cases h2 : x = -d
    · have h3 : ¬ (-d = d) := fun z => hd (by omega)
      subst h2
      simp [h3]; omega
    · simp [h1, h2]
theorem bal_push (d : Int) (hd : d ≠ 0) (st : List Int) (x : Int) : bal d (push st x) = bal d st + (if x = d then 1 else if x = -d then -1 else 0) := by
  cases st with
  | nil => exact bal_cons d x [] hd
  | cons y r =>
    by_cases e : y = -x
    · rw [push_c r e, bal_cons d y r hd]
      subst e
      by_cases h1 : x = d
      · subst h1
        have h3 : ¬ (-x = x) := fun z => hd (by omega)
        rw [if_neg h3, if_pos rfl, if_pos rfl]; omega
      · by_cases h2 : x = -d
        · have h3 : -x = d := by omega
          rw [if_pos h3, if_neg h1, if_pos h2]; omega
        · have h3 : ¬ (-x = d) := fun z => h2 (by omega)
          have h4 : ¬ (-x = -d) := fun z => h1 (by omega)
          rw [if_neg h3, if_neg h4, if_neg h1, if_neg h2]; omega
    · rw [push_n r e, bal_cons d x (y :: r) hd]
theorem bal_stack (d : Int) (hd : d ≠ 0) : ∀ (xs st : List Int), bal d (stack st xs) = bal d st + bal d xs
  | [], st => by simp [stack, bal]
  | x :: xs, st => by
    show bal d (stack (push st x) xs) = _
    rw [bal_stack d hd xs (push st x), bal_push d hd, bal_cons d x xs hd]; omega
theorem bal_rev (d : Int) (xs : List Int) : bal d xs.reverse = bal d xs := by
  unfold bal; rw [List.count_reverse, List.count_reverse]
theorem bal_red (d : Int) (hd : d ≠ 0) (xs : List Int) : bal d (red xs) = bal d xs := by
  unfold red
  rw [bal_rev, bal_stack d hd]; simp [bal]
/-- undone -/
def inv (xs : List Int) : List Int := xs.reverse.map fun x => -x
theorem inv_len (xs : List Int) : (inv xs).length = xs.length := by simp [inv]
theorem red_nil : red [] = [] := rfl
end XM

set_option linter.all false
set_option maxRecDepth 100000
set_option maxHeartbeats 4000000
/-! XD: data, comprehensions without side effects, heaps. -/
namespace XD
open PySem PySem.Spec PyProof.Rows L2 XA XB XC
theorem sqT_same {K : PySem.W.Frag} {H H' : Hp} {a : Addr} {xs : List V} (e : Same H H') (h : SqT K H a xs) : SqT K H' a xs := by
  rcases h with (h | ⟨o, h⟩) | h
  · exact .inl (.inl (e _ _ h))
  · exact .inl (.inr ⟨o, e _ _ h⟩)
  · exact .inr h
theorem same_new {H : Hp} {p : Addr} {o : HO} (h : H p = none) : Same H (upd H p o) := fun b u q => by
  rw [upd_ne (ne_of_none q h)]
  exact q
/-- an object that wasn't there ahead may change -/
theorem same_mut {H H' : Hp} {p : Addr} {o : HO} (e : Same H H') (h : H p = none) : Same H (upd H' p o) := fun b u q => by
  rw [upd_ne (ne_of_none q h)]
  exact e _ _ q
theorem lz {n : Nat} (h : n ≤ 100000) : n ≤ sizeLine := Nat.le_trans h (by decide)
theorem lzl {n : Nat} (h : n < 100000) : n < sizeLine := Nat.lt_of_lt_of_le h (by decide)
/-! ### a comprehension whose parts change nothing that was there -/
theorem lc_pure {J : It} {n : Nat} {G : Hp → Prop} {Y : Nat → Hp → V → Hp → Prop} (w : L2.Walk J n G Y) {g : TG} {tt : TT} {te : TE} {vs : List Nat} {σ : L2.St} {H1 : Hp} {D : Addr} {Qd : Hp → Prop} (hD : H1 D = none) (its : List V) (p : V → Bool) (f : V → V)
    (hn : its.length = n) (hz : n < 100000) (hG : ∀ H', Same H1 H' → G H') (hY : ∀ i H x H', i < n → Y i H x H' → H' = H ∧ its[i]? = some x)
    (hs : ∀ x H', x ∈ its → Same H1 H' → ∀ (R : V → Hp → Prop) (R0 : Hp → Prop), (p x = true → ∀ H'', Same H' H'' → R (f x) H'') → (p x = false → ∀ H'', Same H' H'' → R0 H'') →
      g x (wipe σ vs) H' fun σ2 H2 => wipe σ2 vs = wipe σ vs ∧ tt σ2 H2 fun b H3 => if b = true then te σ2 H3 R else R0 H3)
    (hd : ∀ H', Same H1 H' → H' D = some (.lst ((its.filter p).map f)) → Qd H') :
    ∃ W : Nat → Nat → Hp → Prop, (∃ m, W 0 m (upd H1 D (.lst []))) ∧ ∀ i m H, W i m H →
      (J.stop i H ∧ Qd H) ∨ (J.go i H ∧ ∃ Nx : Hp → Prop, (∀ H', Nx H' → ∃ m', m' < m ∧ W (i + 1) m' H') ∧ ∀ x H', J.yld i H x H' → g x (wipe σ vs) H' fun σ2 H2 => wipe σ2 vs = wipe σ vs ∧ tt σ2 H2 fun b H3 =>
        if b = true then te σ2 H3 fun y H4 => ∃ acc, H4 D = some (.lst acc) ∧ acc.length < sizeLine ∧ Nx (upd H4 D (.lst (acc ++ [y]))) else Nx H3) := by
  have hl : ∀ i, ((((its.take i).filter p).map f).length) ≤ n := fun i => by
    rw [List.length_map, ← hn]
    exact Nat.le_trans (List.length_filter_le _ _) (by rw [List.length_take]; omega)
  refine lc_it w (fun i H => Same H1 H ∧ H D = some (.lst (((its.take i).filter p).map f))) ⟨same_new hD, upd_same⟩ (fun i H _ h => hG H h.1) (fun i x H H' hi h y => ?_) fun H h => ?_
  · obtain ⟨rfl, hx⟩ := hY i H x _ hi y
    have et : its.take (i + 1) = its.take i ++ [x] := by rw [List.take_add_one, hx] <;> rfl
    refine hs x _ (List.mem_of_getElem? hx) h.1 _ _ (fun hp H'' e => ⟨_, e _ _ h.2, lzl (Nat.lt_of_le_of_lt (hl i) hz), same_mut (h.1.trans e) hD, ?_⟩) (fun hp H'' e => ⟨h.1.trans e, ?_⟩)
    · rw [upd_same, et, List.filter_append, List.map_append]
      simp [List.filter, hp]
    · rw [e _ _ h.2, et, List.filter_append]
      simp [List.filter, hp]
  · refine hd H h.1 ?_
    rw [h.2, ← hn, List.take_length]
theorem walk_revT {K : PySem.W.Frag} {a : Addr} {xs : List V} : L2.Walk (RT.ItvT K a xs.length) xs.length (fun H => SqT K H a xs) (fun i H x H' => H' = H ∧ xs.reverse[i]? = some x) := by
  refine ⟨fun i _ hi q => ⟨hi, xs, xs[xs.length - 1 - i]'(by omega), q, by simp [show xs.length - 1 - i < xs.length by omega]⟩, fun _ _ => Nat.le_refl _, fun i _ x _ hi q y => ⟨y.1, ?_⟩⟩
  rw [List.getElem?_reverse hi]
  exact y.2 xs q
/-! ### values of any kind -/
inductive Dat where
  | flat (v : V)
  | tup (xs : List V)
  | lst (xs : List V)
  | dct
def plainV : V → Bool
  | .non => true
  | .bl _ => true
  | .int _ => true
  | .str _ => true
  | _ => false
/-- what a tuple holds: plain values, and not too many -/
def okB (xs : List V) : Bool := xs.all plainV && decide (xs.length ≤ 20000)
theorem okB_all {xs : List V} (h : okB xs = true) : xs.all plainV = true := (Bool.and_eq_true_iff.mp h).1
theorem okB_len {xs : List V} (h : okB xs = true) : xs.length ≤ 20000 := of_decide_eq_true (Bool.and_eq_true_iff.mp h).2
theorem okI {xs : List Int} (h : xs.length ≤ 20000) : okB (xs.map V.int) = true := Bool.and_eq_true_iff.mpr ⟨by simp [List.all_map, plainV], decide_eq_true (by rw [List.length_map]; exact h)⟩
def Rp (K : PySem.W.Frag) (H : Hp) (v : V) : Dat → Prop
  | .flat u => v = u ∧ plainV u = true
  | .tup xs => ∃ a, v = .ref a ∧ SqT K H a xs ∧ okB xs = true
  | .lst xs => ∃ a, v = .ref a ∧ SqL K H a xs
  | .dct => ∃ a kvs, v = .ref a ∧ H a = some (.dK kvs) ∧ kvs.length ≤ 1
theorem Rp.same {K : PySem.W.Frag} {H H' : Hp} {v : V} {d : Dat} (h : Rp K H v d) (e : Same H H') : Rp K H' v d := by
  cases d with
  | flat u => exact h
  | tup xs => obtain ⟨a, q, r, z⟩ := h; exact ⟨a, q, sqT_same e r, z⟩
  | lst xs => obtain ⟨a, q, r⟩ := h; exact ⟨a, q, e.seq r⟩
  | dct => obtain ⟨a, kvs, q, r, z⟩ := h; exact ⟨a, kvs, q, e _ _ r, z⟩
def Dat.ty : Dat → String
  | .flat .non => "NoneType"
  | .flat (.bl _) => "bool"
  | .flat (.int _) => "int"
  | .flat (.str _) => "str"
  | .flat _ => "object"
  | .tup _ => "tuple"
  | .lst _ => "list"
  | .dct => "dict"
theorem Rp.ty {K : PySem.W.Frag} {H : Hp} {v : V} {d : Dat} (h : Rp K H v d) : TyX K H v (.type d.ty) := by
  cases d with
  | flat u =>
    obtain ⟨rfl, hp⟩ := h
    cases v with
    | non => exact .base .non
    | bl b => exact .base (.bl b)
    | int i => exact .base (.int i)
    | str x => exact .base (.str x)
    | _ => cases hp
  | tup xs =>
    obtain ⟨a, rfl, (q | ⟨o, q⟩) | q, _⟩ := h
    · exact .base (.tup q)
    · exact .fTuple q
    · obtain ⟨o, its, n, e, c, _⟩ := q
      exact .kTuple e c
  | lst xs =>
    obtain ⟨a, rfl, (q | ⟨o, q⟩) | q⟩ := h
    · exact .base (.lst q)
    · exact .base (.frz q)
    · obtain ⟨o, its, n, e, c, _⟩ := q
      exact .kList e c
  | dct =>
    obtain ⟨a, kvs, rfl, q, _⟩ := h
    exact .base (.dK q)
/-- isinstance(v, T) -/
theorem rd_isT {K : PySem.W.Frag} {H : Hp} {v : V} {d : Dat} {T : String} {b : Bool} {Q : VK} (h : Rp K H v d) (e : kitB d.ty T = some b) (q : Q (.bl b) H) : rIsU K [v, .ty T] H Q :=
  .inl ⟨v, .ty T, .type d.ty, .type T, b, rfl, .ty T, h.ty, kit_ty e, q⟩
def Dat.isI : Dat → Bool
  | .flat (.int _) => true
  | .flat (.bl _) => true
  | _ => false
def Dat.isB : Dat → Bool
  | .flat (.bl _) => true
  | _ => false
def Dat.isT : Dat → Bool
  | .tup _ => true
  | _ => false
theorem kit_int (d : Dat) : kitB d.ty "int" = some d.isI := by
  cases d with
  | flat v => cases v <;> (simp only [Dat.ty, Dat.isI]; decide +kernel)
  | tup xs => simp only [Dat.ty, Dat.isI]; decide +kernel
  | lst xs => simp only [Dat.ty, Dat.isI]; decide +kernel
  | dct => simp only [Dat.ty, Dat.isI]; decide +kernel
theorem kit_bool (d : Dat) : kitB d.ty "bool" = some d.isB := by
  cases d with
  | flat v => cases v <;> (simp only [Dat.ty, Dat.isB]; decide +kernel)
  | tup xs => simp only [Dat.ty, Dat.isB]; decide +kernel
  | lst xs => simp only [Dat.ty, Dat.isB]; decide +kernel
  | dct => simp only [Dat.ty, Dat.isB]; decide +kernel
theorem kit_tuple (d : Dat) : kitB d.ty "tuple" = some d.isT := by
  cases d with
  | flat v => cases v <;> (simp only [Dat.ty, Dat.isT]; decide +kernel)
  | tup xs => simp only [Dat.ty, Dat.isT]; decide +kernel
  | lst xs => simp only [Dat.ty, Dat.isT]; decide +kernel
  | dct => simp only [Dat.ty, Dat.isT]; decide +kernel
/-- a whole number, no truth value -/
def Dat.whole (d : Dat) : Bool := d.isI && !d.isB
theorem Dat.whole_int {d : Dat} (h : d.whole = true) : ∃ i, d = .flat (.int i) := by
  cases d with
  | flat v => cases v <;> first | exact ⟨_, rfl⟩ | (simp [Dat.whole, Dat.isI, Dat.isB] at h)
  | tup xs => simp [Dat.whole, Dat.isI] at h
  | lst xs => simp [Dat.whole, Dat.isI] at h
  | dct => simp [Dat.whole, Dat.isI] at h
/-- a whole from lo to hi -/
def Dat.from (d : Dat) (lo hi : Int) : Bool := match d with
  | .flat (.int i) => decide (lo ≤ i) && decide (i ≤ hi)
  | _ => false
theorem Dat.from_no {d : Dat} {lo hi : Int} (h : d.whole = false) : d.from lo hi = false := by
  cases d with
  | flat v => cases v <;> first | rfl | (simp [Dat.whole, Dat.isI, Dat.isB] at h)
  | tup xs => rfl
  | lst xs => rfl
  | dct => rfl
def letV (n : Int) : V → Bool
  | .int i => decide (-n ≤ i) && decide (i ≤ n) && !decide (i = 0)
  | _ => false
/-- a letter of n deeds -/
def Dat.letter (n : Int) (d : Dat) : Bool := match d with
  | .flat v => letV n v
  | _ => false
theorem Dat.letter_no {n : Int} {d : Dat} (h : d.from (-n) n = false) : d.letter n = false := by
  cases d with
  | flat v =>
    cases v with
    | int i =>
      have h : (decide (-n ≤ i) && decide (i ≤ n)) = false := h
      show (decide (-n ≤ i) && decide (i ≤ n) && !decide (i = 0)) = false
      rw [h] <;> rfl
    | _ => rfl
  | tup xs => rfl
  | lst xs => rfl
  | dct => rfl
theorem Dat.from_int {d : Dat} {lo hi : Int} (h : d.from lo hi = true) : ∃ i, d = .flat (.int i) ∧ lo ≤ i ∧ i ≤ hi := by
  cases d with
  | flat v =>
    cases v with
    | int i =>
      have h : (decide (lo ≤ i) && decide (i ≤ hi)) = true := h
      simp only [Bool.and_eq_true, decide_eq_true_eq] at h
      exact ⟨i, rfl, h⟩
    | _ => cases h
  | tup xs => cases h
  | lst xs => cases h
  | dct => cases h
/-- letters of n deeds alone -/
def Dat.lets (n : Int) (d : Dat) : Bool := match d with
  | .tup xs => xs.all (letV n)
  | _ => false
/-- a row of n deeds -/
def Dat.row (n : Int) (d : Dat) : Bool := match d with
  | .tup xs => decide (xs.length ≤ 200) && xs.all (letV n)
  | _ => false
end XD
namespace XD
open PySem PySem.Spec PyProof.Rows L2 XA XB XC
section
variable {K : PySem.W.Frag} {a : Addr} {xs : List V} {g : TG} {tb : TS} {D : Ends} {σ : L2.St} {H : Hp} {i : Nat}
theorem forT (Pv : Nat → L2.St → Hp → Prop) (hv : σ[i]? = some (some (.ref a))) (hS : SqT K H a xs) (h0 : Pv 0 σ H) (hl : ∀ i σ H, i ≤ xs.length → Pv i σ H → SqT K H a xs)
    (hs : ∀ i x σ H, xs[i]? = some x → Pv i σ H → g x σ H fun σ2 H2 => tb { D with nx := Pv (i + 1), ct := Pv (i + 1), bk := D.nx } σ2 H2) (hd : ∀ σ H, Pv xs.length σ H → D.nx σ H) : tFor (iU K (tVar i)) g tb D σ H :=
  Or.inr ⟨.ref a, hv, a, rfl, ⟨xs, hS⟩, for_tup Pv h0 hl hs hd⟩
theorem forL (Pv : Nat → L2.St → Hp → Prop) (hv : σ[i]? = some (some (.ref a))) (hS : SqL K H a xs) (h0 : Pv 0 σ H) (hl : ∀ i σ H, i ≤ xs.length → Pv i σ H → SqL K H a xs)
    (hs : ∀ i x σ H, xs[i]? = some x → Pv i σ H → g x σ H fun σ2 H2 => tb { D with nx := Pv (i + 1), ct := Pv (i + 1), bk := D.nx } σ2 H2) (hd : ∀ σ H, Pv xs.length σ H → D.nx σ H) : tFor (iU K (tVar i)) g tb D σ H :=
  Or.inl ⟨.ref a, hv, a, rfl, ⟨xs, hS⟩, for_list Pv h0 hl hs hd⟩
end
theorem rd_lc {wi : TI} {g : TG} {tt : TT} {te : TE} {vs : List Nat} {σ : L2.St} {H : Hp} {Q : VK} (h : wi σ H fun J H1 => ∀ D, H1 D = none → ∃ W : Nat → Nat → Hp → Prop, (∃ m, W 0 m (upd H1 D (.lst []))) ∧ ∀ i m H, W i m H →
      (J.stop i H ∧ Q (.ref D) H) ∨ (J.go i H ∧ ∃ Nx : Hp → Prop, (∀ H', Nx H' → ∃ m', m' < m ∧ W (i + 1) m' H') ∧ ∀ x H', J.yld i H x H' → g x (wipe σ vs) H' fun σ2 H2 => wipe σ2 vs = wipe σ vs ∧ tt σ2 H2 fun b H3 =>
        if b = true then te σ2 H3 fun y H4 => ∃ acc, H4 D = some (.lst acc) ∧ acc.length < sizeLine ∧ Nx (upd H4 D (.lst (acc ++ [y]))) else Nx H3)) : tLc wi g tt te vs σ H Q := h
theorem rd_yes {σ : L2.St} {H : Hp} {Q : Bool → Hp → Prop} (h : Q true H) : tYes σ H Q := h
/-- a value's truth as a test -/
def tTru (K : PySem.W.Frag) (te : TE) : TT := fun σ H Q => te σ H fun x H' => ∃ k, TruV K x H' k ∧ Q k H'
theorem pt_tru {X : Cx} {a : Expr} {ta : TE} (ha : PE X a ta) (he : ∀ whole, isTrue a X.env whole = (do let v ← whole; standAt a.pos; holding [v] (truthy v))) : PT X a (tTru X.K ta) := pt_truth ha he
theorem rd_tru {K : PySem.W.Frag} {te : TE} {σ : L2.St} {H : Hp} {Q : Bool → Hp → Prop} (h : te σ H fun x H' => ∃ k, TruV K x H' k ∧ Q k H') : tTru K te σ H Q := h
theorem item_of {ns : List Int} {i : Nat} {y : V} (hi : (ns.map V.int)[i]? = some y) : ∃ z, ns[i]? = some z ∧ y = .int z := by
  rw [List.getElem?_map] at hi
  cases e : ns[i]? with
  | none => rw [e] at hi; cases hi
  | some z => rw [e] at hi; exact ⟨z, rfl, (Option.some.inj hi).symm⟩
theorem take_more {α : Type} {l : List α} {i : Nat} {x : α} (h : l[i]? = some x) : l.take (i + 1) = l.take i ++ [x] := by
  rw [List.take_add_one, h] <;> rfl
/-- truth of a list -/
theorem truL {K : PySem.W.Frag} {H : Hp} {a : Addr} {xs : List V} {R : Bool → Prop} (h : SqL K H a xs) (q : R (!xs.isEmpty)) : ∃ k, TruV K (.ref a) H k ∧ R k := ⟨_, .inl ⟨xs, h, rfl⟩, q⟩
theorem truB {K : PySem.W.Frag} {H : Hp} {b : Bool} {R : Bool → Prop} (q : R b) : ∃ k, TruV K (.bl b) H k ∧ R k := ⟨_, rfl, q⟩
theorem lenT {K : PySem.W.Frag} {H : Hp} {p : Addr} {xs : List V} {R : Nat → Prop} (h : SqT K H p xs) (q : R xs.length) : ∃ x n, [V.ref p] = [x] ∧ LenV K x H n ∧ R n := ⟨_, _, rfl, Or.inr ⟨xs, h, rfl⟩, q⟩
theorem lenL {K : PySem.W.Frag} {H : Hp} {p : Addr} {xs : List V} {R : Nat → Prop} (h : SqL K H p xs) (q : R xs.length) : ∃ x n, [V.ref p] = [x] ∧ LenV K x H n ∧ R n := ⟨_, _, rfl, Or.inl ⟨xs, h, rfl⟩, q⟩
theorem app {l : Addr} {xs : List V} {y : V} {H : Hp} {Q : VK} (h : H l = some (.lst xs)) (hz : xs.length < 100000) (q : Q .non (upd H l (.lst (xs ++ [y])))) : rAppend (.ref l) [y] H Q := ⟨l, xs, y, rfl, rfl, h, lzl hz, q⟩
theorem tyl {K : PySem.W.Frag} {H : Hp} {l : Addr} {xs : List V} (h : H l = some (.lst xs)) : tyV K "list" (.ref l) H := tyL (.inl (.inl h))
theorem atI_last2 {α : Type} {xs : List α} {x : α} (h : xs.getLast? = some x) : atI xs (-1) = some x := by
  obtain ⟨ys, rfl⟩ := List.getLast?_eq_some_iff.mp h
  exact atI_last ys x
end XD

namespace XD
open PySem PySem.Spec PyProof.Rows L2 XA XB XC
/-! ### raise C(f'..') -/
/-- a text of written parts: it changes nothing -/
def Still (ta : TE) : Prop := ∀ (σ : L2.St) (H : Hp) (Q : VK), (∀ x, Q x H) → ta σ H Q
theorem ps_raiseX {X : Cx} {W : WX} {C : Addr} {x : Str} {e : Expr} {ta : TE} {p pos pos2 : Pos} (T : Xc X.K X.mg x C) (hg : Gl X x) (he : PE X e ta) (hst : Still ta) (tk : Takes X W) (hc : X.calm = true := by rfl)
    (hs : starEach [e] X.env = (false, eval e X.env) :: starEach [] X.env := by rfl) (hdb : (x == ("__debug__" : Str)) = false := by decide) :
    PS X (.Raise (some (.Call (.Name x p) [e] [] pos)) none pos2) (fun _ σ H => W (.ref C) none σ H) := by
  refine ⟨fun pins s σ H D I h => ?_⟩
  exact (ps_raise hc tk (pmkx T hg he hs hdb)).run pins s σ H D I (hst σ H _ fun _ => h)
abbrev tJ (ts : List TE) : TE := fun σ H Q => tJs ts Str.empty σ H fun out H1 => Q (.str out) H1
theorem still2 {a : Str} {i : Int} (h1 : (Str.empty ++ a).length ≤ sizeLine) (hi : i.natAbs.log2 < 1920) (h2 : (Str.empty ++ a ++ (toString i : Str)).length ≤ sizeLine) : Still (tJ [tC (.str a), tFmt (tC (.int i))]) :=
  fun _ _ _ q => ⟨a, rfl, h1, .inr ⟨i, rfl, hi, _, rfl, h2, q _⟩⟩
theorem still4 {a b : Str} {i j : Int} (h1 : (Str.empty ++ a).length ≤ sizeLine) (hi : i.natAbs.log2 < 1920) (h2 : (Str.empty ++ a ++ (toString i : Str)).length ≤ sizeLine) (h3 : (Str.empty ++ a ++ (toString i : Str) ++ b).length ≤ sizeLine) (hj : j.natAbs.log2 < 1920)
    (h4 : (Str.empty ++ a ++ (toString i : Str) ++ b ++ (toString j : Str)).length ≤ sizeLine) : Still (tJ [tC (.str a), tFmt (tC (.int i)), tC (.str b), tFmt (tC (.int j))]) :=
  fun _ _ _ q => ⟨a, rfl, h1, .inr ⟨i, rfl, hi, _, rfl, h2, b, rfl, h3, .inr ⟨j, rfl, hj, _, rfl, h4, q _⟩⟩⟩
theorem still3 {a b : Str} {i : Int} (h1 : (Str.empty ++ a).length ≤ sizeLine) (hi : i.natAbs.log2 < 1920) (h2 : (Str.empty ++ a ++ (toString i : Str)).length ≤ sizeLine) (h3 : (Str.empty ++ a ++ (toString i : Str) ++ b).length ≤ sizeLine) : Still (tJ [tC (.str a), tFmt (tC (.int i)), tC (.str b)]) :=
  fun _ _ _ q => ⟨a, rfl, h1, .inr ⟨i, rfl, hi, _, rfl, h2, b, rfl, h3, q _⟩⟩
end XD
namespace XD
open PySem PySem.Spec PyProof.Rows L2 XA XB XC
section
variable {K : PySem.W.Frag} {H : Hp} {a b : Addr} {xs ys : List V} {Q : VK}
theorem flat_same {k : Int} (h : xs = [] ∨ k = 1) : (List.replicate k.toNat xs).flatten = xs := by
  rcases h with e | e
  · subst e
    induction k.toNat with
    | zero => rfl
    | succ n ih => rw [List.replicate_succ, List.flatten_cons, ih] <;> rfl
  · subst e
    simp
theorem rd_rng1 {ta : TA} {σ : L2.St} {R : It → Hp → Prop} (h : ta σ H fun vs H1 => ∃ j : Int, vs = [.int j] ∧ -(2 ^ 62) ≤ j ∧ j < 2 ^ 62 ∧ R (Itr 0 j.toNat) H1) : iRng1 ta σ H R := h
theorem rd_rng2 {ta : TA} {σ : L2.St} {R : It → Hp → Prop} (h : ta σ H fun vs H1 => ∃ i j : Int, vs = [.int i, .int j] ∧ (-(2 ^ 62) ≤ i ∧ i < 2 ^ 62 ∧ -(2 ^ 62) ≤ j ∧ j < 2 ^ 62) ∧ R (Itr i (j - i).toNat) H1) : iRng2 ta σ H R := h
theorem rd_for {wi : TI} {g : TG} {tb : TS} {D : Ends} {σ : L2.St} (h : wi σ H fun J H1 => ∃ W : Nat → Nat → L2.St → Hp → Prop, (∃ m, W 0 m σ H1) ∧ ∀ i m σ H, W i m σ H →
  (J.stop i H ∧ D.nx σ H) ∨ (J.go i H ∧ ∃ N : L2.St → Hp → Prop, (∀ σ' H', N σ' H' → ∃ m', m' < m ∧ W (i + 1) m' σ' H') ∧ ∀ x H', J.yld i H x H' → g x σ H' fun σ2 H2 => tb { D with nx := N, ct := N, bk := D.nx } σ2 H2)) : tFor wi g tb D σ H := h
/-- t.count(k) -/
theorem rd_cntE {to te : TE} {σ : L2.St} (h : to σ H fun x H1 => ∃ (p : Addr) (ns : List Int), x = .ref p ∧ Tp H1 p (ns.map V.int) ∧ tCons te tNil σ H1 fun vs H2 => ∃ y, vs = [y] ∧ ∃ k, y = .int k ∧ Tp H2 p (ns.map V.int) ∧ Q (.int (ns.count k : Nat)) H2) : tCnt to te σ H Q := h
/-- tuple * int -/
theorem repS {k : Int} (h : SqT K H a xs) (h1 : -1000 ≤ k) (h2 : k ≤ 1000) (hz : xs.length ≤ 1000) (q : ∀ p H', Same H H' → SqT K H' p (List.replicate k.toNat xs).flatten → Q (.ref p) H') : rMulU K (.ref a) (.int k) H Q :=
  .inr ⟨a, k, xs, rfl, rfl, h, h1, h2, hz, fun e => q a H (Same.refl _) (by rw [flat_same e]; exact h), fun _ p o hp ho hd => q p _ (same_new hp) (Tp.sqT ⟨o, upd_same, ho, hd⟩)⟩
theorem repT {k : Int} (h : Tp H a xs) (h1 : -1000 ≤ k) (h2 : k ≤ 1000) (hz : xs.length ≤ 1000) (q : ∀ p H', Same H H' → Tp H' p (List.replicate k.toNat xs).flatten → Q (.ref p) H') : rMulU K (.ref a) (.int k) H Q :=
  .inr ⟨a, k, xs, rfl, rfl, h.sqT, h1, h2, hz, fun e => q a H (Same.refl _) (by rw [flat_same e]; exact h), fun _ p o hp ho hd => q p _ (same_new hp) ⟨o, upd_same, ho, hd⟩⟩
/-- tuple + tuple -/
theorem catS (h1 : SqT K H a xs) (h2 : SqT K H b ys) (hz : xs.length + ys.length ≤ 100000) (q : ∀ p H', Same H H' → SqT K H' p (xs ++ ys) → Q (.ref p) H') : rAddU K (.ref a) (.ref b) H Q :=
  .inr (.inl ⟨a, b, xs, ys, rfl, rfl, h1, h2, lz hz, fun e => q b H (Same.refl _) (by rw [e]; exact h2), fun _ e => q a H (Same.refl _) (by rw [e, List.append_nil]; exact h1), fun _ _ p hp => q p _ (same_new hp) (.inl (.inl upd_same))⟩)
/-- list + list -/
theorem catL (h1 : H a = some (.lst xs)) (h2 : H b = some (.lst ys)) (hz : xs.length + ys.length ≤ 100000) (q : ∀ p, H p = none → Q (.ref p) (upd H p (.lst (xs ++ ys)))) : rAddU K (.ref a) (.ref b) H Q :=
  .inr (.inr ⟨a, b, xs, ys, rfl, rfl, h1, h2, lz hz, q⟩)
theorem cut_whole {lo hi : Option Int} (h : HT.sIx xs.length 0 lo = 0 ∧ HT.sIx xs.length xs.length hi = xs.length) : cutV xs lo hi = xs := by
  unfold cutV
  rw [h.1, h.2, Nat.sub_zero, List.drop_zero, List.take_length]
/-- t[lo:hi] -/
theorem slS {lo hi : Option Int} (h : SqT K H a xs) (q : ∀ p H', Same H H' → SqT K H' p (cutV xs lo hi) → Q (.ref p) H') : rSlU K (.ref a) lo hi H Q :=
  .inr ⟨a, xs, rfl, h, fun e => q a H (Same.refl _) (by rw [cut_whole e]; exact h), fun _ p o hp ho hd => q p _ (same_new hp) (Tp.sqT ⟨o, upd_same, ho, hd⟩)⟩
theorem slT {lo hi : Option Int} (h : Tp H a xs) (q : ∀ p H', Same H H' → Tp H' p (cutV xs lo hi) → Q (.ref p) H') : rSlU K (.ref a) lo hi H Q :=
  .inr ⟨a, xs, rfl, h.sqT, fun e => q a H (Same.refl _) (by rw [cut_whole e]; exact h), fun _ p o hp ho hd => q p _ (same_new hp) ⟨o, upd_same, ho, hd⟩⟩
/-- xs[lo:hi] -/
theorem slL {lo hi : Option Int} (h : SqL K H a xs) (q : ∀ p, H p = none → Q (.ref p) (upd H p (.lst (cutV xs lo hi)))) : rSlU K (.ref a) lo hi H Q := .inl ⟨a, xs, rfl, h, q⟩
end
theorem flat_map {α β : Type} (f : α → β) (n : Nat) (xs : List α) : (List.replicate n (xs.map f)).flatten = ((List.replicate n xs).flatten).map f := by
  induction n with
  | zero => rfl
  | succ n ih => rw [List.replicate_succ, List.replicate_succ, List.flatten_cons, List.flatten_cons, ih, List.map_append]
theorem flat_len {α : Type} (n : Nat) (xs : List α) : ((List.replicate n xs).flatten).length = n * xs.length := by
  induction n with
  | zero => simp
  | succ n ih => rw [List.replicate_succ, List.flatten_cons, List.length_append, ih, Nat.succ_mul]; omega
/-- whole numbers in a row: range -/
theorem rng_ok {n : Nat} (h : n < 1000000) (m : Int) (h0 : -1000000 ≤ m) (h1 : m ≤ 1000000) : -(2 ^ 62) ≤ m ∧ m < 2 ^ 62 := ⟨by omega, by omega⟩
end XD

set_option linter.all false
set_option maxRecDepth 100000
set_option maxHeartbeats 4000000
/-! XE: comparisons of data, the law's draws. -/
namespace XE
open PySem PySem.Spec PyProof.Rows L2 XA XB XC XD
abbrev dI (xs : List Int) : List PyData := xs.map PyData.int
theorem can_dI : ∀ xs : List Int, PyData.canLayAll0 (dI xs) = true
  | [] => by simp [dI, PyData.canLayAll0]
  | x :: xs => by
    have := can_dI xs
    simp only [dI, List.map_cons, PyData.canLayAll0, PyData.canLay0, Bool.true_and] at this ⊢
    exact this
theorem dep_dI : ∀ xs : List Int, PyData.depthAll (dI xs) ≤ 1
  | [] => by simp [dI, PyData.depthAll]
  | x :: xs => by
    have := dep_dI xs
    simp only [dI, List.map_cons, PyData.depthAll, PyData.depth] at this ⊢
    omega
theorem eqv_dI : ∀ xs ys : List Int, PyData.eqvAll (dI xs) (dI ys) = decide (xs = ys)
  | [], [] => by simp [dI, PyData.eqvAll]
  | [], y :: ys => by simp [dI, PyData.eqvAll]
  | x :: xs, [] => by simp [dI, PyData.eqvAll]
  | x :: xs, y :: ys => by
    have := eqv_dI xs ys
    simp only [dI] at this
    simp only [dI, List.map_cons, PyData.eqvAll, PyData.eqv, this, List.cons.injEq]
    by_cases h : x = y <;> by_cases h2 : xs = ys <;> simp [h, h2]
theorem sh_t (xs : List Int) : SeqAt.shaped (.tuple (dI xs)) = true := by
  have h := dep_dI xs
  have e : PyData.depth (.tuple (dI xs)) ≤ 64 := by
    rw [PyData.depth]
    omega
  have e2 : PyData.canLay0 (.tuple (dI xs)) = true := by
    rw [PyData.canLay0]
    exact can_dI xs
  unfold SeqAt.shaped
  rw [e2, decide_eq_true e] <;> rfl
theorem sh_l (xs : List Int) : SeqAt.shaped (.list (dI xs)) = true := by
  have h := dep_dI xs
  have e : PyData.depth (.list (dI xs)) ≤ 64 := by
    rw [PyData.depth]
    omega
  have e2 : PyData.canLay0 (.list (dI xs)) = true := by
    rw [PyData.canLay0]
    exact can_dI xs
  unfold SeqAt.shaped
  rw [e2, decide_eq_true e] <;> rfl
section
variable {K : PySem.W.Frag} {H : Hp} {a b : Addr} {xs ys : List Int} {Q : VK}
theorem dp_all : ∀ xs : List Int, DpAll K H (xs.map V.int) (dI xs)
  | [] => .nil
  | x :: xs => .cons (.int x) (dp_all xs)
theorem dpT (h : SqT K H a (xs.map V.int)) : Dp K H (.ref a) (.tuple (dI xs)) := .tup h (dp_all xs)
theorem dpL (h : SqL K H a (xs.map V.int)) : Dp K H (.ref a) (.list (dI xs)) := .lst h (dp_all xs)
theorem eqT (h1 : SqT K H a (xs.map V.int)) (h2 : SqT K H b (ys.map V.int)) (q : Q (.bl (decide (xs = ys))) H) : rEqU K (.ref a) (.ref b) H Q :=
  .inr ⟨_, _, dpT h1, dpT h2, sh_t xs, sh_t ys, by
    rw [show PyData.eqv (.tuple (dI xs)) (.tuple (dI ys)) = decide (xs = ys) from by rw [PyData.eqv]; exact eqv_dI xs ys]
    exact q⟩
theorem neT (h1 : SqT K H a (xs.map V.int)) (h2 : SqT K H b (ys.map V.int)) (q : Q (.bl (!decide (xs = ys))) H) : rNeU K (.ref a) (.ref b) H Q :=
  .inr ⟨_, _, dpT h1, dpT h2, sh_t xs, sh_t ys, by
    rw [show PyData.eqv (.tuple (dI xs)) (.tuple (dI ys)) = decide (xs = ys) from by rw [PyData.eqv]; exact eqv_dI xs ys]
    exact q⟩
theorem eqL (h1 : SqL K H a (xs.map V.int)) (h2 : SqL K H b (ys.map V.int)) (q : Q (.bl (decide (xs = ys))) H) : rEqU K (.ref a) (.ref b) H Q :=
  .inr ⟨_, _, dpL h1, dpL h2, sh_l xs, sh_l ys, by
    rw [show PyData.eqv (.list (dI xs)) (.list (dI ys)) = decide (xs = ys) from by rw [PyData.eqv]; exact eqv_dI xs ys]
    exact q⟩
theorem neL (h1 : SqL K H a (xs.map V.int)) (h2 : SqL K H b (ys.map V.int)) (q : Q (.bl (!decide (xs = ys))) H) : rNeU K (.ref a) (.ref b) H Q :=
  .inr ⟨_, _, dpL h1, dpL h2, sh_l xs, sh_l ys, by
    rw [show PyData.eqv (.list (dI xs)) (.list (dI ys)) = decide (xs = ys) from by rw [PyData.eqv]; exact eqv_dI xs ys]
    exact q⟩
end
/-! ### the state of the draws -/
abbrev kG : Key := Sum.inr "great"
abbrev kC : Key := Sum.inr "cells"
abbrev kR : Key := Sum.inr "rest"
abbrev kT : Key := Sum.inr "turn"
def stD (g c : Addr) (r t : Int) : List (Key × V) := [(kG, .ref g), (kC, .ref c), (kR, .int r), (kT, .int t)]
/-- the state stands at s, its great numbers at g; it has been drawn from at most n times anew -/
def StAt (n : Nat) (H : Hp) (s g c : Addr) : Prop := ∃ (r t : Int) (gs cs : List Int), H s = some (.dK (stD g c r t)) ∧ H g = some (.lst (gs.map V.int)) ∧ H c = some (.lst (cs.map V.int)) ∧ c ≠ g ∧ cs.length ≤ 1000 ∧ gs.length ≤ 1000 ∧ 0 ≤ t ∧ t ≤ (n : Int)
/-- all but the state is as it was -/
def Kept (s g : Addr) (H H' : Hp) : Prop := ∀ b o, H b = some o → b ≠ s → b ≠ g → H' b = some o
theorem Kept.refl {s g : Addr} {H : Hp} : Kept s g H H := fun _ _ h _ _ => h
theorem Kept.trans {s g : Addr} {H H1 H2 : Hp} (a : Kept s g H H1) (b : Kept s g H1 H2) : Kept s g H H2 := fun c o h n m => b c o (a c o h n m) n m
theorem Kept.of {s g : Addr} {H H' : Hp} (e : Same H H') : Kept s g H H' := fun b o h _ _ => e b o h
section
variable {K : PySem.W.Frag} {H H' : Hp} {s g c a : Addr} {xs : List V} {n m : Nat} {v : V} {d : Dat}
theorem StAt.same (h : StAt n H s g c) (e : Same H H') : StAt n H' s g c := by
  obtain ⟨r, t, gs, cs, h1, h2, h3, h4⟩ := h
  exact ⟨r, t, gs, cs, e _ _ h1, e _ _ h2, e _ _ h3, h4⟩
theorem StAt.mono (h : StAt n H s g c) (l : n ≤ m) : StAt m H s g c := by
  obtain ⟨r, t, gs, cs, h1, h2, h3, h4, h5, h6, h7, h8⟩ := h
  exact ⟨r, t, gs, cs, h1, h2, h3, h4, h5, h6, h7, by omega⟩
theorem StAt.gs (h : StAt n H s g c) : ∃ o, H g = some o := by
  obtain ⟨r, t, gs, cs, h1, h2, _⟩ := h
  exact ⟨_, h2⟩
theorem StAt.ne_n (h : StAt n H s g c) (e : H a = none) : a ≠ g := by
  obtain ⟨o, q⟩ := h.gs
  intro z
  rw [z, q] at e
  cases e
theorem StAt.ne_s (h : StAt n H s g c) {o : HO} (ho : H a = some o) (hn : ∀ kvs, o ≠ .dK kvs) : a ≠ s := by
  obtain ⟨r, t, gs, cs, h1, _⟩ := h
  exact ne_of ho h1 (hn _)
theorem StAt.ne_g (h : StAt n H s g c) {o : HO} (ho : H a = some o) (hn : ∀ xs, o ≠ .lst xs) : a ≠ g := by
  obtain ⟨r, t, gs, cs, _, h2, _⟩ := h
  exact ne_of ho h2 (hn _)
theorem Kept.sqT (k : Kept s g H H') (h : StAt n H s g c) (q : SqT K H a xs) : SqT K H' a xs := by
  rcases q with (q | ⟨o, q⟩) | q
  · exact .inl (.inl (k _ _ q (h.ne_s q (by intro _ z; cases z)) (h.ne_g q (by intro _ z; cases z))))
  · exact .inl (.inr ⟨o, k _ _ q (h.ne_s q (by intro _ z; cases z)) (h.ne_g q (by intro _ z; cases z))⟩)
  · exact .inr q
theorem Kept.sqL (k : Kept s g H H') (h : StAt n H s g c) (q : SqL K H a xs) (e : a ≠ g) : SqL K H' a xs := by
  rcases q with (q | ⟨o, q⟩) | q
  · exact .inl (.inl (k _ _ q (h.ne_s q (by intro _ z; cases z)) e))
  · exact .inl (.inr ⟨o, k _ _ q (h.ne_s q (by intro _ z; cases z)) e⟩)
  · exact .inr q
theorem Kept.tp (k : Kept s g H H') (h : StAt n H s g c) (q : Tp H a xs) : Tp H' a xs := by
  obtain ⟨o, q, r⟩ := q
  exact ⟨o, k _ _ q (h.ne_s q (by intro _ z; cases z)) (h.ne_g q (by intro _ z; cases z)), r⟩
theorem Kept.lst (k : Kept s g H H') (h : StAt n H s g c) (q : H a = some (.lst xs)) (e : a ≠ g) : H' a = some (.lst xs) := k _ _ q (h.ne_s q (by intro _ z; cases z)) e
theorem Kept.rp (k : Kept s g H H') (h : StAt n H s g c) (q : Rp K H v d) (e : v ≠ .ref g) : Rp K H' v d := by
  cases d with
  | flat u => exact q
  | tup xs => obtain ⟨a, z, r, y⟩ := q; exact ⟨a, z, k.sqT h r, y⟩
  | lst xs => obtain ⟨a, z, r⟩ := q; exact ⟨a, z, k.sqL h r (fun y => e (by rw [z, y]))⟩
  | dct =>
    obtain ⟨a, kvs, z, r, l⟩ := q
    obtain ⟨r0, t0, gs0, cs0, a1, _⟩ := h
    exact ⟨a, kvs, z, k _ _ r (ne_of r a1 (by intro y; cases y; simp [stD] at l)) (fun y => e (by rw [z, y])), l⟩
theorem StAt.mut {H0 : Hp} {k : Addr} {o : HO} (h0 : StAt m H0 s g c) (hk : H0 k = none) (h : StAt n H s g c) : StAt n (upd H k o) s g c := by
  obtain ⟨r0, t0, gs0, cs0, a1, a2, a3, _⟩ := h0
  obtain ⟨r, t, gs, cs, h1, h2, h3, h4⟩ := h
  exact ⟨r, t, gs, cs, by rw [upd_ne (ne_of_none a1 hk)]; exact h1, by rw [upd_ne (ne_of_none a2 hk)]; exact h2, by rw [upd_ne (ne_of_none a3 hk)]; exact h3, h4⟩
theorem Kept.mut {k : Addr} {o : HO} (e : Kept s g H H') (hk : H k = none) : Kept s g H (upd H' k o) := fun b u q x y => by
  rw [upd_ne (ne_of_none q hk)]
  exact e b u q x y
theorem Kept.none (k : Kept s g H H') (h : StAt n H' s g c) (e : H' a = none) : H a = none := by
  obtain ⟨r, t, gs, cs, h1, h2, _⟩ := h
  cases q : H a with
  | none => rfl
  | some o => rw [k a o q (Ne.symm (ne_of_none h1 e)) (Ne.symm (ne_of_none h2 e))] at e; cases e
end
end XE

set_option linter.all false
set_option maxRecDepth 100000
set_option maxHeartbeats 4000000
/-! XF: t[::-1] of a tuple, a few more rules. -/
namespace XF
open PySem PySem.Spec PyProof.Rows L2 XA XB XC XD XE HT
section
variable {prog : Program} {w : World} {A : Around} {E : Value → Shared → Prop} {s : Shared}
theorem back_bounds (n : Nat) : Builtin.Slice.sliceAdjust none none (-1) (n : Int) = ((n : Int) - 1, -1) := by
  unfold Builtin.Slice.sliceAdjust
  simp
theorem back_places (n : Nat) : Builtin.Slice.slicePlaces ((n : Int) - 1) (-1) (-1) = n := by
  unfold Builtin.Slice.slicePlaces
  simp
  omega
theorem back_applied {sl : Addr} {n : Nat} {tk : Tok} {Q : Int × Int × Nat → Shared → Prop} (hs : s.heap.IsSliceOf sl .none .none (.int (-1) tk)) (h : Q ((n : Int) - 1, -1, n) s) :
    wpAny (model prog w) A (Builtin.Slice.sliceApplied (.ref sl) (pure (n : Int))) Q E s := by
  obtain ⟨os, hos, hcs, hds⟩ := id hs
  unfold Builtin.Slice.sliceApplied Builtin.Slice.sliceFields
  refine wpAny_bind (wpAny_bind (wpAny_field hos hds (x := .none) rfl (wpAny_bind (wpAny_field hos hds (x := .none) rfl (wpAny_bind (wpAny_field hos hds (x := .int (-1) tk) rfl (wpAny_pure ?_)))))))
  refine wpAny_bind (slicePart_int ?_)
  show wpAny _ _ (if ((-1 : Int) == 0) = true then _ else _) _ _ s
  rw [if_neg (by decide)]
  refine wpAny_bind (slicePart_none (wpAny_bind (slicePart_none (wpAny_bind (wpAny_pure ?_)))))
  show wpAny _ _ (match Builtin.Slice.sliceAdjust none none (-1) (n : Int) with | (lo, hi) => pure (lo, (-1 : Int), Builtin.Slice.slicePlaces lo hi (-1))) _ _ s
  rw [back_bounds n]
  show wpAny _ _ (pure ((n : Int) - 1, (-1 : Int), Builtin.Slice.slicePlaces ((n : Int) - 1) (-1) (-1))) _ _ s
  rw [back_places]
  exact wpAny_pure h
theorem fm_map {α β : Type} {f : α → Option β} {g : α → β} : ∀ {l : List α}, (∀ x ∈ l, f x = some (g x)) → l.filterMap f = l.map g
  | [], _ => rfl
  | x :: l, h => by
    rw [List.filterMap_cons, h x List.mem_cons_self, List.map_cons, fm_map fun y hy => h y (List.mem_cons_of_mem _ hy)]
theorem back_pick (xs : Array Value) : ((List.range xs.size).filterMap fun (m : Nat) => xs[(((xs.size : Nat) : Int) - 1 + (m : Int) * -1).toNat]?).toArray = xs.toList.reverse.toArray := by
  congr 1
  obtain ⟨l⟩ := xs
  simp only [List.size_toArray, List.getElem?_toArray]
  apply List.ext_getElem?
  intro i
  have e : (List.range l.length).filterMap (fun (m : Nat) => l[(((l.length : Nat) : Int) - 1 + (m : Int) * -1).toNat]?) = (List.range l.length).map (fun m => l.reverse.getD m Value.none) := by
    refine fm_map fun m hm => ?_
    have hm := List.mem_range.mp hm
    have e1 : (((l.length : Nat) : Int) - 1 + (m : Int) * -1).toNat = l.length - 1 - m := by omega
    rw [e1, List.getD_eq_getElem?_getD, List.getElem?_reverse hm, List.getElem?_eq_getElem (by omega)]
    rfl
  rw [e]
  by_cases hi : i < l.length
  · rw [List.getElem?_map, List.getElem?_range hi, Option.map_some, List.getD_eq_getElem?_getD, List.getElem?_eq_getElem (by simpa using hi)]
    rfl
  · rw [List.getElem?_eq_none (by simpa using hi), List.getElem?_eq_none (by simpa using hi)]
theorem getItem_tuple_back {t sl : Addr} {items : Array Value} {tk : Tok} {Q : Value → Shared → Prop} (ht : IsTup s.heap t items) (hs : s.heap.IsSliceOf sl .none .none (.int (-1) tk))
    (h : Q (.ref s.heap.objs.size) { s with heap := s.heap.push { cls := .type "tuple", data := .seq items.toList.reverse.toArray } }) (hsz : items.size ≤ sizeLine) : wpAny (model prog w) A (getItem (.ref t) (.ref sl)) Q E s := by
  have ok : sizeOk (.seq items.toList.reverse.toArray) := by
    show items.toList.reverse.toArray.size ≤ sizeLine
    simpa using hsz
  obtain ⟨os, hos, hcs, hds⟩ := id hs
  have hTs : s.TypeIs (.ref sl) "slice" := ⟨os, hos, hcs⟩
  unfold getItem
  try with_reducible refine wpAny_holding ?_
  first | refine wpAny_bind (wpAny_pure ?_) | skip
  refine wpAny_bind (wpAny_sequenceKey ht.typeIs (by decide) (wpAny_bind (wpAny_callSpecial?_slot (name := Str.ofString "__getitem__") ht.typeIs PyProof.Rows.slot_tuple_getitem
    (wpAny_call_entry PyProof.Rows.slot_tuple_getitem ht.typeIs entry_tuple_getitem ?_ (args_tuple_getitem _ _)))))
  show wpAny _ _ (Builtin.Tuple.tupleItemsOf (.ref t) >>= _) _ _ s
  refine wpAny_bind (tupleItemsOf_ ht (wpAny_bind (wpAny_typeOf hTs ?_)))
  rw [if_pos (by decide)]
  refine wpAny_bind (back_applied hs ?_)
  show wpAny _ _ (if (((items.size : Nat) : Int) - 1 == 0 && (-1 : Int) == 1 && items.size == items.size) = true then _ else _) _ _ s
  rw [if_neg (by rw [show ((-1 : Int) == 1) = false from rfl, Bool.and_false, Bool.false_and]; exact Bool.false_ne_true), back_pick]
  first
    | exact wpAny_bind (m := Builtin.Tuple.tupleExact _) (wpAny_newObj_type (wpAny_pure ⟨_, rfl, wpAny_pure h⟩) ok)
    | exact wpAny_bind (m := Builtin.Tuple.tupleExact _) (wpAny_newObj_type (wpAny_bind (wpAny_pure (wpAny_pure ⟨_, rfl, wpAny_pure h⟩))) ok)
end
section
variable {X : Cx}
/-- t[::-1] -/
def tBack (K : PySem.W.Frag) (te : TE) : TE := fun σ H Q => te σ H fun x H1 => ∃ a xs, x = .ref a ∧ SqT K H1 a xs ∧ NewT H1 xs.reverse Q
theorem pe_back {e : Expr} {te : TE} {k : Nat} {p1 p2 p3 pos : Pos} (he : PE X e te) : PE X (.Subscript e (.Slice none none (some (.UnaryOp .USub (.Constant (.int 1) k p1) p2)) p3) pos) (tBack X.K te) := by
  refine ⟨fun pins s σ H Q I h => ?_⟩
  refine Subscript_ (thn (he.run pins s σ H _ I h) fun v s1 ⟨x, H1, I1, r1, a, xs, ex, hx, q⟩ => ?_)
  subst ex
  cases r1
  have step : PO X (some (.UnaryOp .USub (.Constant (.int 1) k p1) p2)) (tPart (tUn (rU fun i => .int (-i)) (tC (.int 1)))) := po_some (pe_un un_neg pe_int)
  refine wpAny_Slice (thn (po_none.run pins s1 σ H1 (fun o H2 => o = none ∧ H2 = H1) I1 ⟨rfl, rfl⟩) fun vl s2 ⟨l, H2, I2, pl, el, e2⟩ => ?_)
  subst el e2
  refine thn (po_none.run pins s2 σ H2 (fun o H3 => o = none ∧ H3 = H2) I2 ⟨rfl, rfl⟩) fun vu s3 ⟨u, H3, I3, pu, eu, e3⟩ => ?_
  subst eu e3
  refine thn (step.run pins s3 σ H3 (fun o H4 => o = some (-1) ∧ H4 = H3) I3 ⟨1, rfl, -1, rfl, rfl, rfl⟩) fun vs s4 ⟨o, H4, I4, ps, eo, e4⟩ => ?_
  subst eo e4
  have I5 : Inv X pins σ H4 { s4 with heap := s4.heap.push { cls := .type "slice", data := .fields #[vl, vu, vs] } } := I4.kept (t' := s4.toks) fun b ob q => Heap.get?_push_of_some _ q
  obtain ⟨its, r, ht, hz⟩ := I5.tuple hx
  have hlen := r.length
  cases pl
  cases pu
  cases ps
  refine tail_any (ops := [.ref a, .ref s4.heap.objs.size]) ht.typeIs PyProof.Rows.slot_tuple_getitem.lookup ?_ (by with_unfolding_all rfl)
  refine getItem_tuple_back ht (Heap.IsSliceOf.new _ _ _ _) ?_ (by rw [List.size_toArray]; omega)
  exact newT_laid (h' := s4.heap.push _) (tk := s4.toks) I5 (by rw [List.length_reverse]; exact hz) r.reverse q
end
end XF

namespace XF
open PySem PySem.Spec PyProof.Rows L2 XA XB XC XD XE
section
variable {K : PySem.W.Frag} {σ : L2.St} {H : Hp} {Q : VK} {te ta tb : TE} {D : Ends} {i j l : Nat}
theorem rd_lrg {t : L2.St → Hp → (Int → Int → Hp → Prop) → Prop} (h : t σ H fun a b H1 => RgOk a b ∧ ∀ q, H1 q = none → Q (.ref q) (upd H1 q (.lst (rgV a b)))) : tLstRg t σ H Q := h
theorem rd_rg2 {Q : Int → Int → Hp → Prop} (h : ta σ H fun x H1 => tb σ H1 fun y H2 => ∃ i j, x = .int i ∧ y = .int j ∧ Q i j H2) : tRg2 ta tb σ H Q := h
theorem rd_back (h : te σ H fun x H1 => ∃ a xs, x = .ref a ∧ SqT K H1 a xs ∧ NewT H1 xs.reverse Q) : tBack K te σ H Q := h
theorem rd_disp {trs : List (TE × TE)} (h : ∀ p, H p = none → tPairs trs σ (upd H p (.dK [])) fun ps H2 => H2 p = some (.dK []) ∧ ∃ kvs : List (Key × V), ps = kvs.map (fun kv => (kV kv.1, kv.2)) ∧ kvs.length ≤ 15 ∧ Q (.ref p) (upd H2 p (.dK (mergeK [] kvs)))) : tDisp trs σ H Q := h
theorem rd_prN {Q : List (V × V) → Hp → Prop} (h : Q [] H) : tPairs [] σ H Q := h
theorem rd_prC {tk tv : TE} {r : List (TE × TE)} {Q : List (V × V) → Hp → Prop} (h : tk σ H fun x H1 => tv σ H1 fun y H2 => tPairs r σ H2 fun ps H3 => Q ((x, y) :: ps) H3) : tPairs ((tk, tv) :: r) σ H Q := h
theorem rd_par {ta : TA} (h : ta σ H fun vs H1 => ∃ v w, vs = [v, w] ∧ D.nx ((σ.set i (some v)).set j (some w)) H1) : tPar i j ta D σ H := h
theorem rd_par3 {ta : TA} (h : ta σ H fun vs H1 => ∃ u v w, vs = [u, v, w] ∧ D.nx (((σ.set i (some u)).set j (some v)).set l (some w)) H1) : tPar3 i j l ta D σ H := h
theorem rd_two {x y : V} {R : V → V → Prop} (h : R x y) : ∃ v w, [x, y] = [v, w] ∧ R v w := ⟨x, y, rfl, h⟩
theorem rd_three {x y z : V} {R : V → V → V → Prop} (h : R x y z) : ∃ u v w, [x, y, z] = [u, v, w] ∧ R u v w := ⟨x, y, z, rfl, h⟩
theorem rd_one {x : V} {R : V → Prop} (h : R x) : ∃ v, [x] = [v] ∧ R v := ⟨x, rfl, h⟩
theorem rd_onei {k : Int} {R : Int → Prop} (h : R k) : ∃ i, [V.int k] = [.int i] ∧ R i := ⟨k, rfl, h⟩
theorem rd_iL {R : It → Hp → Prop} (h : te σ H fun x H1 => ∃ a, x = .ref a ∧ (∃ xs, SqL K H1 a xs) ∧ R (Itl K a) H1) : iList K te σ H R := h
theorem rd_iT {R : It → Hp → Prop} (h : te σ H fun x H1 => ∃ a, x = .ref a ∧ (∃ xs, SqT K H1 a xs) ∧ R (Itt K a) H1) : iTup K te σ H R := h
end
theorem intsOf : ∀ (l : List V), (∀ x ∈ l, ∃ i, x = .int i) → ∃ gs : List Int, l = gs.map V.int
  | [], _ => ⟨[], rfl⟩
  | x :: r, h => by
    obtain ⟨i, e⟩ := h x List.mem_cons_self
    obtain ⟨gs, e2⟩ := intsOf r fun y hy => h y (List.mem_cons_of_mem _ hy)
    exact ⟨i :: gs, by rw [e, e2] <;> rfl⟩
/-! ### looking up and storing in the state -/
theorem gc : ¬ (kG = kC) := by decide +kernel
theorem gr : ¬ (kG = kR) := by decide +kernel
theorem gt : ¬ (kG = kT) := by decide +kernel
theorem cr : ¬ (kC = kR) := by decide +kernel
theorem ct : ¬ (kC = kT) := by decide +kernel
theorem rt : ¬ (kR = kT) := by decide +kernel
section
variable {g c : Addr} {r t : Int}
theorem at_G : valV (stD g c r t) kG = some (.ref g) := by simp [valV, stD]
theorem at_C : valV (stD g c r t) kC = some (.ref c) := by
  have h : decide (kG = kC) = false := decide_eq_false gc
  simp only [valV, stD, List.find?_cons, h]
  simp
theorem at_R : valV (stD g c r t) kR = some (.int r) := by
  have h1 : decide (kG = kR) = false := decide_eq_false gr
  have h2 : decide (kC = kR) = false := decide_eq_false cr
  simp only [valV, stD, List.find?_cons, h1, h2]
  simp
theorem at_T : valV (stD g c r t) kT = some (.int t) := by
  have h1 : decide (kG = kT) = false := decide_eq_false gt
  have h2 : decide (kC = kT) = false := decide_eq_false ct
  have h3 : decide (kR = kT) = false := decide_eq_false rt
  simp only [valV, stD, List.find?_cons, h1, h2, h3]
  simp
theorem put_T {u : Int} : putK (stD g c r t) kT (.int u) = stD g c r u := by
  have h1 : decide (kG = kT) = false := decide_eq_false gt
  have h2 : decide (kC = kT) = false := decide_eq_false ct
  have h3 : decide (kR = kT) = false := decide_eq_false rt
  simp only [putK, stD, List.any_cons, List.any_nil, h1, h2, h3, List.map_cons, List.map_nil, if_neg gt, if_neg ct, if_neg rt]
  simp
theorem put_R {u : Int} : putK (stD g c r t) kR (.int u) = stD g c u t := by
  have h1 : decide (kG = kR) = false := decide_eq_false gr
  have h2 : decide (kC = kR) = false := decide_eq_false cr
  have h3 : ¬ (kT = kR) := fun z => rt z.symm
  simp only [putK, stD, List.any_cons, List.any_nil, h1, h2, List.map_cons, List.map_nil, if_neg gr, if_neg cr, if_neg h3]
  simp
theorem putK_new {kvs : List (Key × V)} {k : Key} {v : V} (h : (kvs.any fun kv => decide (kv.1 = k)) = false) : putK kvs k v = kvs ++ [(k, v)] := by
  unfold putK
  rw [h] <;> rfl
/-- the state as it is made -/
theorem st_new : mergeK [] [(kG, .ref g), (kC, .ref c), (kR, .int 0), (kT, .int 0)] = stD g c 0 0 := by
  have h1 : decide (kG = kC) = false := decide_eq_false gc
  have h2 : decide (kG = kR) = false := decide_eq_false gr
  have h3 : decide (kG = kT) = false := decide_eq_false gt
  have h4 : decide (kC = kR) = false := decide_eq_false cr
  have h5 : decide (kC = kT) = false := decide_eq_false ct
  have h6 : decide (kR = kT) = false := decide_eq_false rt
  show putK (putK (putK (putK [] kG (.ref g)) kC (.ref c)) kR (.int 0)) kT (.int 0) = _
  rw [putK_new (kvs := []) rfl, List.nil_append, putK_new (kvs := [(kG, .ref g)]) (by simp only [List.any_cons, List.any_nil, h1, Bool.or_false]), List.singleton_append,
    putK_new (kvs := [(kG, .ref g), (kC, .ref c)]) (by simp only [List.any_cons, List.any_nil, h2, h4, Bool.or_false]), List.cons_append, List.singleton_append,
    putK_new (kvs := [(kG, .ref g), (kC, .ref c), (kR, .int 0)]) (by simp only [List.any_cons, List.any_nil, h3, h5, h6, Bool.or_false])]
  rfl
end
theorem pow18 : CPow 10 18 := ⟨by decide, by decide, by decide⟩
theorem none_of {H H' : Hp} {p : Addr} (e : Same H H') (h : H' p = none) : H p = none := by
  cases q : H p with
  | none => rfl
  | some o => rw [e _ _ q] at h; cases h
theorem lt1 {a b : Nat} (h : a + 64 < b) : a + 1 < b := by omega
section
variable {K : PySem.W.Frag} {H : Hp} {p : Addr} {xs : List V} {i : Int}
theorem rd_itl {R : It → Hp → Prop} (h : SqL K H p xs) (q : R (Itl K p) H) : ∃ a, V.ref p = .ref a ∧ (∃ xs, SqL K H a xs) ∧ R (Itl K a) H := ⟨p, rfl, ⟨xs, h⟩, q⟩
theorem rd_itt {R : It → Hp → Prop} (h : SqT K H p xs) (q : R (Itt K p) H) : ∃ a, V.ref p = .ref a ∧ (∃ xs, SqT K H a xs) ∧ R (Itt K a) H := ⟨p, rfl, ⟨xs, h⟩, q⟩
theorem rd_intc {Q : VK} (q : Q (.int i) H) : (∃ j, [V.int i] = [.int j] ∧ Q (.int j) H) ∨ ∃ k, [V.int i] = [.bl k] ∧ Q (.int (if k = true then 1 else 0)) H := .inl ⟨i, rfl, q⟩
end
/-- both ways of a branch lead to one rest -/
theorem rd_join {b : Bool} {ts us : TS} {D : Ends} {σ : L2.St} {H : Hp} (C : Hp → Prop) (key : ∀ H1, C H1 → D.nx σ H1) (h : (∀ H1, C H1 → D.nx σ H1) → if b = true then ts D σ H else us D σ H) : if b = true then ts D σ H else us D σ H := h key
theorem cut_lo {xs : List V} {k : Nat} (h : k ≤ xs.length) : cutV xs none (some (k : Int)) = xs.take k := by
  unfold cutV
  rw [HT.sIx_none, HT.sIx_nat, List.drop_zero, Nat.sub_zero, Nat.min_eq_left h]
theorem cut_hi {xs : List V} {k : Nat} (h : k ≤ xs.length) : cutV xs (some (k : Int)) none = xs.drop k := by
  unfold cutV
  rw [HT.sIx_none, HT.sIx_nat, Nat.min_eq_left h, List.take_of_length_le (by rw [List.length_drop]; omega)]
theorem new_at {H : Hp} {p : Addr} {o : HO} (h : H p = none) : Same H (upd H p o) ∧ upd H p o p = some o := ⟨same_new h, upd_same⟩
/-- tuple * int, a new one -/
theorem repN {K : PySem.W.Frag} {H : Hp} {a : Addr} {xs : List V} {Q : VK} {k : Int} (h : SqT K H a xs) (h1 : -1000 ≤ k) (h2 : k ≤ 1000) (hz : xs.length ≤ 1000) (hn : ¬ (xs = [] ∨ k = 1)) (q : ∀ p H', H p = none → Same H H' → Tp H' p (List.replicate k.toNat xs).flatten → Q (.ref p) H') : rMulU K (.ref a) (.int k) H Q :=
  .inr ⟨a, k, xs, rfl, rfl, h, h1, h2, hz, fun e => absurd e hn, fun _ p o hp ho hd => q p _ hp (same_new hp) ⟨o, upd_same, ho, hd⟩⟩
theorem rd_joinS {b : Bool} {ts us : TS} {D : Ends} {σ : L2.St} {H : Hp} (C : L2.St → Hp → Prop) (key : ∀ σ1 H1, C σ1 H1 → D.nx σ1 H1) (h : (∀ σ1 H1, C σ1 H1 → D.nx σ1 H1) → if b = true then ts D σ H else us D σ H) : if b = true then ts D σ H else us D σ H := h key
end XF

set_option linter.all false
set_option maxRecDepth 100000
set_option maxHeartbeats 4000000
/-! XG: a law's lambdas, tables. -/
namespace XG
open PySem PySem.Spec PyProof.Rows L2 XA XB XC XD XE XF LamX
section
variable {P : Program} {w : World} {K : PySem.W.Frag} {mg : Str → Option Value} {base : Heap} {x : Str} {st : Stmt} {N ps : List Str} {k : Nat} {sp : Sp}
/-- .. its code object at c -/
def RwC (K : PySem.W.Frag) (mg : Str → Option Value) (x : Str) (st : Stmt) (c : Addr) : Prop := ∃ f fd, FunD K x x (defArgs st) (defBody st) (defScope st) [] [] f fd ∧ mg x = some (.ref f) ∧ fd.code = .ref c
theorem mk0C {c : Addr} (R : RwC K mg x st c) (S : FnScope N ps (defScope st)) (bd : Bnd st x ps) (len : ∀ vs H Q E, sp vs H Q E → vs.length = ps.length)
    (hbody : ∀ (f : Addr) (A : Around) (outer : List Env) (s : Shared) (H : Hp) (vs : List V) (Q : VK) (E : XK), Room k (A.deeper (envOfC x (defScope st) s.heap.objs.size f (.ref c))) → sp vs H Q E →
      ∃ t, PSs (cxOf CX0 P w K mg base N x (defScope st) f (.ref c) A outer s H E).nox (defBody st) t ∧ t { nx := fun _ H' => Q .non H', rt := Q } (L2.start N vs) H) : Df P w K mg base CX0 (k + 1) x st ps sp := by
  obtain ⟨f, fd, F, g, hc⟩ := R
  refine ⟨f, fd, ?_, g, F.kp, F.bindsN bd, kbn_of F⟩
  obtain ⟨oc, od, dV, kV, doc, pm, an, cdv, ct, osl, e, lk, hcd, _, _⟩ := F.ex
  subst e
  have e2 : cdv = .ref c := hc
  subst e2
  exact fn_of lk hcd S len fun A outer s H vs Q E hr h => by
    obtain ⟨t, a, b⟩ := hbody f A outer s H vs Q E hr h
    exact ⟨t, a.nox, b⟩
end
section
variable {T : List (Addr × Str)} {K : PySem.W.Frag} {H H' : Hp} {s g c a : Addr} {xs : List V} {n m : Nat} {v : V} {d : Dat}
theorem ext_at {o : HO} (e : ExtN H H') (h : H a = some o) (hn : ∀ ps, o ≠ .tbl ps) : H' a = some o := e _ _ h hn
theorem tabs_kept (t : Tabs T H) (k : XE.Kept s g H H') (h : StAt n H s g c) : Tabs T H' := fun p hp => by
  obtain ⟨ps, h1, h2, h3⟩ := t p hp
  refine ⟨ps, k _ _ h1 (h.ne_s h1 (by intro _ z; cases z)) (h.ne_g h1 (by intro _ z; cases z)), h2, fun pos cv hc => ?_⟩
  obtain ⟨c', e1, e2⟩ := h3 pos cv hc
  exact ⟨c', e1, k _ _ e2 (h.ne_s e2 (by intro _ z; cases z)) (h.ne_g e2 (by intro _ z; cases z))⟩
theorem ext_sqT (e : ExtN H H') (h : SqT K H a xs) : SqT K H' a xs := by
  rcases h with (h | ⟨o, h⟩) | h
  · exact .inl (.inl (e _ _ h (by intro _ z; cases z)))
  · exact .inl (.inr ⟨o, e _ _ h (by intro _ z; cases z)⟩)
  · exact .inr h
theorem ext_sqL (e : ExtN H H') (h : SqL K H a xs) : SqL K H' a xs := by
  rcases h with (h | ⟨o, h⟩) | h
  · exact .inl (.inl (e _ _ h (by intro _ z; cases z)))
  · exact .inl (.inr ⟨o, e _ _ h (by intro _ z; cases z)⟩)
  · exact .inr h
theorem ext_tp (e : ExtN H H') (h : Tp H a xs) : Tp H' a xs := by
  obtain ⟨o, h, r⟩ := h
  exact ⟨o, e _ _ h (by intro _ z; cases z), r⟩
theorem ext_rp (e : ExtN H H') (q : Rp K H v d) : Rp K H' v d := by
  cases d with
  | flat u => exact q
  | tup xs => obtain ⟨a, z, r, y⟩ := q; exact ⟨a, z, ext_sqT e r, y⟩
  | lst xs => obtain ⟨a, z, r⟩ := q; exact ⟨a, z, ext_sqL e r⟩
  | dct => obtain ⟨a, kvs, z, r, l⟩ := q; exact ⟨a, kvs, z, e _ _ r (by intro _ z; cases z), l⟩
theorem ext_st (e : ExtN H H') (h : StAt n H s g c) : StAt n H' s g c := by
  obtain ⟨r, t, gs, cs, h1, h2, h3, h4⟩ := h
  exact ⟨r, t, gs, cs, e _ _ h1 (by intro _ z; cases z), e _ _ h2 (by intro _ z; cases z), e _ _ h3 (by intro _ z; cases z), h4⟩
theorem tabs_same (t : Tabs T H) (e : Same H H') : Tabs T H' := t.ext e
end
/-- what is caught: an error of the class at D, told at a -/
def Err (D : Addr) (H : Hp) (v : V) : Prop := ∃ a, v = .ref a ∧ H a = some (ExV (.ref D) none a)
theorem Err.same {D : Addr} {H H' : Hp} {v : V} (h : Err D H v) (e : Same H H') : Err D H' v := by
  obtain ⟨a, q, r⟩ := h
  exact ⟨a, q, e _ _ r⟩
theorem Err.ext {D : Addr} {H H' : Hp} {v : V} (h : Err D H v) (e : ExtN H H') : Err D H' v := by
  obtain ⟨a, q, r⟩ := h
  exact ⟨a, q, e _ _ r (by intro _ z; cases z)⟩
/-- _law_caught(lambda: ..): the body raises an error of the class at D -/
theorem rd_caught {T : List (Addr × Str)} {K : PySem.W.Frag} {CS D : Addr} {t : XK → TE} {σ : L2.St} {H : Hp} {Q : VK} (hT : Tabs T H) (hx : PySem.W.exmOne K (.ref D) (.ref CS) = some true)
    (h : ∀ H1 (Ech : XK) (Q' : VK), ExtN H H1 → Tabs T H1 → (∀ H2, (∀ v H3, Same H2 H3 → Err D H3 v → Q v H3) → Ech (.ref D) none H2) → t Ech σ H1 Q') : tLam T (TCaught K CS) t σ H Q :=
  ⟨hT, fun H1 e1 T1 Ech Q' he _ => h H1 Ech Q' e1 T1 fun H2 q => he _ _ _ hx fun a ha => q _ _ (same_new ha) ⟨a, rfl, upd_same⟩⟩
/-- isinstance(e, C) of a caught error -/
theorem rd_isErr {K : PySem.W.Frag} {D C : Addr} {H : Hp} {v : V} {b : Bool} {Q : VK} (h : Err D H v) (hc : ExcC K D) (hC : ClsV (.ref C) (.ref C)) (e : PySem.W.kitOne K (.ref D) (.ref C) = some b) (q : Q (.bl b) H) : rIsU K [v, .ref C] H Q := by
  obtain ⟨a, rfl, r⟩ := h
  exact .inr ⟨a, D, .ref C, .ref C, b, rfl, r, hc, hC, e, q⟩
def tIfT (t u v : TT) : TT := fun σ H Q => t σ H fun c H1 => if c = true then u σ H1 Q else v σ H1 Q
theorem pt_ifT {X : Cx} {a b c : Expr} {pos : Pos} {t u v : TT} (ha : PT X a t) (hb : PT X b u) (hc : PT X c v) : PT X (.IfExp a b c pos) (tIfT t u v) := by
  refine ⟨fun pins s σ H Q I h => ?_⟩
  show wpAny _ _ (do if ← isTrue a X.env (eval a X.env) then isTrue b X.env (eval b X.env) else isTrue c X.env (eval c X.env)) _ _ s
  refine wpAny_bind (wpAny_mono (ha.run pins s σ H _ I h) (fun d s1 e => ?_) fun _ _ x => x)
  obtain ⟨H1, I1, q⟩ := e
  cases d with
  | true => exact hb.run pins s1 σ H1 Q I1 q
  | false => exact hc.run pins s1 σ H1 Q I1 q
theorem rd_ifT {t u v : TT} {σ : L2.St} {H : Hp} {Q : Bool → Hp → Prop} (h : t σ H fun c H1 => if c = true then u σ H1 Q else v σ H1 Q) : tIfT t u v σ H Q := h
theorem ext_mut {H0 H : Hp} {k : Addr} {o : HO} (e : ExtN H0 H) (hk : H0 k = none) : ExtN H0 (upd H k o) := fun b u q n => by
  rw [upd_ne (ne_of_none q hk)]
  exact e b u q n
theorem ext_same {H0 H H1 : Hp} (e : ExtN H0 H) (s : Same H H1) : ExtN H0 H1 := fun b o q n => s _ _ (e b o q n)
theorem ext_none {H H' : Hp} {p : Addr} (e : ExtN H H') (h : H' p = none) (hn : ∀ ps, H p ≠ some (.tbl ps)) : H p = none := by
  cases q : H p with
  | none => rfl
  | some o => rw [e _ _ q (fun ps z => hn ps (by rw [q, z]))] at h; cases h
theorem tabs_mut {T : List (Addr × Str)} {H : Hp} {k : Addr} {xs : List V} {o : HO} (t : Tabs T H) (hk : H k = some (.lst xs)) : Tabs T (upd H k o) := fun p hp => by
  obtain ⟨ps, h1, h2, h3⟩ := t p hp
  refine ⟨ps, by rw [upd_ne (ne_of h1 hk (by intro z; cases z))]; exact h1, h2, fun pos cv hc => ?_⟩
  obtain ⟨c', e1, e2⟩ := h3 pos cv hc
  exact ⟨c', e1, by rw [upd_ne (ne_of e2 hk (by intro z; cases z))]; exact e2⟩
section
variable {σ : L2.St} {H : Hp} {Q : L2.St → Hp → Prop} {t : TG} {u : TGs} {v : V} {r : List V}
theorem rd_gcons (h : t v σ H fun σ' H' => u r σ' H' Q) : gCons t u (v :: r) σ H Q := ⟨v, r, rfl, h⟩
theorem rd_gnil (h : Q σ H) : gNil [] σ H Q := ⟨rfl, h⟩
end
theorem Err.mut {D k : Addr} {H : Hp} {v : V} {xs : List V} {o : HO} (h : Err D H v) (hk : H k = some (.lst xs)) : Err D (upd H k o) v := by
  obtain ⟨a, q, r⟩ := h
  exact ⟨a, q, by rw [upd_ne (ne_of r hk (by intro z; cases z))]; exact r⟩
theorem mk0F {P : Program} {w : World} {K : PySem.W.Frag} {mg : Str → Option Value} {base : Heap} {x : Str} {st : Stmt} {N ps : List Str} {k : Nat} {sp : Sp} {f : Addr} {fd : FuncData} (F : FunD K x x (defArgs st) (defBody st) (defScope st) [] [] f fd) (S : FnScope N ps (defScope st)) (len : ∀ vs H Q E, sp vs H Q E → vs.length = ps.length)
    (hbody : ∀ (cdv : Value) (A : Around) (outer : List Env) (s : Shared) (H : Hp) (vs : List V) (Q : VK) (E : XK), Room k (A.deeper (envOfC x (defScope st) s.heap.objs.size f cdv)) → sp vs H Q E →
      ∃ t, PSs (cxOf CX0 P w K mg base N x (defScope st) f cdv A outer s H E).nox (defBody st) t ∧ t { nx := fun _ H' => Q .non H', rt := Q } (L2.start N vs) H) : FnOk P w K mg base CX0 (k + 1) f fd ps sp :=
  F.ok S len fun cdv A outer s H vs Q E hr h => by
    obtain ⟨t, a, b⟩ := hbody cdv A outer s H vs Q E hr h
    exact ⟨t, a.nox, b⟩
theorem rd_aug {i : Nat} {te : TE} {D : Ends} {σ : L2.St} {H : Hp} {j : Int} (h : σ[i]? = some (some (.int j))) (q : te σ H fun y H1 => ∃ k, y = .int k ∧ D.nx (σ.set i (some (.int (j + k)))) H1) : tAug i te (ipI fun i j => i + j) D σ H :=
  ⟨.int j, h, by
    have e : (fun y H1 => ipI (fun i j => i + j) (.int j) y H1 fun z H2 => D.nx (σ.set i (some z)) H2) = fun y H1 => ∃ k, y = .int k ∧ D.nx (σ.set i (some (.int (j + k)))) H1 := by
      funext y H1
      refine propext ⟨fun ⟨a, b, e1, e2, q⟩ => ?_, fun ⟨k, e, q⟩ => ⟨j, k, rfl, e, q⟩⟩
      cases e1
      exact ⟨b, e2, q⟩
    rw [e]
    exact q⟩
/-- a while's test of two parts: where it ends is told once -/
theorem rd_exit {c : Bool} {t : TT} {σ : L2.St} {H : Hp} {A B : Hp → Prop} (P : Prop) (ex : P → B H) (h : (P → B H) → if c = true then t σ H (fun b H1 => if b = true then A H1 else B H1) else if false = true then A H else B H) :
    if c = true then t σ H (fun b H1 => if b = true then A H1 else B H1) else if false = true then A H else B H := h ex
theorem rd_exitH {c : Bool} {t : TT} {σ : L2.St} {H : Hp} {A B : Hp → Prop} (C : Hp → Prop) (ex : ∀ H1, C H1 → B H1) (h : (∀ H1, C H1 → B H1) → if c = true then t σ H (fun b H1 => if b = true then A H1 else B H1) else if false = true then A H else B H) :
    if c = true then t σ H (fun b H1 => if b = true then A H1 else B H1) else if false = true then A H else B H := h ex
theorem mk0FC {P : Program} {w : World} {K : PySem.W.Frag} {mg : Str → Option Value} {base : Heap} {x : Str} {st : Stmt} {N ps : List Str} {k : Nat} {sp : Sp} {f c : Addr} {fd : FuncData} (F : FunD K x x (defArgs st) (defBody st) (defScope st) [] [] f fd) (hc : fd.code = .ref c) (S : FnScope N ps (defScope st)) (len : ∀ vs H Q E, sp vs H Q E → vs.length = ps.length)
    (hbody : ∀ (A : Around) (outer : List Env) (s : Shared) (H : Hp) (vs : List V) (Q : VK) (E : XK), Room k (A.deeper (envOfC x (defScope st) s.heap.objs.size f (.ref c))) → sp vs H Q E →
      ∃ t, PSs (cxOf CX0 P w K mg base N x (defScope st) f (.ref c) A outer s H E).nox (defBody st) t ∧ t { nx := fun _ H' => Q .non H', rt := Q } (L2.start N vs) H) : FnOk P w K mg base CX0 (k + 1) f fd ps sp := by
  obtain ⟨oc, od, dV, kV, doc, pm, an, cdv, ct, osl, e, lk, hcd, _, _⟩ := F.ex
  subst e
  have e2 : cdv = .ref c := hc
  subst e2
  exact fn_of lk hcd S len fun A outer s H vs Q E hr h => by
    obtain ⟨t, a, b⟩ := hbody A outer s H vs Q E hr h
    exact ⟨t, a.nox, b⟩
end XG

set_option linter.all false
set_option maxRecDepth 100000
set_option maxHeartbeats 4000000
namespace KP
open PySem PySem.Spec PyProof.Rows L2 XA XB XC XD XM XE XF XG
def top (i : Nat) : Stmt := PySem.Challenge.pw_meankept_k00_plain_rows_and_products.main.body.getD i (.Pass ⟨0, 0, 0, 0⟩)
/-- what the top holds: built-ins by their own names, constants, error classes -/
structure Bs (K : PySem.W.Frag) (mg : Str → Option Value) : Prop where
  n_isinstance : mg "isinstance" = none
  n_int : mg "int" = none
  n_bool : mg "bool" = none
  n_tuple : mg "tuple" = none
  n_list : mg "list" = none
  n_len : mg "len" = none
  n_all : mg "all" = none
  n_abs : mg "abs" = none
  n_min : mg "min" = none
  n_range : mg "range" = none
  n_reversed : mg "reversed" = none
  c_MOST_DEEDS : ∃ t, mg "MOST_DEEDS" = some (.int 4 t)
  c_MOST_LETTERS : ∃ t, mg "MOST_LETTERS" = some (.int 200 t)
  c_MOST_TIMES : ∃ t, mg "MOST_TIMES" = some (.int 20 t)
  x_KeepError : Xc K mg "KeepError" (He.ga K "KeepError")
  x_BadDeeds : Xc K mg "BadDeeds" (He.ga K "BadDeeds")
  x_BadNumber : Xc K mg "BadNumber" (He.ga K "BadNumber")
  x_BadRow : Xc K mg "BadRow" (He.ga K "BadRow")
local macro_rules | `(tactic| walk_at "rd") => `(tactic| repeat (first
  | (with_reducible refine rd_seq ?_) | (with_reducible refine rd_asg ?_) | ((with_reducible refine' rd_var ?hv ?_); (case hv => exact rfl)) | (with_reducible refine rd_c ?_) | (with_reducible refine rd_gn ?_)
  | (with_reducible refine rd_op ?_) | (with_reducible refine rd_un ?_) | (with_reducible refine rd_cons ?_) | (with_reducible refine rd_nil ?_) | (with_reducible refine rd_cl ?_) | (with_reducible refine rd_ck ?_) | (with_reducible refine rd_cb ?_)
  | (with_reducible refine rd_ret ?_) | (with_reducible refine rd_drop ?_) | (with_reducible refine rd_ifs ?_) | (with_reducible refine rd_if ?_) | (with_reducible refine rd_test ?_) | (with_reducible refine rd_tb ?_) | (with_reducible refine rd_and ?_) | (with_reducible refine rd_or ?_)
  | (with_reducible refine rd_not ?_) | (with_reducible refine rd_andV ?_) | (with_reducible refine rd_orV ?_) | (with_reducible refine rd_notV ?_) | (with_reducible refine rd_chain ?_) | (with_reducible refine rd_tup ?_) | (with_reducible refine rd_lst ?_)
  | (with_reducible refine rd_bm0 ?_) | (with_reducible refine rd_bm ?_) | (with_reducible refine rd_sl ?_) | (with_reducible refine rd_part ?_) | (with_reducible refine rd_nopart ?_) | (with_reducible refine rd_dget ?_) | (with_reducible refine rd_dput ?_)
  | (with_reducible refine rd_next ?_) | (with_reducible refine rd_lc ?_) | ((with_reducible refine' rd_aug ?hv ?_); (case hv => exact rfl)) | (with_reducible refine rd_cont ?_) | (with_reducible refine rd_gcons ?_) | (with_reducible refine rd_gnil ?_) | (with_reducible refine rd_ifT ?_) | (with_reducible refine rd_yes ?_) | (with_reducible refine rd_tru ?_) | (with_reducible refine rd_cntE ?_) | (with_reducible refine rd_rng1 ?_) | (with_reducible refine rd_lrg ?_) | (with_reducible refine rd_rg2 ?_) | (with_reducible refine rd_back ?_) | (with_reducible refine rd_disp ?_) | (with_reducible refine rd_prN ?_) | (with_reducible refine rd_prC ?_) | (with_reducible refine rd_par ?_) | (with_reducible refine rd_par3 ?_) | (with_reducible refine rd_two ?_) | (with_reducible refine rd_three ?_) | (with_reducible refine rd_one ?_) | (with_reducible refine rd_onei ?_) | (with_reducible refine rd_iL ?_) | (with_reducible refine rd_iT ?_) | (with_reducible refine rd_rng2 ?_) | (with_reducible refine rd_bl ?_) | (with_reducible refine rd_int ?_) | (with_reducible refine rd_I0 ?_) | (with_reducible refine rd_U ?_) | (with_reducible refine rd_din ?_) | (with_reducible refine rd_dnin ?_) | (with_reducible refine rd_dnew ?_) | (with_reducible refine rd_lset ?_) | (with_reducible refine rd_enT ?_) | (with_reducible refine rd_idx ?_) | (with_reducible refine rd_rg1 ?_) | (with_reducible refine rd_tupRg ?_)))

section
variable {P : Program} {w : World} {K : PySem.W.Frag} {mg : Str → Option Value} {base : Heap}
/-! ### plain_letters -/
def spPlain (K : PySem.W.Frag) : Sp := fun vs H Q _ => ∃ (a : Addr) (xs : List Int), vs = [.ref a] ∧ SqT K H a (xs.map V.int) ∧ xs.length ≤ 10000 ∧ ∀ p H', Same H H' → Tp H' p ((red xs).map V.int) → Q (.ref p) H'
abbrev s_plain_letters : Stmt := top 6
abbrev N_plain_letters : List Str := ["letters", "kept", "letter"]
theorem sc_plain_letters : FnScope ["letters", "kept", "letter"] ["letters"] (defScope s_plain_letters) := ⟨rfl, rfl, rfl, by decide +kernel, rfl, by decide +kernel, by decide +kernel⟩
theorem bd_plain_letters : Bnd s_plain_letters "plain_letters" ["letters"] := fun _ _ _ _ _ _ us hl => match us, hl with | [_], _ => rfl

theorem d_plain_letters (T : Bs K mg) (R : Rw K mg "plain_letters" s_plain_letters) : Df P w K mg base CX0 1 "plain_letters" s_plain_letters ["letters"] (spPlain K) := by
  refine mk0 R sc_plain_letters bd_plain_letters (fun vs H Q E h => ?_) fun f cdv A outer s H vs Q E hr h => ?_
  · obtain ⟨a, xs, rfl, _⟩ := h; rfl
  obtain ⟨a, xs, rfl, hS, hz, q⟩ := h
  refine ⟨_, (pss_cons (ps_set (i := 1) sc_plain_letters.nd rfl (Or.inl rfl) (pe_lst pa_nil))
      (pss_cons (ps_for PassesOwn.never rfl (pi_U (pv 0)) (pg_name (i := 2) sc_plain_letters.nd rfl (Or.inl rfl))
        (pss_one (ps_if (PW.pt (pw_and (pt_tru (pv 1) (by intro _; rfl)) (pw_and1 (pt_cmpR (op_eqU hr.units) (pe_ix ix_seq (pv 1) (pe_un un_neg pe_int) (fun _ _ => rfl)) (pe_un un_neg (pv 2)) (nomark _))))) (pss_one (ps_expr (pe_bm0 PySem.F.plainAttrs_list PySem.F.slot_list_pop PySem.F.type_list_pop mt_pop (pv 1)))) (pss_one (ps_expr (pe_bm PySem.F.plainAttrs_list PySem.F.slot_list_append PySem.F.type_list_append mt_append (pv 1) (pa_cons (pv 2) pa_nil)))))))
      (pss_one (ps_ret (pe_callTy call_tupN (by rfl) T.n_tuple (by decide +kernel) (pa_cons (pv 1) pa_nil)))))), ?_⟩
  walk_at "rd"
  refine ⟨lz (by decide), fun k hk => ?_⟩
  walk_at "rd"
  refine forT (xs := xs.map V.int) (fun i σ H' => ∃ y, σ = [some (.ref a), some (.ref k), y] ∧ Same H H' ∧ H' k = some (.lst ((stack [] (xs.take i)).reverse.map V.int))) rfl (sqT_same (same_new hk) hS) ⟨none, rfl, same_new hk, upd_same⟩
    (fun i σ H' _ h => ?_) (fun i x σ H' hx h => ?_) (fun σ H' h => ?_)
  · obtain ⟨y, rfl, sm, _⟩ := h
    exact sqT_same sm hS
  · obtain ⟨y, rfl, sm, ek⟩ := h
    obtain ⟨z, hz2, rfl⟩ := item_of hx
    have el : (stack [] (xs.take i)).length ≤ xs.length := Nat.le_trans (stack_len _ _) (by rw [List.length_take]; simp only [List.length_nil]; omega)
    have en : stack [] (xs.take (i + 1)) = push (stack [] (xs.take i)) z := by rw [take_more hz2, stack_snoc]
    have more : ∀ st, stack [] (xs.take i) = st → (∀ y r, st = y :: r → ¬ y = -z) → push st z = z :: st := fun st _ hn => by
      cases st with
      | nil => rfl
      | cons y r => exact push_n r (hn y r rfl)
    walk_at "rd"
    refine truL (.inl (.inl ek)) ?_
    cases hst : stack [] (xs.take i) with
    | nil =>
      rw [hst] at ek en el
      refine iteF (iteF ?_)
      walk_at "rd"
      refine ⟨tyl ek, ?_⟩
      walk_at "rd"
      refine app ek (by simp) ?_
      walk_at "rd"
      refine ⟨_, rfl, same_mut sm hk, ?_⟩
      rw [upd_same, en]
      rfl
    | cons y r =>
      rw [hst] at ek en el
      have ee : (y :: r).reverse.map V.int = r.reverse.map V.int ++ [.int y] := by simp
      rw [ee] at ek ⊢
      rw [show (!(List.map V.int r.reverse ++ [V.int y]).isEmpty) = true by simp]
      refine iteT ?_
      walk_at "rd"
      refine rd_ixL (.inl (.inl ek)) (atI_last _ _) ?_
      walk_at "rd"
      refine rd_eqI ?_
      walk_at "rd"
      refine rd_ite (fun e => ?_) fun e => ?_
      · have e := of_decide_eq_true e
        walk_at "rd"
        refine ⟨tyL (.inl (.inl ek)), k, _, .int y, rfl, rfl, ek, by simp, ?_⟩
        walk_at "rd"
        refine ⟨_, rfl, same_mut sm hk, ?_⟩
        rw [upd_same, en, push_c r e, List.dropLast_concat]
      · have e := of_decide_eq_false e
        walk_at "rd"
        refine ⟨tyl ek, ?_⟩
        walk_at "rd"
        refine app ek (by simp only [List.length_append, List.length_map, List.length_reverse, List.length_cons, List.length_nil] at el ⊢; omega) ?_
        walk_at "rd"
        refine ⟨_, rfl, same_mut sm hk, ?_⟩
        rw [upd_same, en, push_n r e]
        simp
  · obtain ⟨y, rfl, sm, ek⟩ := h
    rw [List.length_map, List.take_length] at ek
    walk_at "rd"
    refine rd_tupOfL (.inl (.inl ek)) fun p o hp ho hd => q p _ (sm.trans (same_new hp)) ⟨o, upd_same, ho, hd⟩
/-! ### own: undone -/
def negV : V → V
  | .int i => .int (-i)
  | v => v
def spUndone (K : PySem.W.Frag) : Sp := fun vs H Q _ => ∃ (a : Addr) (xs : List Int), vs = [.ref a] ∧ SqT K H a (xs.map V.int) ∧ xs.length ≤ 10000 ∧ ∀ p H', Same H H' → Tp H' p ((inv xs).map V.int) → Q (.ref p) H'
theorem neg_map (xs : List Int) : ((xs.map V.int).reverse.filter (fun _ => true)).map negV = (inv xs).map V.int := by
  rw [List.filter_eq_self.mpr fun _ _ => rfl]
  simp [inv, List.map_reverse, Function.comp_def, negV]
theorem mem_int {xs : List Int} {x : V} (h : x ∈ (xs.map V.int).reverse) : ∃ z, x = .int z := by
  obtain ⟨z, _, e⟩ := List.mem_map.mp (List.mem_reverse.mp h)
  exact ⟨z, e.symm⟩
/-! ### undone_letters -/
abbrev s_undone_letters : Stmt := top 7
abbrev N_undone_letters : List Str := ["letters", "letter"]
theorem sc_undone_letters : FnScope ["letters", "letter"] ["letters"] (defScope s_undone_letters) := ⟨rfl, rfl, rfl, by decide +kernel, rfl, by decide +kernel, by decide +kernel⟩
theorem bd_undone_letters : Bnd s_undone_letters "undone_letters" ["letters"] := fun _ _ _ _ _ _ us hl => match us, hl with | [_], _ => rfl

theorem d_undone_letters (T : Bs K mg) (R : Rw K mg "undone_letters" s_undone_letters) : Df P w K mg base CX0 1 "undone_letters" s_undone_letters ["letters"] (spUndone K) := by
  refine mk0 R sc_undone_letters bd_undone_letters (fun vs H Q E h => ?_) fun f cdv A outer s H vs Q E hr h => ?_
  · obtain ⟨a, xs, rfl, _⟩ := h; rfl
  obtain ⟨a, xs, rfl, hS, hz, q⟩ := h
  refine ⟨_, (pss_one (ps_ret (pe_callTy call_tupN (by rfl) T.n_tuple (by decide +kernel) (pa_cons (pe_lc (own := [("letter", 1)]) rfl sc_undone_letters.nd (RT.pi_revA (by rfl) T.n_reversed (pv 0)) (blkOk_by (own := [("letter", 1)]) (N := ["letters", "letter"]) (sc := defScope s_undone_letters) (by decide +kernel)) (fun _ _ _ _ _ => (pg_name (i := 1) sc_undone_letters.nd rfl (Or.inl rfl))) (fun _ _ _ _ _ => pts_nil) (fun _ _ _ _ _ => (pe_un un_neg (pv 1)))) pa_nil)))), ?_⟩
  walk_at "rd"
  refine ⟨.ref a, rfl, a, xs.map V.int, rfl, .inr ⟨hS, fun D hD => ?_⟩⟩
  refine lc_pure walk_revT hD (xs.map V.int).reverse (fun _ => true) negV (by simp) (by simp only [List.length_map]; omega) (fun H' e => sqT_same e hS) (fun i H x H' hi y => y) (fun x H' hx e R R0 h1 h0 => ?_) fun H' e hD' => ?_
  · obtain ⟨z, rfl⟩ := mem_int hx
    walk_at "rd"
    refine ⟨rfl, ?_⟩
    walk_at "rd"
    refine iteT ?_
    walk_at "rd"
    exact h1 rfl H' (Same.refl _)
  · rw [neg_map] at hD'
    walk_at "rd"
    exact rd_tupOfL (.inl (.inl hD')) fun p o hp ho hd => q p _ (e.trans (same_new hp)) ⟨o, upd_same, ho, hd⟩
/-! ### is_whole and its like -/
def spWhole (K : PySem.W.Frag) : Sp := fun vs H Q _ => ∃ (v : V) (d : Dat), vs = [v] ∧ Rp K H v d ∧ Q (.bl d.whole) H
abbrev s_is_whole : Stmt := top 11
abbrev N_is_whole : List Str := ["value"]
theorem sc_is_whole : FnScope ["value"] ["value"] (defScope s_is_whole) := ⟨rfl, rfl, rfl, by decide +kernel, rfl, by decide +kernel, by decide +kernel⟩
theorem bd_is_whole : Bnd s_is_whole "is_whole" ["value"] := fun _ _ _ _ _ _ us hl => match us, hl with | [_], _ => rfl

theorem d_is_whole (T : Bs K mg) (R : Rw K mg "is_whole" s_is_whole) : Df P w K mg base CX0 1 "is_whole" s_is_whole ["value"] (spWhole K) := by
  refine mk0 R sc_is_whole bd_is_whole (fun vs H Q E h => ?_) fun f cdv A outer s H vs Q E hr h => ?_
  · obtain ⟨v, d, rfl, _⟩ := h; rfl
  obtain ⟨v, d, rfl, hv, q⟩ := h
  refine ⟨_, (pss_one (ps_ret (pe_and (pe_callB call_isU (by rfl) T.n_isinstance (by decide +kernel) (pa_cons (pv 0) (pa_cons (pe_bltn (v := .ty "int") (by rfl) T.n_int (by decide +kernel) rfl) pa_nil))) (pe_one (pe_not (pe_callB call_isU (by rfl) T.n_isinstance (by decide +kernel) (pa_cons (pv 0) (pa_cons (pe_bltn (v := .ty "bool") (by rfl) T.n_bool (by decide +kernel) rfl) pa_nil)))))))), ?_⟩
  walk_at "rd"
  refine rd_isT hv (kit_int d) ?_
  walk_at "rd"
  unfold Dat.whole at q
  refine rd_ite (fun e => ?_) fun e => ?_
  · walk_at "rd"
    refine rd_isT hv (kit_bool d) ?_
    walk_at "rd"
    rw [e] at q
    exact q
  · rw [e] at q
    exact q
def spFrom (K : PySem.W.Frag) : Sp := fun vs H Q _ => ∃ (v : V) (d : Dat) (lo hi : Int), vs = [v, .int lo, .int hi] ∧ Rp K H v d ∧ Q (.bl (d.from lo hi)) H
abbrev s_is_whole_from : Stmt := top 12
abbrev N_is_whole_from : List Str := ["value", "low", "high"]
theorem sc_is_whole_from : FnScope ["value", "low", "high"] ["value", "low", "high"] (defScope s_is_whole_from) := ⟨rfl, rfl, rfl, by decide +kernel, rfl, by decide +kernel, by decide +kernel⟩
theorem bd_is_whole_from : Bnd s_is_whole_from "is_whole_from" ["value", "low", "high"] := fun _ _ _ _ _ _ us hl => match us, hl with | [_, _, _], _ => rfl

theorem d_is_whole_from (T : Bs K mg) (R : Rw K mg "is_whole_from" s_is_whole_from) (D_is_whole : Df P w K mg base CX0 1 "is_whole" s_is_whole ["value"] (spWhole K)) :
    Df P w K mg base CX0 2 "is_whole_from" s_is_whole_from ["value", "low", "high"] (spFrom K) := by
  refine mk0 R sc_is_whole_from bd_is_whole_from (fun vs H Q E h => ?_) fun f cdv A outer s H vs Q E hr h => ?_
  · obtain ⟨v, d, lo, hi, rfl, _⟩ := h; rfl
  obtain ⟨v, d, lo, hi, rfl, hv, q⟩ := h
  refine ⟨_, (pss_one (ps_ret (pe_and (pe_d D_is_whole hr (by decide) (by rfl) pass0 (pa_cons (pv 0) pa_nil)) (pe_one (pe_chain op_le op_le (pv 1) (pv 0) (pv 2)))))), ?_⟩
  walk_at "rd"
  refine ⟨v, d, rfl, hv, ?_⟩
  walk_at "rd"
  refine rd_ite (fun e => ?_) fun e => ?_
  · obtain ⟨i, rfl⟩ := Dat.whole_int e
    obtain ⟨rfl, _⟩ := hv
    have q : Q (.bl (decide (lo ≤ i) && decide (i ≤ hi))) H := q
    walk_at "rd"
    refine rd_ite (fun e1 => ?_) fun e1 => ?_
    · rw [e1] at q
      walk_at "rd"
      exact q
    · rw [e1] at q
      exact q
  · rw [Dat.from_no e] at q
    exact q
def spLetter (K : PySem.W.Frag) : Sp := fun vs H Q _ => ∃ (n : Int) (v : V) (d : Dat), vs = [.int n, v] ∧ Rp K H v d ∧ Q (.bl (d.letter n)) H
abbrev s_is_letter : Stmt := top 13
abbrev N_is_letter : List Str := ["deeds", "value"]
theorem sc_is_letter : FnScope ["deeds", "value"] ["deeds", "value"] (defScope s_is_letter) := ⟨rfl, rfl, rfl, by decide +kernel, rfl, by decide +kernel, by decide +kernel⟩
theorem bd_is_letter : Bnd s_is_letter "is_letter" ["deeds", "value"] := fun _ _ _ _ _ _ us hl => match us, hl with | [_, _], _ => rfl

theorem d_is_letter (T : Bs K mg) (R : Rw K mg "is_letter" s_is_letter) (D_is_whole_from : Df P w K mg base CX0 2 "is_whole_from" s_is_whole_from ["value", "low", "high"] (spFrom K)) :
    Df P w K mg base CX0 3 "is_letter" s_is_letter ["deeds", "value"] (spLetter K) := by
  refine mk0 R sc_is_letter bd_is_letter (fun vs H Q E h => ?_) fun f cdv A outer s H vs Q E hr h => ?_
  · obtain ⟨n, v, d, rfl, _⟩ := h; rfl
  obtain ⟨n, v, d, rfl, hv, q⟩ := h
  refine ⟨_, (pss_one (ps_ret (pe_and (pe_d D_is_whole_from hr (by decide) (by rfl) pass0 (pa_cons (pv 1) (pa_cons (pe_un un_neg (pv 0)) (pa_cons (pv 0) pa_nil)))) (pe_one (pe_cmpR (op_neU hr.units) (pv 1) pe_int (nomark _)))))), ?_⟩
  walk_at "rd"
  refine ⟨v, d, -n, n, rfl, hv, ?_⟩
  walk_at "rd"
  refine rd_ite (fun e => ?_) fun e => ?_
  · obtain ⟨i, rfl, h1, h2⟩ := Dat.from_int e
    obtain ⟨rfl, _⟩ := hv
    have q : Q (.bl (decide (-n ≤ i) && decide (i ≤ n) && !decide (i = 0))) H := q
    rw [decide_eq_true h1, decide_eq_true h2] at q
    walk_at "rd"
    exact rd_neI q
  · rw [Dat.letter_no e] at q
    exact q
def spLRow (K : PySem.W.Frag) : Sp := fun vs H Q _ => ∃ (n : Int) (v : V) (d : Dat), vs = [.int n, v] ∧ Rp K H v d ∧ ∀ H', Same H H' → Q (.bl (d.row n)) H'
theorem let_map (n : Int) (xs : List V) : (xs.filter (fun _ => true)).map (fun x => V.bl (letV n x)) = (xs.map (letV n)).map V.bl := by
  rw [List.filter_eq_self.mpr fun _ _ => rfl, List.map_map] <;> rfl
def spARow (K : PySem.W.Frag) : Sp := fun vs H Q _ => ∃ (n : Int) (v : V) (d : Dat), vs = [.int n, v] ∧ Rp K H v d ∧ ∀ H', Same H H' → Q (.bl (d.lets n)) H'
abbrev s_are_letters : Stmt := top 14
abbrev N_are_letters : List Str := ["deeds", "value", "item"]
theorem sc_are_letters : FnScope ["deeds", "value", "item"] ["deeds", "value"] (defScope s_are_letters) := ⟨rfl, rfl, rfl, by decide +kernel, rfl, by decide +kernel, by decide +kernel⟩
theorem bd_are_letters : Bnd s_are_letters "are_letters" ["deeds", "value"] := fun _ _ _ _ _ _ us hl => match us, hl with | [_, _], _ => rfl

theorem d_are_letters (T : Bs K mg) (R : Rw K mg "are_letters" s_are_letters) (D_is_letter : Df P w K mg base CX0 3 "is_letter" s_is_letter ["deeds", "value"] (spLetter K)) :
    Df P w K mg base CX0 4 "are_letters" s_are_letters ["deeds", "value"] (spARow K) := by
  refine mk0 R sc_are_letters bd_are_letters (fun vs H Q E h => ?_) fun f cdv A outer s H vs Q E hr h => ?_
  · obtain ⟨n, v, d, rfl, _⟩ := h; rfl
  obtain ⟨n, v, d, rfl, hv, q⟩ := h
  refine ⟨_, (pss_one (ps_ret (pe_and (pe_callB call_isU (by rfl) T.n_isinstance (by decide +kernel) (pa_cons (pv 1) (pa_cons (pe_bltn (v := .ty "tuple") (by rfl) T.n_tuple (by decide +kernel) rfl) pa_nil))) (pe_one (pe_callB (cr_all rfl) (by rfl) T.n_all (by decide +kernel) (pa_cons (pe_lc (own := [("item", 2)]) rfl sc_are_letters.nd (pi_U (pv 1)) (blkOk_by (own := [("item", 2)]) (N := ["deeds", "value", "item"]) (sc := defScope s_are_letters) (by decide +kernel)) (fun _ _ _ _ _ => (pg_name (i := 2) sc_are_letters.nd rfl (Or.inl rfl))) (fun _ _ _ _ _ => pts_nil) (fun _ _ _ _ _ => (pe_d D_is_letter hr (by decide) (by rfl) pass0 (pa_cons (pv 0) (pa_cons (pv 2) pa_nil))))) pa_nil)))))), ?_⟩
  walk_at "rd"
  refine rd_isT hv (kit_tuple d) ?_
  walk_at "rd"
  cases d with
  | flat u =>
    refine iteF ?_
    exact q H (Same.refl _)
  | lst xs =>
    refine iteF ?_
    exact q H (Same.refl _)
  | dct =>
    refine iteF ?_
    exact q H (Same.refl _)
  | tup xs =>
    obtain ⟨a, rfl, hS, hp⟩ := hv
    have q : ∀ H', Same H H' → Q (.bl (xs.all (letV n))) H' := q
    refine iteT ?_
    walk_at "rd"
    refine .inr ⟨.ref a, rfl, a, rfl, ⟨xs, hS⟩, fun D hD => ?_⟩
    refine lc_pure walk_tup hD xs (fun _ => true) (fun x => .bl (letV n x)) rfl (by have := okB_len hp; omega) (fun H' e => sqT_same e hS) (fun i H x H' hi y => y) (fun x H' hx e R R0 h1 h0 => ?_) fun H' e hD' => ?_
    · walk_at "rd"
      refine ⟨rfl, ?_⟩
      walk_at "rd"
      refine iteT ?_
      walk_at "rd"
      exact ⟨n, x, .flat x, rfl, ⟨rfl, List.all_eq_true.mp (okB_all hp) x hx⟩, h1 rfl H' (Same.refl _)⟩
    · rw [let_map] at hD'
      walk_at "rd"
      refine ⟨D, xs.map (letV n), rfl, .inl (.inl hD'), ?_⟩
      have q := q H' e
      rw [show ((xs.map (letV n)).all id) = xs.all (letV n) by simp [List.all_map]]
      exact q
abbrev s_is_letter_row : Stmt := top 15
abbrev N_is_letter_row : List Str := ["deeds", "value"]
theorem sc_is_letter_row : FnScope ["deeds", "value"] ["deeds", "value"] (defScope s_is_letter_row) := ⟨rfl, rfl, rfl, by decide +kernel, rfl, by decide +kernel, by decide +kernel⟩
theorem bd_is_letter_row : Bnd s_is_letter_row "is_letter_row" ["deeds", "value"] := fun _ _ _ _ _ _ us hl => match us, hl with | [_, _], _ => rfl

theorem d_is_letter_row (T : Bs K mg) (R : Rw K mg "is_letter_row" s_is_letter_row) (D_are_letters : Df P w K mg base CX0 4 "are_letters" s_are_letters ["deeds", "value"] (spARow K)) :
    Df P w K mg base CX0 5 "is_letter_row" s_is_letter_row ["deeds", "value"] (spLRow K) := by
  refine mk0 R sc_is_letter_row bd_is_letter_row (fun vs H Q E h => ?_) fun f cdv A outer s H vs Q E hr h => ?_
  · obtain ⟨n, v, d, rfl, _⟩ := h; rfl
  obtain ⟨n, v, d, rfl, hv, q⟩ := h
  refine ⟨_, (pss_one (ps_ret (pe_and (pe_d D_are_letters hr (by decide) (by rfl) pass0 (pa_cons (pv 0) (pa_cons (pv 1) pa_nil))) (pe_one (pe_cmpR op_le (pe_callB call_len (by rfl) T.n_len (by decide +kernel) (pa_cons (pv 1) pa_nil)) (pe_gi T.c_MOST_LETTERS (by rfl)) (nomark _)))))), ?_⟩
  walk_at "rd"
  refine ⟨n, v, d, rfl, hv, fun H1 e1 => ?_⟩
  have q := q H1 e1
  refine ⟨_, rfl, ?_⟩
  cases d with
  | flat u => exact iteF q
  | lst xs => exact iteF q
  | dct => exact iteF q
  | tup xs =>
    obtain ⟨a, rfl, hS, hp⟩ := hv
    have q : Q (.bl (decide (xs.length ≤ 200) && xs.all (letV n))) H1 := q
    rw [Bool.and_comm] at q
    refine rd_ite (fun e => ?_) fun e => ?_
    · rw [show xs.all (letV n) = true from e, Bool.true_and] at q
      walk_at "rd"
      refine lenT (sqT_same e1 hS) ?_
      walk_at "rd"
      rw [show decide (((xs.length : Nat) : Int) ≤ 200) = decide (xs.length ≤ 200) from decide_eq_decide.mpr (by omega)]
      exact q
    · rw [show xs.all (letV n) = false from e, Bool.false_and] at q
      exact q
/-! ### check_deeds, taken_row -/
def Dat.deeds (d : Dat) : Bool := d.from 1 4
def spDeeds (K : PySem.W.Frag) : Sp := fun vs H Q E => ∃ (v : V) (d : Dat), vs = [v] ∧ Rp K H v d ∧ (d.from 1 4 = true → Q .non H) ∧ (d.from 1 4 = false → E (.ref (He.ga K "BadDeeds")) none H)
abbrev s_check_deeds : Stmt := top 16
abbrev N_check_deeds : List Str := ["deeds"]
theorem sc_check_deeds : FnScope ["deeds"] ["deeds"] (defScope s_check_deeds) := ⟨rfl, rfl, rfl, by decide +kernel, rfl, by decide +kernel, by decide +kernel⟩
theorem bd_check_deeds : Bnd s_check_deeds "check_deeds" ["deeds"] := fun _ _ _ _ _ _ us hl => match us, hl with | [_], _ => rfl

theorem d_check_deeds (T : Bs K mg) (R : Rw K mg "check_deeds" s_check_deeds) (D_is_whole_from : Df P w K mg base CX0 2 "is_whole_from" s_is_whole_from ["value", "low", "high"] (spFrom K)) :
    Df P w K mg base (L2.CX P w) 3 "check_deeds" s_check_deeds ["deeds"] (spDeeds K) := by
  refine mkX R sc_check_deeds bd_check_deeds (fun vs H Q E h => ?_) fun f cdv A outer s H vs Q E hr h => ?_
  · obtain ⟨v, d, rfl, _⟩ := h; rfl
  obtain ⟨v, d, rfl, hv, q1, q0⟩ := h
  refine ⟨_, (pss_one (ps_if (pt_not (pt_tru (pe_d D_is_whole_from hr (by decide) (by rfl) pass0 (pa_cons (pv 0) (pa_cons pe_int (pa_cons (pe_gi T.c_MOST_DEEDS (by rfl)) pa_nil)))) (by intro _; rfl))) (pss_one (ps_raiseX T.x_BadDeeds (by rfl) (pe_joined (.cons pe_str (.cons (pe_fmt (pe_gi T.c_MOST_DEEDS (by rfl))) .nil))) (still2 (by decide +kernel) (by decide) (by decide +kernel)) (takes_of rfl rfl rfl rfl))) pss_nil)), ?_⟩
  walk_at "rd"
  refine ⟨v, d, 1, 4, rfl, hv, ?_⟩
  refine truB ?_
  cases e : d.from 1 4 with
  | true => exact iteF (q1 e)
  | false => exact iteT (q0 e)
def spTaken (K : PySem.W.Frag) : Sp := fun vs H Q E => ∃ (n : Int) (v : V) (d : Dat), vs = [.int n, v] ∧ Rp K H v d ∧
  (∀ xs : List Int, d = .tup (xs.map V.int) → d.row n = true → ∀ p H', Same H H' → Tp H' p ((red xs).map V.int) → Q (.ref p) H') ∧ (d.row n = false → ∀ H', Same H H' → E (.ref (He.ga K "BadRow")) none H')
theorem Dat.row_ints {n : Int} {d : Dat} (h : d.row n = true) : ∃ xs : List Int, d = .tup (xs.map V.int) ∧ xs.length ≤ 200 ∧ ∀ x ∈ xs, -n ≤ x ∧ x ≤ n ∧ x ≠ 0 := by
  cases d with
  | flat v => cases h
  | lst xs => cases h
  | dct => cases h
  | tup vs =>
    have h : (decide (vs.length ≤ 200) && vs.all (letV n)) = true := h
    obtain ⟨h1, h2⟩ := Bool.and_eq_true_iff.mp h
    have h1 := of_decide_eq_true h1
    have key : ∀ ws : List V, ws.all (letV n) = true → ∃ xs : List Int, ws = xs.map V.int ∧ ∀ x ∈ xs, -n ≤ x ∧ x ≤ n ∧ x ≠ 0 := by
      intro ws
      induction ws with
      | nil => intro _; exact ⟨[], rfl, fun _ z => nomatch z⟩
      | cons v r ih =>
        intro hw
        obtain ⟨a, b⟩ := Bool.and_eq_true_iff.mp (show (letV n v && r.all (letV n)) = true from hw)
        obtain ⟨xs, e, m⟩ := ih b
        cases v with
        | int i =>
          have a : (decide (-n ≤ i) && decide (i ≤ n) && !decide (i = 0)) = true := a
          simp only [Bool.and_eq_true, decide_eq_true_eq, Bool.not_eq_true', decide_eq_false_iff_not] at a
          refine ⟨i :: xs, by rw [e] <;> rfl, fun x hx => ?_⟩
          rcases List.mem_cons.mp hx with z | z
          · rw [z]; exact ⟨a.1.1, a.1.2, a.2⟩
          · exact m x z
        | _ => cases a
    obtain ⟨xs, e, m⟩ := key vs h2
    subst e
    exact ⟨xs, rfl, by simpa using h1, m⟩
abbrev s_taken_row : Stmt := top 17
abbrev N_taken_row : List Str := ["deeds", "row"]
theorem sc_taken_row : FnScope ["deeds", "row"] ["deeds", "row"] (defScope s_taken_row) := ⟨rfl, rfl, rfl, by decide +kernel, rfl, by decide +kernel, by decide +kernel⟩
theorem bd_taken_row : Bnd s_taken_row "taken_row" ["deeds", "row"] := fun _ _ _ _ _ _ us hl => match us, hl with | [_, _], _ => rfl

theorem d_taken_row (T : Bs K mg) (R : Rw K mg "taken_row" s_taken_row) (D_is_letter_row : Df P w K mg base CX0 5 "is_letter_row" s_is_letter_row ["deeds", "value"] (spLRow K))
    (D_plain_letters : Df P w K mg base CX0 1 "plain_letters" s_plain_letters ["letters"] (spPlain K)) : Df P w K mg base (L2.CX P w) 6 "taken_row" s_taken_row ["deeds", "row"] (spTaken K) := by
  refine mkX R sc_taken_row bd_taken_row (fun vs H Q E h => ?_) fun f cdv A outer s H vs Q E hr h => ?_
  · obtain ⟨n, v, d, rfl, _⟩ := h; rfl
  obtain ⟨n, v, d, rfl, hv, q1, q0⟩ := h
  refine ⟨_, (pss_cons (ps_if (pt_not (pt_tru (pe_d D_is_letter_row hr (by decide) (by rfl) pass0 (pa_cons (pv 0) (pa_cons (pv 1) pa_nil))) (by intro _; rfl))) (pss_one (ps_raiseX T.x_BadRow (by rfl) (pe_joined (.cons pe_str (.cons (pe_fmt (pe_gi T.c_MOST_LETTERS (by rfl))) (.cons pe_str .nil)))) (still3 (by decide +kernel) (by decide) (by decide +kernel) (by decide +kernel)) (takes_of rfl rfl rfl rfl))) pss_nil)
      (pss_one (ps_ret (pe_d D_plain_letters hr (by decide) (by rfl) pass0 (pa_cons (pv 1) pa_nil))))), ?_⟩
  walk_at "rd"
  refine ⟨n, v, d, rfl, hv, fun H1 e1 => ?_⟩
  refine truB ?_
  cases e : d.row n with
  | false => exact iteT (q0 e H1 e1)
  | true =>
    refine iteF ?_
    obtain ⟨xs, rfl, hl, _⟩ := Dat.row_ints e
    obtain ⟨a, rfl, hS, _⟩ := hv
    walk_at "rd"
    exact ⟨a, xs, rfl, sqT_same e1 hS, by omega, fun p H2 e2 ht => q1 xs rfl e p H2 (e1.trans e2) ht⟩
end
end KP

set_option linter.all false
set_option maxRecDepth 100000
set_option maxHeartbeats 4000000
namespace KP
open PySem PySem.Spec PyProof.Rows L2 XA XB XC XD XM XE XF XG
local macro_rules | `(tactic| walk_at "rd") => `(tactic| repeat (first
  | (with_reducible refine rd_seq ?_) | (with_reducible refine rd_asg ?_) | ((with_reducible refine' rd_var ?hv ?_); (case hv => exact rfl)) | (with_reducible refine rd_c ?_) | (with_reducible refine rd_gn ?_)
  | (with_reducible refine rd_op ?_) | (with_reducible refine rd_un ?_) | (with_reducible refine rd_cons ?_) | (with_reducible refine rd_nil ?_) | (with_reducible refine rd_cl ?_) | (with_reducible refine rd_ck ?_) | (with_reducible refine rd_cb ?_)
  | (with_reducible refine rd_ret ?_) | (with_reducible refine rd_drop ?_) | (with_reducible refine rd_ifs ?_) | (with_reducible refine rd_if ?_) | (with_reducible refine rd_test ?_) | (with_reducible refine rd_tb ?_) | (with_reducible refine rd_and ?_) | (with_reducible refine rd_or ?_)
  | (with_reducible refine rd_not ?_) | (with_reducible refine rd_andV ?_) | (with_reducible refine rd_orV ?_) | (with_reducible refine rd_notV ?_) | (with_reducible refine rd_chain ?_) | (with_reducible refine rd_tup ?_) | (with_reducible refine rd_lst ?_)
  | (with_reducible refine rd_bm0 ?_) | (with_reducible refine rd_bm ?_) | (with_reducible refine rd_sl ?_) | (with_reducible refine rd_part ?_) | (with_reducible refine rd_nopart ?_) | (with_reducible refine rd_dget ?_) | (with_reducible refine rd_dput ?_)
  | (with_reducible refine rd_next ?_) | (with_reducible refine rd_lc ?_) | ((with_reducible refine' rd_aug ?hv ?_); (case hv => exact rfl)) | (with_reducible refine rd_cont ?_) | (with_reducible refine rd_gcons ?_) | (with_reducible refine rd_gnil ?_) | (with_reducible refine rd_ifT ?_) | (with_reducible refine rd_yes ?_) | (with_reducible refine rd_tru ?_) | (with_reducible refine rd_cntE ?_) | (with_reducible refine rd_rng1 ?_) | (with_reducible refine rd_lrg ?_) | (with_reducible refine rd_rg2 ?_) | (with_reducible refine rd_back ?_) | (with_reducible refine rd_disp ?_) | (with_reducible refine rd_prN ?_) | (with_reducible refine rd_prC ?_) | (with_reducible refine rd_par ?_) | (with_reducible refine rd_par3 ?_) | (with_reducible refine rd_two ?_) | (with_reducible refine rd_three ?_) | (with_reducible refine rd_one ?_) | (with_reducible refine rd_onei ?_) | (with_reducible refine rd_iL ?_) | (with_reducible refine rd_iT ?_) | (with_reducible refine rd_rng2 ?_) | (with_reducible refine rd_bl ?_) | (with_reducible refine rd_int ?_) | (with_reducible refine rd_I0 ?_) | (with_reducible refine rd_U ?_) | (with_reducible refine rd_din ?_) | (with_reducible refine rd_dnin ?_) | (with_reducible refine rd_dnew ?_) | (with_reducible refine rd_lset ?_) | (with_reducible refine rd_enT ?_) | (with_reducible refine rd_idx ?_) | (with_reducible refine rd_rg1 ?_) | (with_reducible refine rd_tupRg ?_)))

section
variable {P : Program} {w : World} {K : PySem.W.Frag} {mg : Str → Option Value} {base : Heap}
abbrev eDeeds (K : PySem.W.Frag) : Value := .ref (He.ga K "BadDeeds")
abbrev eRow (K : PySem.W.Frag) : Value := .ref (He.ga K "BadRow")
abbrev eNum (K : PySem.W.Frag) : Value := .ref (He.ga K "BadNumber")
/-! ### is_row -/
def spIsRow (K : PySem.W.Frag) : Sp := fun vs H Q E => ∃ (v1 : V) (d1 : Dat) (v2 : V) (d2 : Dat), vs = [v1, v2] ∧ Rp K H v1 d1 ∧ Rp K H v2 d2 ∧
  (d1.from 1 4 = false → E (eDeeds K) none H) ∧ ∀ n, d1 = .flat (.int n) → d1.from 1 4 = true → ∀ H', Same H H' → Q (.bl (d2.row n)) H'
abbrev s_is_row : Stmt := top 20
abbrev N_is_row : List Str := ["deeds", "value"]
theorem sc_is_row : FnScope ["deeds", "value"] ["deeds", "value"] (defScope s_is_row) := ⟨rfl, rfl, rfl, by decide +kernel, rfl, by decide +kernel, by decide +kernel⟩
theorem bd_is_row : Bnd s_is_row "is_row" ["deeds", "value"] := fun _ _ _ _ _ _ us hl => match us, hl with | [_, _], _ => rfl

theorem d_is_row (T : Bs K mg) (R : Rw K mg "is_row" s_is_row) (D_check_deeds : Df P w K mg base (L2.CX P w) 3 "check_deeds" s_check_deeds ["deeds"] (spDeeds K))
    (D_is_letter_row : Df P w K mg base CX0 5 "is_letter_row" s_is_letter_row ["deeds", "value"] (spLRow K)) : Df P w K mg base (L2.CX P w) 7 "is_row" s_is_row ["deeds", "value"] (spIsRow K) := by
  refine mkX R sc_is_row bd_is_row (fun vs H Q E h => ?_) fun f cdv A outer s H vs Q E hr h => ?_
  · obtain ⟨v1, d1, v2, d2, rfl, _⟩ := h; rfl
  obtain ⟨v1, d1, v2, d2, rfl, h1, h2, q0, q1⟩ := h
  refine ⟨_, (pss_cons (ps_expr (pe_d D_check_deeds hr (by decide) (by rfl) passX (pa_cons (pv 0) pa_nil)))
      (pss_one (ps_ret (pe_d D_is_letter_row hr (by decide) (by rfl) pass0 (pa_cons (pv 0) (pa_cons (pv 1) pa_nil)))))), ?_⟩
  walk_at "rd"
  refine ⟨v1, d1, rfl, h1, fun e => ?_, q0⟩
  obtain ⟨n, rfl, b1, b2⟩ := Dat.from_int e
  obtain ⟨rfl, _⟩ := h1
  walk_at "rd"
  exact ⟨n, v2, d2, rfl, h2, q1 n rfl e⟩
/-! ### plain, undone, sums: one row -/
def spOne (K : PySem.W.Frag) (g : Int → List Int → List Int) : Sp := fun vs H Q E => ∃ (v1 : V) (d1 : Dat) (v2 : V) (d2 : Dat), vs = [v1, v2] ∧ Rp K H v1 d1 ∧ Rp K H v2 d2 ∧
  (d1.from 1 4 = false → E (eDeeds K) none H) ∧ ∀ n, d1 = .flat (.int n) → d1.from 1 4 = true → (d2.row n = false → ∀ H', Same H H' → E (eRow K) none H') ∧
    ∀ xs : List Int, d2 = .tup (xs.map V.int) → d2.row n = true → ∀ p H', Same H H' → Tp H' p ((g n xs).map V.int) → Q (.ref p) H'
/-! ### plain -/
abbrev s_plain : Stmt := top 21
abbrev N_plain : List Str := ["deeds", "row"]
theorem sc_plain : FnScope ["deeds", "row"] ["deeds", "row"] (defScope s_plain) := ⟨rfl, rfl, rfl, by decide +kernel, rfl, by decide +kernel, by decide +kernel⟩
theorem bd_plain : Bnd s_plain "plain" ["deeds", "row"] := fun _ _ _ _ _ _ us hl => match us, hl with | [_, _], _ => rfl

theorem d_plain (T : Bs K mg) (R : Rw K mg "plain" s_plain) (D_check_deeds : Df P w K mg base (L2.CX P w) 3 "check_deeds" s_check_deeds ["deeds"] (spDeeds K))
    (D_taken_row : Df P w K mg base (L2.CX P w) 6 "taken_row" s_taken_row ["deeds", "row"] (spTaken K)) : Df P w K mg base (L2.CX P w) 7 "plain" s_plain ["deeds", "row"] (spOne K fun _ xs => red xs) := by
  refine mkX R sc_plain bd_plain (fun vs H Q E h => ?_) fun f cdv A outer s H vs Q E hr h => ?_
  · obtain ⟨v1, d1, v2, d2, rfl, _⟩ := h; rfl
  obtain ⟨v1, d1, v2, d2, rfl, h1, h2, q0, q1⟩ := h
  refine ⟨_, (pss_cons (ps_expr (pe_d D_check_deeds hr (by decide) (by rfl) passX (pa_cons (pv 0) pa_nil)))
      (pss_one (ps_ret (pe_d D_taken_row hr (by decide) (by rfl) passX (pa_cons (pv 0) (pa_cons (pv 1) pa_nil)))))), ?_⟩
  walk_at "rd"
  refine ⟨v1, d1, rfl, h1, fun e => ?_, q0⟩
  obtain ⟨n, rfl, b1, b2⟩ := Dat.from_int e
  obtain ⟨rfl, _⟩ := h1
  walk_at "rd"
  obtain ⟨q2, q3⟩ := q1 n rfl e
  exact ⟨n, v2, d2, rfl, h2, q3, q2⟩
/-! ### undone -/
abbrev s_undone : Stmt := top 22
abbrev N_undone : List Str := ["deeds", "row"]
theorem sc_undone : FnScope ["deeds", "row"] ["deeds", "row"] (defScope s_undone) := ⟨rfl, rfl, rfl, by decide +kernel, rfl, by decide +kernel, by decide +kernel⟩
theorem bd_undone : Bnd s_undone "undone" ["deeds", "row"] := fun _ _ _ _ _ _ us hl => match us, hl with | [_, _], _ => rfl

theorem d_undone (T : Bs K mg) (R : Rw K mg "undone" s_undone) (D_check_deeds : Df P w K mg base (L2.CX P w) 3 "check_deeds" s_check_deeds ["deeds"] (spDeeds K))
    (D_taken_row : Df P w K mg base (L2.CX P w) 6 "taken_row" s_taken_row ["deeds", "row"] (spTaken K)) (D_undone_letters : Df P w K mg base CX0 1 "undone_letters" s_undone_letters ["letters"] (spUndone K)) :
    Df P w K mg base (L2.CX P w) 7 "undone" s_undone ["deeds", "row"] (spOne K fun _ xs => inv (red xs)) := by
  refine mkX R sc_undone bd_undone (fun vs H Q E h => ?_) fun f cdv A outer s H vs Q E hr h => ?_
  · obtain ⟨v1, d1, v2, d2, rfl, _⟩ := h; rfl
  obtain ⟨v1, d1, v2, d2, rfl, h1, h2, q0, q1⟩ := h
  refine ⟨_, (pss_cons (ps_expr (pe_d D_check_deeds hr (by decide) (by rfl) passX (pa_cons (pv 0) pa_nil)))
      (pss_one (ps_ret (pe_d D_undone_letters hr (by decide) (by rfl) pass0 (pa_cons (pe_d D_taken_row hr (by decide) (by rfl) passX (pa_cons (pv 0) (pa_cons (pv 1) pa_nil))) pa_nil))))), ?_⟩
  walk_at "rd"
  refine ⟨v1, d1, rfl, h1, fun e => ?_, q0⟩
  obtain ⟨n, rfl, b1, b2⟩ := Dat.from_int e
  obtain ⟨rfl, _⟩ := h1
  walk_at "rd"
  obtain ⟨q2, q3⟩ := q1 n rfl e
  refine ⟨n, v2, d2, rfl, h2, fun xs e2 e3 p H1 s1 t1 => ?_, q2⟩
  walk_at "rd"
  have hl : xs.length ≤ 200 := by
    obtain ⟨ys, e4, l, _⟩ := Dat.row_ints e3
    rw [e2] at e4
    have e5 : (xs.map V.int).length = (ys.map V.int).length := congrArg List.length (Dat.tup.inj e4)
    simp only [List.length_map] at e5
    omega
  have hr2 := red_len xs
  exact ⟨p, red xs, rfl, t1.sqT, by omega, fun p2 H2 s2 t2 => q3 xs e2 e3 p2 H2 (s1.trans s2) t2⟩
/-! ### own: lengths -/
theorem row_len {n : Int} {xs : List Int} (h : (Dat.tup (xs.map V.int)).row n = true) : xs.length ≤ 200 := by
  have h : (decide ((xs.map V.int).length ≤ 200) && (xs.map V.int).all (letV n)) = true := h
  have := of_decide_eq_true (Bool.and_eq_true_iff.mp h).1
  simpa using this
/-! ### own: beside -/
def spBeside (K : PySem.W.Frag) : Sp := fun vs H Q E => ∃ (v1 : V) (d1 : Dat) (v2 : V) (d2 : Dat) (v3 : V) (d3 : Dat), vs = [v1, v2, v3] ∧ Rp K H v1 d1 ∧ Rp K H v2 d2 ∧ Rp K H v3 d3 ∧
  (d1.from 1 4 = false → E (eDeeds K) none H) ∧ ∀ n, d1 = .flat (.int n) → d1.from 1 4 = true → (d2.row n = false → ∀ H', Same H H' → E (eRow K) none H') ∧ (d3.row n = false → ∀ H', Same H H' → E (eRow K) none H') ∧
    ∀ xs ys : List Int, d2 = .tup (xs.map V.int) → d2.row n = true → d3 = .tup (ys.map V.int) → d3.row n = true → ∀ p H', Same H H' → Tp H' p ((red (red xs ++ red ys)).map V.int) → Q (.ref p) H'
/-! ### beside -/
abbrev s_beside : Stmt := top 23
abbrev N_beside : List Str := ["deeds", "one", "other", "first", "second"]
theorem sc_beside : FnScope ["deeds", "one", "other", "first", "second"] ["deeds", "one", "other"] (defScope s_beside) := ⟨rfl, rfl, rfl, by decide +kernel, rfl, by decide +kernel, by decide +kernel⟩
theorem bd_beside : Bnd s_beside "beside" ["deeds", "one", "other"] := fun _ _ _ _ _ _ us hl => match us, hl with | [_, _, _], _ => rfl

theorem d_beside (T : Bs K mg) (R : Rw K mg "beside" s_beside) (D_check_deeds : Df P w K mg base (L2.CX P w) 3 "check_deeds" s_check_deeds ["deeds"] (spDeeds K))
    (D_taken_row : Df P w K mg base (L2.CX P w) 6 "taken_row" s_taken_row ["deeds", "row"] (spTaken K)) (D_plain_letters : Df P w K mg base CX0 1 "plain_letters" s_plain_letters ["letters"] (spPlain K)) :
    Df P w K mg base (L2.CX P w) 7 "beside" s_beside ["deeds", "one", "other"] (spBeside K) := by
  refine mkX R sc_beside bd_beside (fun vs H Q E h => ?_) fun f cdv A outer s H vs Q E hr h => ?_
  · obtain ⟨v1, d1, v2, d2, v3, d3, rfl, _⟩ := h; rfl
  obtain ⟨v1, d1, v2, d2, v3, d3, rfl, h1, h2, h3, q0, q1⟩ := h
  refine ⟨_, (pss_cons (ps_expr (pe_d D_check_deeds hr (by decide) (by rfl) passX (pa_cons (pv 0) pa_nil)))
      (pss_cons (ps_set (i := 3) sc_beside.nd rfl (Or.inl rfl) (pe_d D_taken_row hr (by decide) (by rfl) passX (pa_cons (pv 0) (pa_cons (pv 1) pa_nil))))
      (pss_cons (ps_set (i := 4) sc_beside.nd rfl (Or.inl rfl) (pe_d D_taken_row hr (by decide) (by rfl) passX (pa_cons (pv 0) (pa_cons (pv 2) pa_nil))))
      (pss_one (ps_ret (pe_d D_plain_letters hr (by decide) (by rfl) pass0 (pa_cons (pe_op op_addU (pv 3) (pv 4)) pa_nil))))))), ?_⟩
  walk_at "rd"
  refine ⟨v1, d1, rfl, h1, fun e => ?_, q0⟩
  obtain ⟨n, rfl, b1, b2⟩ := Dat.from_int e
  obtain ⟨rfl, _⟩ := h1
  walk_at "rd"
  obtain ⟨q2, q3, q4⟩ := q1 n rfl e
  refine ⟨n, v2, d2, rfl, h2, fun xs ex rx p1 H1 s1 t1 => ?_, q2⟩
  walk_at "rd"
  refine ⟨n, v3, d3, rfl, h3.same s1, fun ys ey ry p2 H2 s2 t2 => ?_, fun e3 H2 s2 => q3 e3 H2 (s1.trans s2)⟩
  walk_at "rd"
  have l1 := red_len xs
  have l2 := red_len ys
  have l3 := row_len (by rw [← ex]; exact rx)
  have l4 := row_len (by rw [← ey]; exact ry)
  refine catS (t1.same s2).sqT t2.sqT (by simp only [List.length_map]; omega) fun p3 H3 s3 t3 => ?_
  walk_at "rd"
  refine ⟨p3, red xs ++ red ys, rfl, by rw [List.map_append]; exact t3, by simp only [List.length_append]; omega, fun p4 H4 s4 t4 => ?_⟩
  exact q4 xs ys ex rx ey ry p4 H4 (s1.trans (s2.trans (s3.trans s4))) t4
/-! ### own: so many times -/
def rep (n : Int) (xs : List Int) : List Int := (List.replicate n.toNat xs).flatten
def times (xs : List Int) (n : Int) : List Int := if n < 0 then red (rep (-n) (inv xs)) else red (rep n xs)
def spTimes (K : PySem.W.Frag) : Sp := fun vs H Q E => ∃ (v1 : V) (d1 : Dat) (v2 : V) (d2 : Dat) (v3 : V) (d3 : Dat), vs = [v1, v2, v3] ∧ Rp K H v1 d1 ∧ Rp K H v2 d2 ∧ Rp K H v3 d3 ∧
  (d1.from 1 4 = false → E (eDeeds K) none H) ∧ ∀ n, d1 = .flat (.int n) → d1.from 1 4 = true → (d2.row n = false → ∀ H', Same H H' → E (eRow K) none H') ∧ (d2.row n = true → d3.from (-20) 20 = false → ∀ H', Same H H' → E (eNum K) none H') ∧
    ∀ (xs : List Int) (m : Int), d2 = .tup (xs.map V.int) → d2.row n = true → d3 = .flat (.int m) → d3.from (-20) 20 = true → ∀ p H', Same H H' → Tp H' p ((times (red xs) m).map V.int) → Q (.ref p) H'
/-! ### times_row -/
abbrev s_times_row : Stmt := top 24
abbrev N_times_row : List Str := ["deeds", "row", "many", "letters"]
theorem sc_times_row : FnScope ["deeds", "row", "many", "letters"] ["deeds", "row", "many"] (defScope s_times_row) := ⟨rfl, rfl, rfl, by decide +kernel, rfl, by decide +kernel, by decide +kernel⟩
theorem bd_times_row : Bnd s_times_row "times_row" ["deeds", "row", "many"] := fun _ _ _ _ _ _ us hl => match us, hl with | [_, _, _], _ => rfl

theorem d_times_row (T : Bs K mg) (R : Rw K mg "times_row" s_times_row) (D_check_deeds : Df P w K mg base (L2.CX P w) 3 "check_deeds" s_check_deeds ["deeds"] (spDeeds K))
    (D_taken_row : Df P w K mg base (L2.CX P w) 6 "taken_row" s_taken_row ["deeds", "row"] (spTaken K)) (D_is_whole_from : Df P w K mg base CX0 2 "is_whole_from" s_is_whole_from ["value", "low", "high"] (spFrom K))
    (D_plain_letters : Df P w K mg base CX0 1 "plain_letters" s_plain_letters ["letters"] (spPlain K)) (D_undone_letters : Df P w K mg base CX0 1 "undone_letters" s_undone_letters ["letters"] (spUndone K)) :
    Df P w K mg base (L2.CX P w) 7 "times_row" s_times_row ["deeds", "row", "many"] (spTimes K) := by
  refine mkX R sc_times_row bd_times_row (fun vs H Q E h => ?_) fun f cdv A outer s H vs Q E hr h => ?_
  · obtain ⟨v1, d1, v2, d2, v3, d3, rfl, _⟩ := h; rfl
  obtain ⟨v1, d1, v2, d2, v3, d3, rfl, h1, h2, h3, q0, q1⟩ := h
  refine ⟨_, (pss_cons (ps_expr (pe_d D_check_deeds hr (by decide) (by rfl) passX (pa_cons (pv 0) pa_nil)))
      (pss_cons (ps_set (i := 3) sc_times_row.nd rfl (Or.inl rfl) (pe_d D_taken_row hr (by decide) (by rfl) passX (pa_cons (pv 0) (pa_cons (pv 1) pa_nil))))
      (pss_cons (ps_if (pt_not (pt_tru (pe_d D_is_whole_from hr (by decide) (by rfl) pass0 (pa_cons (pv 2) (pa_cons (pe_un un_neg (pe_gi T.c_MOST_TIMES (by rfl))) (pa_cons (pe_gi T.c_MOST_TIMES (by rfl)) pa_nil)))) (by intro _; rfl))) (pss_one (ps_raiseX T.x_BadNumber (by rfl) (pe_joined (.cons pe_str (.cons (pe_fmt (pe_gi T.c_MOST_TIMES (by rfl))) (.cons pe_str (.cons (pe_fmt (pe_gi T.c_MOST_TIMES (by rfl))) .nil))))) (still4 (by decide +kernel) (by decide) (by decide +kernel) (by decide +kernel) (by decide) (by decide +kernel)) (takes_of rfl rfl rfl rfl))) pss_nil)
      (pss_cons (ps_if (pt_cmpR op_lt (pv 2) pe_int (nomark _)) (pss_one (ps_ret (pe_d D_plain_letters hr (by decide) (by rfl) pass0 (pa_cons (pe_op op_mulU (pe_d D_undone_letters hr (by decide) (by rfl) pass0 (pa_cons (pv 3) pa_nil)) (pe_un un_neg (pv 2))) pa_nil)))) pss_nil)
      (pss_one (ps_ret (pe_d D_plain_letters hr (by decide) (by rfl) pass0 (pa_cons (pe_op op_mulU (pv 3) (pv 2)) pa_nil)))))))), ?_⟩
  walk_at "rd"
  refine ⟨v1, d1, rfl, h1, fun e => ?_, q0⟩
  obtain ⟨n, rfl, b1, b2⟩ := Dat.from_int e
  obtain ⟨rfl, _⟩ := h1
  walk_at "rd"
  obtain ⟨q2, q3, q4⟩ := q1 n rfl e
  refine ⟨n, v2, d2, rfl, h2, fun xs ex rx p1 H1 s1 t1 => ?_, q2⟩
  have l1 := red_len xs
  have l3 := row_len (by rw [← ex]; exact rx)
  walk_at "rd"
  refine ⟨v3, d3, -20, 20, rfl, h3.same s1, ?_⟩
  refine truB ?_
  cases e3 : d3.from (-20) 20 with
  | false => exact iteT (q3 rx e3 H1 s1)
  | true =>
    refine iteF ?_
    obtain ⟨m, rfl, c1, c2⟩ := Dat.from_int e3
    obtain ⟨rfl, _⟩ := h3
    walk_at "rd"
    have q5 := q4 xs m ex rx rfl e3
    unfold times at q5
    refine rd_ite (fun em => ?_) fun em => ?_
    · have em := of_decide_eq_true em
      rw [if_pos em] at q5
      walk_at "rd"
      refine ⟨p1, red xs, rfl, t1.sqT, by omega, fun p2 H2 s2 t2 => ?_⟩
      walk_at "rd"
      have l4 := inv_len (red xs)
      refine repS t2.sqT (by omega) (by omega) (by simp only [List.length_map]; omega) fun p3 H3 s3 t3 => ?_
      rw [flat_map] at t3
      walk_at "rd"
      refine ⟨p3, rep (-m) (inv (red xs)), rfl, t3, ?_, fun p4 H4 s4 t4 => q5 p4 H4 (s1.trans (s2.trans (s3.trans s4))) t4⟩
      unfold rep
      rw [flat_len, l4]
      have a1 : (-m).toNat * (red xs).length ≤ 20 * 200 := Nat.mul_le_mul (by omega) (by omega)
      omega
    · have em := of_decide_eq_false em
      rw [if_neg em] at q5
      walk_at "rd"
      refine repS t1.sqT (by omega) (by omega) (by simp only [List.length_map]; omega) fun p3 H3 s3 t3 => ?_
      rw [flat_map] at t3
      walk_at "rd"
      refine ⟨p3, rep m (red xs), rfl, t3, ?_, fun p4 H4 s4 t4 => q5 p4 H4 (s1.trans (s3.trans s4)) t4⟩
      unfold rep
      rw [flat_len]
      have a1 : m.toNat * (red xs).length ≤ 20 * 200 := Nat.mul_le_mul (by omega) (by omega)
      omega
/-! ### own: sums -/
def sumsOf (n : Int) (xs : List Int) : List Int := (List.range n.toNat).map fun (i : Nat) => bal (1 + (i : Int)) xs
/-! ### sums -/
abbrev s_sums : Stmt := top 25
abbrev N_sums : List Str := ["deeds", "row", "letters", "deed"]
theorem sc_sums : FnScope ["deeds", "row", "letters", "deed"] ["deeds", "row"] (defScope s_sums) := ⟨rfl, rfl, rfl, by decide +kernel, rfl, by decide +kernel, by decide +kernel⟩
theorem bd_sums : Bnd s_sums "sums" ["deeds", "row"] := fun _ _ _ _ _ _ us hl => match us, hl with | [_, _], _ => rfl

theorem d_sums (T : Bs K mg) (R : Rw K mg "sums" s_sums) (D_check_deeds : Df P w K mg base (L2.CX P w) 3 "check_deeds" s_check_deeds ["deeds"] (spDeeds K))
    (D_taken_row : Df P w K mg base (L2.CX P w) 6 "taken_row" s_taken_row ["deeds", "row"] (spTaken K)) : Df P w K mg base (L2.CX P w) 7 "sums" s_sums ["deeds", "row"] (spOne K fun n xs => sumsOf n (red xs)) := by
  refine mkX R sc_sums bd_sums (fun vs H Q E h => ?_) fun f cdv A outer s H vs Q E hr h => ?_
  · obtain ⟨v1, d1, v2, d2, rfl, _⟩ := h; rfl
  obtain ⟨v1, d1, v2, d2, rfl, h1, h2, q0, q1⟩ := h
  refine ⟨_, (pss_cons (ps_expr (pe_d D_check_deeds hr (by decide) (by rfl) passX (pa_cons (pv 0) pa_nil)))
      (pss_cons (ps_set (i := 2) sc_sums.nd rfl (Or.inr rfl) (pe_d D_taken_row hr (by decide) (by rfl) passX (pa_cons (pv 0) (pa_cons (pv 1) pa_nil))))
      (pss_one (ps_ret (pe_callTy call_tupN (by rfl) T.n_tuple (by decide +kernel) (pa_cons (pe_lc (own := [("deed", 3)]) rfl sc_sums.nd (pi_range2 (by rfl) T.n_range (pa_cons pe_int (pa_cons (pe_op op_addU (pv 0) pe_int) pa_nil))) (blkOk_by (own := [("deed", 3)]) (N := ["deeds", "row", "letters", "deed"]) (sc := defScope s_sums) (by decide +kernel)) (fun _ _ _ _ _ => (pg_name (i := 3) sc_sums.nd rfl (Or.inl rfl))) (fun _ _ _ _ _ => pts_nil) (fun _ _ _ _ _ => (pe_op op_sub (pe_cnt (pv 2) (pv 3)) (pe_cnt (pv 2) (pe_un un_neg (pv 3)))))) pa_nil)))))), ?_⟩
  walk_at "rd"
  refine ⟨v1, d1, rfl, h1, fun e => ?_, q0⟩
  obtain ⟨n, rfl, b1, b2⟩ := Dat.from_int e
  obtain ⟨rfl, _⟩ := h1
  walk_at "rd"
  obtain ⟨q2, q3⟩ := q1 n rfl e
  refine ⟨n, v2, d2, rfl, h2, fun xs ex rx p1 H1 s1 t1 => ?_, q2⟩
  walk_at "rd"
  refine rd_addI ?_
  walk_at "rd"
  refine ⟨1, n + 1, rfl, ⟨by omega, by omega, by omega, by omega⟩, fun D hD => ?_⟩
  rw [show (n + 1 - 1).toNat = n.toNat by omega]
  refine lc_pure walk_range hD ((List.range n.toNat).map fun (i : Nat) => V.int (1 + (i : Int))) (fun _ => true) (fun x => match x with | .int i => .int (bal i (red xs)) | y => y) (by simp) (by omega) (fun _ _ => True.intro)
    (fun i H x H' hi y => ⟨y.1, by rw [y.2]; simp [hi]⟩) (fun x H' hx e2 R R0 g1 g0 => ?_) fun H' e2 hD' => ?_
  · obtain ⟨z, rfl⟩ : ∃ z, x = .int z := by
      obtain ⟨i, _, rfl⟩ := List.mem_map.mp hx
      exact ⟨_, rfl⟩
    walk_at "rd"
    refine ⟨rfl, ?_⟩
    walk_at "rd"
    refine iteT ?_
    walk_at "rd"
    refine ⟨p1, red xs, rfl, t1.same e2, ?_⟩
    walk_at "rd"
    refine ⟨t1.same e2, ?_⟩
    walk_at "rd"
    refine ⟨p1, red xs, rfl, t1.same e2, ?_⟩
    walk_at "rd"
    refine ⟨t1.same e2, ?_⟩
    walk_at "rd"
    exact g1 rfl H' (Same.refl _)
  · walk_at "rd"
    rw [List.filter_eq_self.mpr fun _ _ => rfl, List.map_map] at hD'
    refine rd_tupOfL (.inl (.inl hD')) fun p o hp ho hd => q3 xs ex rx p _ (s1.trans (e2.trans (same_new hp))) ⟨o, ?_, ho, hd⟩
    rw [upd_same]
    simp [sumsOf, Function.comp_def]
end
end KP

set_option linter.all false
set_option maxRecDepth 100000
set_option maxHeartbeats 4000000
namespace KP
open PySem PySem.Spec PyProof.Rows L2 XA XB XC XD XM XE XF XG
local macro_rules | `(tactic| walk_at "rd") => `(tactic| repeat (first
  | (with_reducible refine rd_seq ?_) | (with_reducible refine rd_asg ?_) | ((with_reducible refine' rd_var ?hv ?_); (case hv => exact rfl)) | (with_reducible refine rd_c ?_) | (with_reducible refine rd_gn ?_)
  | (with_reducible refine rd_op ?_) | (with_reducible refine rd_un ?_) | (with_reducible refine rd_cons ?_) | (with_reducible refine rd_nil ?_) | (with_reducible refine rd_cl ?_) | (with_reducible refine rd_ck ?_) | (with_reducible refine rd_cb ?_)
  | (with_reducible refine rd_ret ?_) | (with_reducible refine rd_drop ?_) | (with_reducible refine rd_ifs ?_) | (with_reducible refine rd_if ?_) | (with_reducible refine rd_test ?_) | (with_reducible refine rd_tb ?_) | (with_reducible refine rd_and ?_) | (with_reducible refine rd_or ?_)
  | (with_reducible refine rd_not ?_) | (with_reducible refine rd_andV ?_) | (with_reducible refine rd_orV ?_) | (with_reducible refine rd_notV ?_) | (with_reducible refine rd_chain ?_) | (with_reducible refine rd_tup ?_) | (with_reducible refine rd_lst ?_)
  | (with_reducible refine rd_bm0 ?_) | (with_reducible refine rd_bm ?_) | (with_reducible refine rd_sl ?_) | (with_reducible refine rd_part ?_) | (with_reducible refine rd_nopart ?_) | (with_reducible refine rd_dget ?_) | (with_reducible refine rd_dput ?_)
  | (with_reducible refine rd_next ?_) | (with_reducible refine rd_lc ?_) | ((with_reducible refine' rd_aug ?hv ?_); (case hv => exact rfl)) | (with_reducible refine rd_cont ?_) | (with_reducible refine rd_gcons ?_) | (with_reducible refine rd_gnil ?_) | (with_reducible refine rd_ifT ?_) | (with_reducible refine rd_yes ?_) | (with_reducible refine rd_tru ?_) | (with_reducible refine rd_cntE ?_) | (with_reducible refine rd_rng1 ?_) | (with_reducible refine rd_lrg ?_) | (with_reducible refine rd_rg2 ?_) | (with_reducible refine rd_back ?_) | (with_reducible refine rd_disp ?_) | (with_reducible refine rd_prN ?_) | (with_reducible refine rd_prC ?_) | (with_reducible refine rd_par ?_) | (with_reducible refine rd_par3 ?_) | (with_reducible refine rd_two ?_) | (with_reducible refine rd_three ?_) | (with_reducible refine rd_one ?_) | (with_reducible refine rd_onei ?_) | (with_reducible refine rd_iL ?_) | (with_reducible refine rd_iT ?_) | (with_reducible refine rd_rng2 ?_) | (with_reducible refine rd_bl ?_) | (with_reducible refine rd_int ?_) | (with_reducible refine rd_I0 ?_) | (with_reducible refine rd_U ?_) | (with_reducible refine rd_din ?_) | (with_reducible refine rd_dnin ?_) | (with_reducible refine rd_dnew ?_) | (with_reducible refine rd_lset ?_) | (with_reducible refine rd_enT ?_) | (with_reducible refine rd_idx ?_) | (with_reducible refine rd_rg1 ?_) | (with_reducible refine rd_tupRg ?_)))

section
variable {P : Program} {w : World} {K : PySem.W.Frag} {mg : Str → Option Value} {base : Heap}
/-! ### the draws -/
def spBegun (K : PySem.W.Frag) : Sp := fun vs H Q _ => ∃ (a : Addr) (ns : List Int), vs = [.ref a] ∧ SqL K H a (ns.map V.int) ∧ ns.length ≤ 1000 ∧ ∀ s g c H', Same H H' → StAt 0 H' s g c → Q (.ref s) H'
theorem abs_ints (l : List V) (f : V → V) (h : ∀ x ∈ l, ∃ i, f x = .int i) : ∃ gs : List Int, l.map f = gs.map V.int := intsOf _ fun x hx => by
  obtain ⟨y, hy, rfl⟩ := List.mem_map.mp hx
  exact h y hy
def absV : V → V
  | .int i => .int (if i < 0 then -i else i)
  | v => v
def bigV : V → V
  | .int i => .int ((if i < 0 then -i else i) - 10 ^ 18)
  | v => v
def isBig : V → Bool
  | .int i => decide ((if i < 0 then -i else i) ≥ 10 ^ 18)
  | _ => false
theorem mem_i {xs : List Int} {x : V} (h : x ∈ xs.map V.int) : ∃ z, x = .int z := by
  obtain ⟨z, _, e⟩ := List.mem_map.mp h
  exact ⟨z, e.symm⟩
abbrev s__law_begun : Stmt := top 27
abbrev N__law_begun : List Str := ["script", "great", "cell"]
theorem sc__law_begun : FnScope ["script", "great", "cell"] ["script"] (defScope s__law_begun) := ⟨rfl, rfl, rfl, by decide +kernel, rfl, by decide +kernel, by decide +kernel⟩
theorem bd__law_begun : Bnd s__law_begun "_law_begun" ["script"] := fun _ _ _ _ _ _ us hl => match us, hl with | [_], _ => rfl

theorem d__law_begun (T : Bs K mg) (R : Rw K mg "_law_begun" s__law_begun) : Df P w K mg base CX0 1 "_law_begun" s__law_begun ["script"] (spBegun K) := by
  refine mk0 R sc__law_begun bd__law_begun (fun vs H Q E h => ?_) fun f cdv A outer s H vs Q E hr h => ?_
  · obtain ⟨a, ns, rfl, _⟩ := h; rfl
  obtain ⟨a, ns, rfl, hS, hz, q⟩ := h
  refine ⟨_, (pss_cons (ps_setLc (i := 1) (own := [("cell", 2)]) rfl sc__law_begun.nd rfl rfl (sw_true rfl rfl rfl (by decide +kernel)) (pi_U (pv 0)) (blkOk_by (own := [("cell", 2)]) (N := ["script", "great", "cell"]) (sc := defScope s__law_begun) (by decide +kernel)) (fun _ _ _ _ _ => (pg_name (i := 2) sc__law_begun.nd rfl (Or.inl rfl))) (fun _ _ _ _ _ => pts_one (pt_cmpR op_ge (pe_callB call_abs (by rfl) T.n_abs (by decide +kernel) (pa_cons (pv 2) pa_nil)) (pe_op op_pow pe_int pe_int) (nomark _))) (fun _ _ _ _ _ => (pe_op op_sub (pe_callB call_abs (by rfl) T.n_abs (by decide +kernel) (pa_cons (pv 2) pa_nil)) (pe_op op_pow pe_int pe_int))))
      (pss_one (ps_ret (pe_disp (pps_cons pe_str (pv 1) (pps_cons pe_str (pe_lc (own := [("cell", 2)]) rfl sc__law_begun.nd (pi_U (pv 0)) (blkOk_by (own := [("cell", 2)]) (N := ["script", "great", "cell"]) (sc := defScope s__law_begun) (by decide +kernel)) (fun _ _ _ _ _ => (pg_name (i := 2) sc__law_begun.nd rfl (Or.inl rfl))) (fun _ _ _ _ _ => pts_nil) (fun _ _ _ _ _ => (pe_callB call_abs (by rfl) T.n_abs (by decide +kernel) (pa_cons (pv 2) pa_nil)))) (pps_cons pe_str pe_int (pps_cons pe_str pe_int pps_nil)))) (by rfl) (by rfl) (fun z => by cases z) (by decide))))), ?_⟩
  walk_at "rd"
  refine .inl ⟨_, rfl, a, rfl, ⟨_, hS⟩, fun D hD => ?_⟩
  refine lc_pure walk_list hD (ns.map V.int) isBig bigV rfl (by simp only [List.length_map]; omega) (fun H' e => e.seq hS) (fun i H x H' hi y => y) (fun x H' hx e R R0 h1 h0 => ?_) fun H' e hD' => ?_
  · obtain ⟨z, rfl⟩ := mem_i hx
    walk_at "rd"
    refine ⟨rfl, ?_⟩
    walk_at "rd"
    refine rd_I pow18 ?_
    walk_at "rd"
    have h1 : (decide ((if z < 0 then -z else z) ≥ 10 ^ 18)) = true → ∀ H'', Same H' H'' → R (.int ((if z < 0 then -z else z) - 10 ^ 18)) H'' := h1
    have h0 : (decide ((if z < 0 then -z else z) ≥ 10 ^ 18)) = false → ∀ H'', Same H' H'' → R0 H'' := h0
    refine rd_ite (fun e1 => ?_) fun e1 => ?_
    · walk_at "rd"
      refine rd_I pow18 ?_
      walk_at "rd"
      exact h1 e1 _ (Same.refl _)
    · exact h0 e1 _ (Same.refl _)
  · walk_at "rd"
    refine fun p hp => ?_
    walk_at "rd"
    refine .inl ⟨_, rfl, a, rfl, ⟨_, (e.trans (same_new hp)).seq hS⟩, fun D2 hD2 => ?_⟩
    refine lc_pure walk_list hD2 (ns.map V.int) (fun _ => true) absV rfl (by simp only [List.length_map]; omega) (fun H' e2 => ((e.trans (same_new hp)).trans e2).seq hS) (fun i H x H' hi y => y) (fun x H' hx e R R0 h1 h0 => ?_) fun H2 e2 hD3 => ?_
    · obtain ⟨z, rfl⟩ := mem_i hx
      walk_at "rd"
      refine ⟨rfl, ?_⟩
      walk_at "rd"
      refine iteT ?_
      walk_at "rd"
      exact h1 rfl _ (Same.refl _)
    · walk_at "rd"
      have ep : H2 p = some (.dK []) := e2 _ _ upd_same
      refine ⟨ep, [(kG, .ref D), (kC, .ref D2), (kR, .int 0), (kT, .int 0)], rfl, by simp, ?_⟩
      rw [st_new]
      have e3 : Same H H2 := (e.trans (same_new hp)).trans e2
      have eD : H2 D = some (.lst (List.map bigV (List.filter isBig (List.map V.int ns)))) := e2 _ _ (same_new hp _ _ hD')
      have n1 : D ≠ p := ne_of eD ep (by intro z; cases z)
      have n2 : D2 ≠ p := ne_of hD3 ep (by intro z; cases z)
      have n3 : D2 ≠ D := fun z => by
        rw [z, same_new hp _ _ hD'] at hD2
        cases hD2
      obtain ⟨gs, eg⟩ := intsOf (List.map bigV (List.filter isBig (List.map V.int ns))) fun x hx => by
        obtain ⟨y, hy, rfl⟩ := List.mem_map.mp hx
        obtain ⟨z, rfl⟩ := mem_i (List.mem_filter.mp hy).1
        exact ⟨_, rfl⟩
      obtain ⟨cs, ec⟩ := intsOf (List.map absV (List.filter (fun _ => true) (List.map V.int ns))) fun x hx => by
        obtain ⟨y, hy, rfl⟩ := List.mem_map.mp hx
        obtain ⟨z, rfl⟩ := mem_i (List.mem_filter.mp hy).1
        exact ⟨_, rfl⟩
      have lg := congrArg List.length eg
      have lc := congrArg List.length ec
      have l1 := List.length_filter_le isBig (List.map V.int ns)
      have l2 := List.length_filter_le (fun _ => true) (List.map V.int ns)
      simp only [List.length_map] at lg lc l1 l2
      rw [eg] at eD
      rw [ec] at hD3
      exact q p D D2 _ (same_mut e3 (none_of e hp)) ⟨0, 0, gs, cs, upd_same, by rw [upd_ne n1]; exact eD, by rw [upd_ne n2]; exact hD3, n3, by omega, by omega, by omega, by omega⟩

/-! ### _law_blended -/
def spBlended (K : PySem.W.Frag) : Sp := fun vs H Q _ => ∃ (s g c : Addr) (r t : Int) (cs : List Int), vs = [.ref s] ∧ H s = some (.dK (stD g c r t)) ∧ H c = some (.lst (cs.map V.int)) ∧ cs.length ≤ 1000 ∧ 0 ≤ t ∧ t < 1000000 ∧
  ∀ v H', H' s = some (.dK (stD g c r (t + 1))) → Kept s s H H' → Q (.int v) H'
abbrev s__law_blended : Stmt := top 28
abbrev N__law_blended : List Str := ["state", "turn", "found", "prime", "blend", "cell"]
theorem sc__law_blended : FnScope ["state", "turn", "found", "prime", "blend", "cell"] ["state"] (defScope s__law_blended) := ⟨rfl, rfl, rfl, by decide +kernel, rfl, by decide +kernel, by decide +kernel⟩
theorem bd__law_blended : Bnd s__law_blended "_law_blended" ["state"] := fun _ _ _ _ _ _ us hl => match us, hl with | [_], _ => rfl

theorem d__law_blended (T : Bs K mg) (R : Rw K mg "_law_blended" s__law_blended) : Df P w K mg base CX0 1 "_law_blended" s__law_blended ["state"] (spBlended K) := by
  refine mk0 R sc__law_blended bd__law_blended (fun vs H Q E h => ?_) fun f cdv A outer sh H vs Q E hr h => ?_
  · obtain ⟨s, g, c, r, t, cs, rfl, _⟩ := h; rfl
  obtain ⟨s, g, c, r, t, cs, rfl, hs, hc, hz, ht, hT, q⟩ := h
  have hu := lt1 hr.units
  refine ⟨_, (pss_cons (ps_par (i := 1) (j := 2) rfl sc__law_blended.nd rfl rfl (by decide) rfl rfl (pa_cons (pe_op op_addU (pe_dget hu (pv 0) pe_str (fun _ _ => rfl)) pe_int) (pa_cons pe_int pa_nil)) (by rfl))
      (pss_cons (ps_dput hu (pv 0) pe_str (pv 1) rfl)
      (pss_cons (ps_for PassesOwn.never rfl (pi_U (pe_lst (pa_cons pe_int (pa_cons pe_int (pa_cons pe_int pa_nil))))) (pg_name (i := 3) sc__law_blended.nd rfl (Or.inl rfl))
        (pss_cons (ps_set (i := 4) sc__law_blended.nd rfl (Or.inl rfl) (pe_op op_addU (pe_op op_mulU pe_int (pv 1)) (pe_op op_fdivN (pv 3) pe_int)))
        (pss_cons (ps_for PassesOwn.never rfl (pi_U (pe_dget hu (pv 0) pe_str (fun _ _ => rfl))) (pg_name (i := 5) sc__law_blended.nd rfl (Or.inl rfl))
          (pss_one (ps_set (i := 4) sc__law_blended.nd rfl (Or.inl rfl) (pe_op op_modN (pe_callTy call_int1 (by rfl) T.n_int (by decide +kernel) (pa_cons (pe_op op_addU (pe_op op_addU (pe_op op_mulU (pv 4) pe_int) (pv 5)) (pv 1)) pa_nil)) (pv 3)))))
        (pss_one (ps_set (i := 2) sc__law_blended.nd rfl (Or.inl rfl) (pe_op op_addU (pe_op op_mulU (pv 2) pe_int) (pe_op op_modN (pe_callTy call_int1 (by rfl) T.n_int (by decide +kernel) (pa_cons (pe_op op_pow (pv 4) pe_int) pa_nil)) (pv 3))))))))
      (pss_one (ps_ret (pv 2)))))), ?_⟩
  walk_at "rd"
  refine ⟨s, .int t, rfl, by rw [← at_T (g := g) (c := c) (r := r)]; exact DGet.k (k := kT) hs, ?_⟩
  walk_at "rd"
  refine rd_addI ?_
  walk_at "rd"
  refine ⟨s, _, rfl, DPut.k (k := kT) hs (by show 4 < sizeLine; decide), ?_⟩
  rw [put_T]
  walk_at "rd"
  refine .inl ?_
  walk_at "rd"
  refine ⟨lz (by simp), fun p hp => ?_⟩
  have n1 : s ≠ p := ne_of_none upd_same hp
  have n2 : c ≠ s := ne_of hc hs (by intro z; cases z)
  have n3 : c ≠ p := ne_of_none (by rw [upd_ne n2]; exact hc) hp
  have ec : upd (upd H s (.dK (stD g c r (t + 1)))) p (.lst [.int 2147483579, .int 2147483629, .int 2147483563]) c = some (.lst (cs.map V.int)) := by rw [upd_ne n3, upd_ne n2]; exact hc
  have es : upd (upd H s (.dK (stD g c r (t + 1)))) p (.lst [.int 2147483579, .int 2147483629, .int 2147483563]) s = some (.dK (stD g c r (t + 1))) := by rw [upd_ne n1, upd_same]
  have hk : XE.Kept s s H (upd (upd H s (.dK (stD g c r (t + 1)))) p (.lst [.int 2147483579, .int 2147483629, .int 2147483563])) := fun b o e m _ => by
    have e2 : upd H s (.dK (stD g c r (t + 1))) b = some o := by rw [upd_ne m]; exact e
    rw [upd_ne (ne_of_none e2 hp), e2]
  refine ⟨p, rfl, ⟨_, .inl (.inl upd_same)⟩, ?_⟩
  have ep : upd (upd H s (.dK (stD g c r (t + 1)))) p (.lst [.int 2147483579, .int 2147483629, .int 2147483563]) p = some (.lst [.int 2147483579, .int 2147483629, .int 2147483563]) := upd_same
  generalize upd (upd H s (.dK (stD g c r (t + 1)))) p (.lst [.int 2147483579, .int 2147483629, .int 2147483563]) = H1 at ec es hk ep ⊢
  refine for_list (xs := [.int 2147483579, .int 2147483629, .int 2147483563]) (fun i σ H' => ∃ (fd : Int) (y1 y2 y3 : Option V), σ = [some (.ref s), some (.int (t + 1)), some (.int fd), y1, y2, y3] ∧ H' = H1) ⟨0, none, none, none, rfl, rfl⟩
    (fun i σ H' _ h => ?_) (fun i x σ H' hx h => ?_) (fun σ H' h => ?_)
  · obtain ⟨fd, y1, y2, y3, rfl, rfl⟩ := h
    exact .inl (.inl ep)
  · obtain ⟨fd, y1, y2, y3, rfl, rfl⟩ := h
    obtain ⟨pr, rfl, p1, p2⟩ : ∃ pr : Int, x = .int pr ∧ 0 < pr ∧ pr < 2 ^ 32 := by
      rcases List.mem_cons.mp (List.mem_of_getElem? hx) with e | e
      · exact ⟨_, e, by decide, by decide⟩
      rcases List.mem_cons.mp e with e | e
      · exact ⟨_, e, by decide, by decide⟩
      rcases List.mem_cons.mp e with e | e
      · exact ⟨_, e, by decide, by decide⟩
      · cases e
    walk_at "rd"
    refine rd_mulI (.inl ⟨by decide, by decide⟩) ?_
    walk_at "rd"
    refine rd_I ⟨by decide, by decide⟩ ?_
    walk_at "rd"
    refine rd_addI ?_
    walk_at "rd"
    have b0 : (48271 * (t + 1) + pr.fdiv 53).natAbs < 2 ^ 62 := by
      have e : pr.fdiv 53 = pr / 53 := Int.fdiv_eq_ediv_of_nonneg _ (by decide)
      rw [e]
      omega
    refine .inl ?_
    walk_at "rd"
    refine ⟨s, .ref c, rfl, by rw [← at_C (g := g) (c := c) (r := r) (t := t + 1)]; exact DGet.k (k := kC) es, c, rfl, ⟨_, .inl (.inl ec)⟩, ?_⟩
    refine for_list (xs := cs.map V.int) (fun i σ H'' => ∃ (bl : Int) (y3 : Option V), σ = [some (.ref s), some (.int (t + 1)), some (.int fd), some (.int pr), some (.int bl), y3] ∧ H'' = H' ∧ bl.natAbs < 2 ^ 62) ⟨_, y3, rfl, rfl, b0⟩
      (fun i σ H' _ h => ?_) (fun i x σ H' hx h => ?_) (fun σ H' h => ?_)
    · obtain ⟨bl, y3, rfl, rfl, b⟩ := h
      exact .inl (.inl ec)
    · obtain ⟨bl, y3, rfl, rfl, b⟩ := h
      obtain ⟨z, hz2, rfl⟩ := item_of hx
      walk_at "rd"
      refine rd_mulI (.inr ⟨by decide, by decide⟩) ?_
      walk_at "rd"
      refine rd_addI ?_
      walk_at "rd"
      refine rd_addI ?_
      walk_at "rd"
      refine .inl ⟨_, rfl, ?_⟩
      walk_at "rd"
      refine rd_I (by omega) ?_
      walk_at "rd"
      refine ⟨_, _, rfl, rfl, ?_⟩
      have e : (bl * 69621 + z + (t + 1)).fmod pr = (bl * 69621 + z + (t + 1)) % pr := Int.fmod_eq_emod_of_nonneg _ (by omega)
      rw [e]
      have a1 := Int.emod_nonneg (bl * 69621 + z + (t + 1)) (show pr ≠ 0 by omega)
      have a2 := Int.emod_lt_of_pos (bl * 69621 + z + (t + 1)) p1
      omega
    · obtain ⟨bl, y3, rfl, rfl, b⟩ := h
      walk_at "rd"
      refine rd_mulI (.inr ⟨by decide, by decide⟩) ?_
      walk_at "rd"
      refine rd_I ⟨by decide, by decide, by omega⟩ ?_
      walk_at "rd"
      refine .inl ⟨_, rfl, ?_⟩
      walk_at "rd"
      refine rd_I (by omega) ?_
      walk_at "rd"
      refine rd_addI ?_
      walk_at "rd"
      exact ⟨_, _, _, _, rfl, rfl⟩
  · obtain ⟨fd, y1, y2, y3, rfl, rfl⟩ := h
    walk_at "rd"
    exact q _ _ es hk
end
end KP

set_option linter.all false
set_option maxRecDepth 100000
set_option maxHeartbeats 4000000
namespace KP
open PySem PySem.Spec PyProof.Rows L2 XA XB XC XD XM XE XF XG
local macro_rules | `(tactic| walk_at "rd") => `(tactic| repeat (first
  | (with_reducible refine rd_seq ?_) | (with_reducible refine rd_asg ?_) | ((with_reducible refine' rd_var ?hv ?_); (case hv => exact rfl)) | (with_reducible refine rd_c ?_) | (with_reducible refine rd_gn ?_)
  | (with_reducible refine rd_op ?_) | (with_reducible refine rd_un ?_) | (with_reducible refine rd_cons ?_) | (with_reducible refine rd_nil ?_) | (with_reducible refine rd_cl ?_) | (with_reducible refine rd_ck ?_) | (with_reducible refine rd_cb ?_)
  | (with_reducible refine rd_ret ?_) | (with_reducible refine rd_drop ?_) | (with_reducible refine rd_ifs ?_) | (with_reducible refine rd_if ?_) | (with_reducible refine rd_test ?_) | (with_reducible refine rd_tb ?_) | (with_reducible refine rd_and ?_) | (with_reducible refine rd_or ?_)
  | (with_reducible refine rd_not ?_) | (with_reducible refine rd_andV ?_) | (with_reducible refine rd_orV ?_) | (with_reducible refine rd_notV ?_) | (with_reducible refine rd_chain ?_) | (with_reducible refine rd_tup ?_) | (with_reducible refine rd_lst ?_)
  | (with_reducible refine rd_bm0 ?_) | (with_reducible refine rd_bm ?_) | (with_reducible refine rd_sl ?_) | (with_reducible refine rd_part ?_) | (with_reducible refine rd_nopart ?_) | (with_reducible refine rd_dget ?_) | (with_reducible refine rd_dput ?_)
  | (with_reducible refine rd_next ?_) | (with_reducible refine rd_lc ?_) | ((with_reducible refine' rd_aug ?hv ?_); (case hv => exact rfl)) | (with_reducible refine rd_cont ?_) | (with_reducible refine rd_gcons ?_) | (with_reducible refine rd_gnil ?_) | (with_reducible refine rd_ifT ?_) | (with_reducible refine rd_yes ?_) | (with_reducible refine rd_tru ?_) | (with_reducible refine rd_cntE ?_) | (with_reducible refine rd_rng1 ?_) | (with_reducible refine rd_lrg ?_) | (with_reducible refine rd_rg2 ?_) | (with_reducible refine rd_back ?_) | (with_reducible refine rd_disp ?_) | (with_reducible refine rd_prN ?_) | (with_reducible refine rd_prC ?_) | (with_reducible refine rd_par ?_) | (with_reducible refine rd_par3 ?_) | (with_reducible refine rd_two ?_) | (with_reducible refine rd_three ?_) | (with_reducible refine rd_one ?_) | (with_reducible refine rd_onei ?_) | (with_reducible refine rd_iL ?_) | (with_reducible refine rd_iT ?_) | (with_reducible refine rd_rng2 ?_) | (with_reducible refine rd_bl ?_) | (with_reducible refine rd_int ?_) | (with_reducible refine rd_I0 ?_) | (with_reducible refine rd_U ?_) | (with_reducible refine rd_din ?_) | (with_reducible refine rd_dnin ?_) | (with_reducible refine rd_dnew ?_) | (with_reducible refine rd_lset ?_) | (with_reducible refine rd_enT ?_) | (with_reducible refine rd_idx ?_) | (with_reducible refine rd_rg1 ?_) | (with_reducible refine rd_tupRg ?_)))

section
variable {P : Program} {w : World} {K : PySem.W.Frag} {mg : Str → Option Value} {base : Heap}
/-! ### _law_draw -/
def spDraw (K : PySem.W.Frag) : Sp := fun vs H Q _ => ∃ (s g c : Addr) (n : Nat) (room : Int), vs = [.ref s, .int room] ∧ StAt n H s g c ∧ n < 1000000 ∧ 0 < room ∧ room < 1000000 ∧
  ∀ r H', 0 ≤ r → r < room → StAt (n + 1) H' s g c → XE.Kept s g H H' → Q (.int r) H'
abbrev s__law_draw : Stmt := top 29
abbrev N__law_draw : List Str := ["state", "room", "found"]
theorem sc__law_draw : FnScope ["state", "room", "found"] ["state", "room"] (defScope s__law_draw) := ⟨rfl, rfl, rfl, by decide +kernel, rfl, by decide +kernel, by decide +kernel⟩
theorem bd__law_draw : Bnd s__law_draw "_law_draw" ["state", "room"] := fun _ _ _ _ _ _ us hl => match us, hl with | [_, _], _ => rfl

theorem d__law_draw (T : Bs K mg) (R : Rw K mg "_law_draw" s__law_draw) (D__law_blended : Df P w K mg base CX0 1 "_law_blended" s__law_blended ["state"] (spBlended K)) :
    Df P w K mg base CX0 2 "_law_draw" s__law_draw ["state", "room"] (spDraw K) := by
  refine mk0 R sc__law_draw bd__law_draw (fun vs H Q E h => ?_) fun f cdv A outer sh H vs Q E hr h => ?_
  · obtain ⟨s, g, c, n, room, rfl, _⟩ := h; rfl
  obtain ⟨s, g, c, n, room, rfl, hS, hn, hr0, hr1, q⟩ := h
  have hu := lt1 hr.units
  refine ⟨_, (pss_cons (ps_if (pt_cmpR (op_eqU hr.units) (pe_dget hu (pv 0) pe_str (fun _ _ => rfl)) pe_int (nomark _)) (pss_one (ps_dput hu (pv 0) pe_str (pe_ifExp (pt_cmpR (op_neU hr.units) (pe_dget hu (pv 0) pe_str (fun _ _ => rfl)) (pe_lst pa_nil) (nomark _)) (pe_bm PySem.F.plainAttrs_list PySem.F.slot_list_pop PySem.F.type_list_pop mt_popAt (pe_dget hu (pv 0) pe_str (fun _ _ => rfl)) (pa_cons pe_int pa_nil)) (pe_d D__law_blended hr (by decide) (by rfl) pass0 (pa_cons (pv 0) pa_nil))) rfl)) pss_nil)
      (pss_cons (ps_set (i := 2) sc__law_draw.nd rfl (Or.inl rfl) (pe_op op_modN (pe_callTy call_int1 (by rfl) T.n_int (by decide +kernel) (pa_cons (pe_dget hu (pv 0) pe_str (fun _ _ => rfl)) pa_nil)) (pv 1)))
      (pss_cons (ps_dput hu (pv 0) pe_str (pe_op op_fdivN (pe_dget hu (pv 0) pe_str (fun _ _ => rfl)) (pv 1)) rfl)
      (pss_one (ps_ret (pv 2)))))), ?_⟩
  obtain ⟨r, t, gs, cs, h1, h2, h3, n1, l1, l2, t0, t1⟩ := hS
  have fin : ∀ (H1 : Hp) (r1 t1 : Int) (gs1 : List Int), H1 s = some (.dK (stD g c r1 t1)) → H1 g = some (.lst (gs1.map V.int)) → XE.Kept s g H H1 → gs1.length ≤ 1000 → 0 ≤ t1 → t1 ≤ ((n + 1 : Nat) : Int) →
      ∀ v, StAt (n + 1) (upd H1 s (.dK (stD g c v t1))) s g c ∧ XE.Kept s g H (upd H1 s (.dK (stD g c v t1))) := by
    intro H1 r1 t1 gs1 a1 a2 a3 a4 a5 a6 v
    have m1 : g ≠ s := ne_of a2 a1 (by intro z; cases z)
    have m2 : H1 c = some (.lst (cs.map V.int)) := a3 _ _ h3 (ne_of h3 h1 (by intro z; cases z)) n1
    have m3 : c ≠ s := ne_of m2 a1 (by intro z; cases z)
    exact ⟨⟨v, t1, gs1, cs, upd_same, by rw [upd_ne m1]; exact a2, by rw [upd_ne m3]; exact m2, n1, l1, a4, a5, a6⟩, a3.trans fun b o e m _ => by rw [upd_ne m]; exact e⟩
  walk_at "rd"
  refine ⟨s, .int r, rfl, by rw [← at_R (g := g) (c := c) (t := t)]; exact DGet.k (k := kR) h1, ?_⟩
  walk_at "rd"
  refine rd_eqI ?_
  walk_at "rd"
  refine rd_join (C := fun H1 => ∃ (r1 t1 : Int) (gs1 : List Int), H1 s = some (.dK (stD g c r1 t1)) ∧ H1 g = some (.lst (gs1.map V.int)) ∧ XE.Kept s g H H1 ∧ gs1.length ≤ 1000 ∧ 0 ≤ t1 ∧ t1 ≤ ((n + 1 : Nat) : Int)) (fun H1 hc => ?_) fun key => ?_
  · obtain ⟨r1, t1, gs1, a1, a2, a3, a4, a5, a6⟩ := hc
    have f1 := fin H1 r1 t1 gs1 a1 a2 a3 a4 a5 a6
    dsimp only
    walk_at "rd"
    refine ⟨s, .int r1, rfl, by rw [← at_R (g := g) (c := c) (t := t1)]; exact DGet.k (k := kR) a1, ?_⟩
    refine .inl ⟨_, rfl, ?_⟩
    walk_at "rd"
    refine rd_I (by omega) ?_
    walk_at "rd"
    refine ⟨s, .int r1, rfl, by rw [← at_R (g := g) (c := c) (t := t1)]; exact DGet.k (k := kR) a1, ?_⟩
    walk_at "rd"
    refine rd_I ⟨by omega, by omega⟩ ?_
    walk_at "rd"
    refine ⟨s, _, rfl, DPut.k (k := kR) a1 (by show 4 < sizeLine; decide), ?_⟩
    rw [put_R]
    walk_at "rd"
    have e : r1.fmod room = r1 % room := Int.fmod_eq_emod_of_nonneg _ (by omega)
    exact q _ _ (by rw [e]; exact Int.emod_nonneg _ (by omega)) (by rw [e]; exact Int.emod_lt_of_pos _ hr0) (f1 _).1 (f1 _).2
  · refine rd_ite (fun e => ?_) fun e => ?_
    · walk_at "rd"
      refine ⟨s, .ref g, rfl, by rw [← at_G (g := g) (c := c) (r := r) (t := t)]; exact DGet.k (k := kG) h1, ?_⟩
      walk_at "rd"
      refine ⟨lz (by simp), fun p hp => ?_⟩
      have n2 : s ≠ p := ne_of_none h1 hp
      have n3 : g ≠ p := ne_of_none h2 hp
      have n4 : g ≠ s := ne_of h2 h1 (by intro z; cases z)
      have e1 : upd H p (.lst []) s = some (.dK (stD g c r t)) := by rw [upd_ne n2]; exact h1
      have e2 : upd H p (.lst []) g = some (.lst (gs.map V.int)) := by rw [upd_ne n3]; exact h2
      refine neL (ys := []) (.inl (.inl e2)) (.inl (.inl upd_same)) ?_
      walk_at "rd"
      have k0 : Same H (upd H p (.lst [])) := same_new hp
      generalize upd H p (.lst []) = H1 at e1 e2 k0 ⊢
      cases gs with
      | nil =>
        refine iteF ?_
        walk_at "rd"
        refine ⟨s, g, c, r, t, cs, rfl, e1, k0 _ _ h3, l1, t0, by omega, fun v H2 b1 b2 => ?_⟩
        walk_at "rd"
        refine ⟨s, _, rfl, DPut.k (k := kR) b1 (by show 4 < sizeLine; decide), ?_⟩
        rw [put_R]
        have b3 := b2 _ _ e2 n4 n4
        exact key (upd H2 s (.dK (stD g c v (t + 1)))) ⟨v, t + 1, [], upd_same, by rw [upd_ne n4]; exact b3, (XE.Kept.of k0).trans fun b o e m m2 => by rw [upd_ne m]; exact b2 _ _ e m m, by simp, by omega, by omega⟩
      | cons x gs =>
        refine iteT ?_
        walk_at "rd"
        refine ⟨s, .ref g, rfl, by rw [← at_G (g := g) (c := c) (r := r) (t := t)]; exact DGet.k (k := kG) e1, ?_⟩
        refine ⟨tyl e2, ?_⟩
        walk_at "rd"
        refine ⟨g, _, 0, 0, .int x, rfl, rfl, e2, by omega, by omega, by simp [seqIndex?], rfl, ?_⟩
        have e3 : upd H1 g (.lst (gs.map V.int)) s = some (.dK (stD g c r t)) := by rw [upd_ne (Ne.symm n4)]; exact e1
        walk_at "rd"
        refine ⟨s, _, rfl, DPut.k (k := kR) e3 (by show 4 < sizeLine; decide), ?_⟩
        rw [put_R]
        refine key (upd (upd H1 g (.lst (gs.map V.int))) s (.dK (stD g c x t))) ⟨x, t, gs, upd_same, by rw [upd_ne n4, upd_same], (XE.Kept.of k0).trans fun b o e m m2 => by rw [upd_ne m, upd_ne m2]; exact e, ?_, by omega, by omega⟩
        simp only [List.length_cons] at l2
        omega
    · exact key _ ⟨r, t, gs, h1, h2, XE.Kept.refl, l2, t0, by omega⟩
/-! ### _law_pick -/
def spPick (K : PySem.W.Frag) : Sp := fun vs H Q _ => ∃ (s g c a : Addr) (n : Nat) (xs : List V), vs = [.ref s, .ref a] ∧ StAt n H s g c ∧ n < 1000000 ∧ SqL K H a xs ∧ a ≠ g ∧ xs ≠ [] ∧ xs.length < 1000 ∧
  ∀ x H', x ∈ xs → StAt (n + 1) H' s g c → XE.Kept s g H H' → Q x H'
abbrev s__law_pick : Stmt := top 30
abbrev N__law_pick : List Str := ["state", "some"]
theorem sc__law_pick : FnScope ["state", "some"] ["state", "some"] (defScope s__law_pick) := ⟨rfl, rfl, rfl, by decide +kernel, rfl, by decide +kernel, by decide +kernel⟩
theorem bd__law_pick : Bnd s__law_pick "_law_pick" ["state", "some"] := fun _ _ _ _ _ _ us hl => match us, hl with | [_, _], _ => rfl

theorem d__law_pick (T : Bs K mg) (R : Rw K mg "_law_pick" s__law_pick) (D__law_draw : Df P w K mg base CX0 2 "_law_draw" s__law_draw ["state", "room"] (spDraw K)) :
    Df P w K mg base CX0 3 "_law_pick" s__law_pick ["state", "some"] (spPick K) := by
  refine mk0 R sc__law_pick bd__law_pick (fun vs H Q E h => ?_) fun f cdv A outer sh H vs Q E hr h => ?_
  · obtain ⟨s, g, c, a, n, xs, rfl, _⟩ := h; rfl
  obtain ⟨s, g, c, a, n, xs, rfl, hS, hn, hL, na, hx, hz, q⟩ := h
  refine ⟨_, (pss_one (ps_ret (pe_ix ix_seq (pv 1) (pe_d D__law_draw hr (by decide) (by rfl) pass0 (pa_cons (pv 0) (pa_cons (pe_callB call_len (by rfl) T.n_len (by decide +kernel) (pa_cons (pv 1) pa_nil)) pa_nil))) (fun _ _ => rfl)))), ?_⟩
  walk_at "rd"
  refine lenL hL ?_
  have hp : 0 < xs.length := List.length_pos_iff.mpr hx
  walk_at "rd"
  refine ⟨s, g, c, n, (xs.length : Int), rfl, hS, hn, by omega, by omega, fun r H' r0 r1 S1 k1 => ?_⟩
  obtain ⟨i, rfl⟩ : ∃ i : Nat, r = (i : Int) := ⟨r.toNat, by omega⟩
  have hi : i < xs.length := by omega
  have ha : atI xs (i : Int) = some xs[i] := by
    have h1 : ixN xs.length (i : Int) = some i := by
      unfold ixN
      rw [if_pos (by omega), if_pos (by omega)]
      all_goals rfl
    unfold atI
    rw [h1]
    exact List.getElem?_eq_getElem hi
  exact rd_ixL (k1.sqL hS hL na) ha (q _ _ (List.getElem_mem hi) S1 k1)
end
end KP

set_option linter.all false
set_option maxRecDepth 100000
set_option maxHeartbeats 4000000
namespace KP
open PySem PySem.Spec PyProof.Rows L2 XA XB XC XD XM XE XF XG
local macro_rules | `(tactic| walk_at "rd") => `(tactic| repeat (first
  | (with_reducible refine rd_seq ?_) | (with_reducible refine rd_asg ?_) | ((with_reducible refine' rd_var ?hv ?_); (case hv => exact rfl)) | (with_reducible refine rd_c ?_) | (with_reducible refine rd_gn ?_)
  | (with_reducible refine rd_op ?_) | (with_reducible refine rd_un ?_) | (with_reducible refine rd_cons ?_) | (with_reducible refine rd_nil ?_) | (with_reducible refine rd_cl ?_) | (with_reducible refine rd_ck ?_) | (with_reducible refine rd_cb ?_)
  | (with_reducible refine rd_ret ?_) | (with_reducible refine rd_drop ?_) | (with_reducible refine rd_ifs ?_) | (with_reducible refine rd_if ?_) | (with_reducible refine rd_test ?_) | (with_reducible refine rd_tb ?_) | (with_reducible refine rd_and ?_) | (with_reducible refine rd_or ?_)
  | (with_reducible refine rd_not ?_) | (with_reducible refine rd_andV ?_) | (with_reducible refine rd_orV ?_) | (with_reducible refine rd_notV ?_) | (with_reducible refine rd_chain ?_) | (with_reducible refine rd_tup ?_) | (with_reducible refine rd_lst ?_)
  | (with_reducible refine rd_bm0 ?_) | (with_reducible refine rd_bm ?_) | (with_reducible refine rd_sl ?_) | (with_reducible refine rd_part ?_) | (with_reducible refine rd_nopart ?_) | (with_reducible refine rd_dget ?_) | (with_reducible refine rd_dput ?_)
  | (with_reducible refine rd_next ?_) | (with_reducible refine rd_lc ?_) | ((with_reducible refine' rd_aug ?hv ?_); (case hv => exact rfl)) | (with_reducible refine rd_cont ?_) | (with_reducible refine rd_gcons ?_) | (with_reducible refine rd_gnil ?_) | (with_reducible refine rd_ifT ?_) | (with_reducible refine rd_yes ?_) | (with_reducible refine rd_tru ?_) | (with_reducible refine rd_cntE ?_) | (with_reducible refine rd_rng1 ?_) | (with_reducible refine rd_lrg ?_) | (with_reducible refine rd_rg2 ?_) | (with_reducible refine rd_back ?_) | (with_reducible refine rd_disp ?_) | (with_reducible refine rd_prN ?_) | (with_reducible refine rd_prC ?_) | (with_reducible refine rd_par ?_) | (with_reducible refine rd_par3 ?_) | (with_reducible refine rd_two ?_) | (with_reducible refine rd_three ?_) | (with_reducible refine rd_one ?_) | (with_reducible refine rd_onei ?_) | (with_reducible refine rd_iL ?_) | (with_reducible refine rd_iT ?_) | (with_reducible refine rd_rng2 ?_) | (with_reducible refine rd_bl ?_) | (with_reducible refine rd_int ?_) | (with_reducible refine rd_I0 ?_) | (with_reducible refine rd_U ?_) | (with_reducible refine rd_din ?_) | (with_reducible refine rd_dnin ?_) | (with_reducible refine rd_dnew ?_) | (with_reducible refine rd_lset ?_) | (with_reducible refine rd_enT ?_) | (with_reducible refine rd_idx ?_) | (with_reducible refine rd_rg1 ?_) | (with_reducible refine rd_tupRg ?_)))

section
variable {P : Program} {w : World} {K : PySem.W.Frag} {mg : Str → Option Value} {base : Heap}
/-! ### _law_mk_plain -/
abbrev s__law_mk_plain : Stmt := top 32
abbrev N__law_mk_plain : List Str := ["letters", "found", "letter"]
theorem sc__law_mk_plain : FnScope ["letters", "found", "letter"] ["letters"] (defScope s__law_mk_plain) := ⟨rfl, rfl, rfl, by decide +kernel, rfl, by decide +kernel, by decide +kernel⟩
theorem bd__law_mk_plain : Bnd s__law_mk_plain "_law_mk_plain" ["letters"] := fun _ _ _ _ _ _ us hl => match us, hl with | [_], _ => rfl

theorem d__law_mk_plain (T : Bs K mg) (R : Rw K mg "_law_mk_plain" s__law_mk_plain) : Df P w K mg base CX0 1 "_law_mk_plain" s__law_mk_plain ["letters"] (spPlain K) := by
  refine mk0 R sc__law_mk_plain bd__law_mk_plain (fun vs H Q E h => ?_) fun f cdv A outer s H vs Q E hr h => ?_
  · obtain ⟨a, xs, rfl, _⟩ := h; rfl
  obtain ⟨a, xs, rfl, hS, hz, q⟩ := h
  refine ⟨_, (pss_cons (ps_set (i := 1) sc__law_mk_plain.nd rfl (Or.inl rfl) (pe_lst pa_nil))
      (pss_cons (ps_for PassesOwn.never rfl (pi_U (pv 0)) (pg_name (i := 2) sc__law_mk_plain.nd rfl (Or.inl rfl))
        (pss_one (ps_if (PW.pt (pw_and (pt_cmpR (op_neU hr.units) (pv 1) (pe_lst pa_nil) (nomark _)) (pw_and1 (pt_cmpR (op_eqU hr.units) (pe_ix ix_seq (pv 1) (pe_un un_neg pe_int) (fun _ _ => rfl)) (pe_op op_sub pe_int (pv 2)) (nomark _))))) (pss_one (ps_expr (pe_bm0 PySem.F.plainAttrs_list PySem.F.slot_list_pop PySem.F.type_list_pop mt_pop (pv 1)))) (pss_one (ps_expr (pe_bm PySem.F.plainAttrs_list PySem.F.slot_list_append PySem.F.type_list_append mt_append (pv 1) (pa_cons (pv 2) pa_nil)))))))
      (pss_one (ps_ret (pe_callTy call_tupN (by rfl) T.n_tuple (by decide +kernel) (pa_cons (pv 1) pa_nil)))))), ?_⟩
  walk_at "rd"
  refine ⟨lz (by decide), fun k hk => ?_⟩
  walk_at "rd"
  refine forT (xs := xs.map V.int) (fun i σ H' => ∃ y, σ = [some (.ref a), some (.ref k), y] ∧ Same H H' ∧ H' k = some (.lst ((stack [] (xs.take i)).reverse.map V.int))) rfl (sqT_same (same_new hk) hS) ⟨none, rfl, same_new hk, upd_same⟩
    (fun i σ H' _ h => ?_) (fun i x σ H' hx h => ?_) (fun σ H' h => ?_)
  · obtain ⟨y, rfl, sm, _⟩ := h
    exact sqT_same sm hS
  · obtain ⟨y, rfl, sm, ek⟩ := h
    obtain ⟨z, hz2, rfl⟩ := item_of hx
    have el : (stack [] (xs.take i)).length ≤ xs.length := Nat.le_trans (stack_len _ _) (by rw [List.length_take]; simp only [List.length_nil]; omega)
    have en : stack [] (xs.take (i + 1)) = push (stack [] (xs.take i)) z := by rw [take_more hz2, stack_snoc]
    walk_at "rd"
    refine ⟨lz (by simp), fun p hp => ?_⟩
    have sp : Same H' (upd H' p (.lst [])) := same_new hp
    have ek1 := sp _ _ ek
    refine neL (xs := (stack [] (xs.take i)).reverse) (ys := []) (.inl (.inl ek1)) (.inl (.inl upd_same)) ?_
    have sm1 := sm.trans sp
    generalize upd H' p (.lst []) = H1 at ek1 sm1 ⊢
    walk_at "rd"
    cases hst : stack [] (xs.take i) with
    | nil =>
      rw [hst] at ek1 en el
      refine iteF (iteF ?_)
      walk_at "rd"
      refine ⟨tyl ek1, ?_⟩
      walk_at "rd"
      refine app ek1 (by simp) ?_
      walk_at "rd"
      refine ⟨_, rfl, same_mut sm1 hk, ?_⟩
      rw [upd_same, en]
      rfl
    | cons y r =>
      rw [hst] at ek1 en el
      have ee : (y :: r).reverse.map V.int = r.reverse.map V.int ++ [.int y] := by simp
      rw [ee] at ek1
      rw [show (!decide ((y :: r).reverse = [])) = true by simp]
      refine iteT ?_
      walk_at "rd"
      refine rd_ixL (.inl (.inl ek1)) (atI_last _ _) ?_
      walk_at "rd"
      refine rd_eqI ?_
      walk_at "rd"
      refine rd_ite (fun e => ?_) fun e => ?_
      · have e := of_decide_eq_true e
        walk_at "rd"
        refine ⟨tyL (.inl (.inl ek1)), k, _, .int y, rfl, rfl, ek1, by simp, ?_⟩
        walk_at "rd"
        refine ⟨_, rfl, same_mut sm1 hk, ?_⟩
        rw [upd_same, en, push_c r (by omega), List.dropLast_concat]
      · have e := of_decide_eq_false e
        walk_at "rd"
        refine ⟨tyl ek1, ?_⟩
        walk_at "rd"
        refine app ek1 (by simp only [List.length_append, List.length_map, List.length_reverse, List.length_cons, List.length_nil] at el ⊢; omega) ?_
        walk_at "rd"
        refine ⟨_, rfl, same_mut sm1 hk, ?_⟩
        rw [upd_same, en, push_n r (by omega)]
        simp
  · obtain ⟨y, rfl, sm, ek⟩ := h
    rw [List.length_map, List.take_length] at ek
    walk_at "rd"
    refine rd_tupOfL (.inl (.inl ek)) fun p o hp ho hd => q p _ (sm.trans (same_new hp)) ⟨o, upd_same, ho, hd⟩
/-! ### _law_mk_undone -/
abbrev s__law_mk_undone : Stmt := top 33
abbrev N__law_mk_undone : List Str := ["row", "letter"]
theorem sc__law_mk_undone : FnScope ["row", "letter"] ["row"] (defScope s__law_mk_undone) := ⟨rfl, rfl, rfl, by decide +kernel, rfl, by decide +kernel, by decide +kernel⟩
theorem bd__law_mk_undone : Bnd s__law_mk_undone "_law_mk_undone" ["row"] := fun _ _ _ _ _ _ us hl => match us, hl with | [_], _ => rfl

theorem d__law_mk_undone (T : Bs K mg) (R : Rw K mg "_law_mk_undone" s__law_mk_undone) : Df P w K mg base CX0 1 "_law_mk_undone" s__law_mk_undone ["row"] (spUndone K) := by
  refine mk0 R sc__law_mk_undone bd__law_mk_undone (fun vs H Q E h => ?_) fun f cdv A outer s H vs Q E hr h => ?_
  · obtain ⟨a, xs, rfl, _⟩ := h; rfl
  obtain ⟨a, xs, rfl, hS, hz, q⟩ := h
  refine ⟨_, (pss_one (ps_ret (pe_callTy call_tupN (by rfl) T.n_tuple (by decide +kernel) (pa_cons (pe_lc (own := [("letter", 1)]) rfl sc__law_mk_undone.nd (pi_U (pe_back (pv 0))) (blkOk_by (own := [("letter", 1)]) (N := ["row", "letter"]) (sc := defScope s__law_mk_undone) (by decide +kernel)) (fun _ _ _ _ _ => (pg_name (i := 1) sc__law_mk_undone.nd rfl (Or.inl rfl))) (fun _ _ _ _ _ => pts_nil) (fun _ _ _ _ _ => (pe_op op_sub pe_int (pv 1)))) pa_nil)))), ?_⟩
  walk_at "rd"
  refine .inr ?_
  walk_at "rd"
  refine ⟨a, _, rfl, hS, fun p o hp ho hd => ?_⟩
  have sp : Same H (upd H p (.frz o (.tup (xs.map V.int).reverse))) := same_new hp
  have hp2 : SqT K (upd H p (.frz o (.tup (xs.map V.int).reverse))) p (xs.map V.int).reverse := Tp.sqT ⟨o, upd_same, ho, hd⟩
  generalize upd H p (.frz o (.tup (xs.map V.int).reverse)) = H1 at sp hp2 ⊢
  refine ⟨p, rfl, ⟨_, hp2⟩, fun D hD => ?_⟩
  refine lc_pure walk_tup hD (xs.map V.int).reverse (fun _ => true) negV rfl (by simp only [List.length_reverse, List.length_map]; omega) (fun H' e => sqT_same e hp2) (fun i H x H' hi y => y) (fun x H' hx e R R0 h1 h0 => ?_) fun H' e hD' => ?_
  · obtain ⟨z, rfl⟩ := mem_int hx
    walk_at "rd"
    refine ⟨rfl, ?_⟩
    walk_at "rd"
    refine iteT ?_
    walk_at "rd"
    have h1 : ∀ H'', Same H' H'' → R (.int (-z)) H'' := h1 rfl
    rw [Int.zero_sub]
    exact h1 H' (Same.refl _)
  · rw [neg_map] at hD'
    walk_at "rd"
    exact rd_tupOfL (.inl (.inl hD')) fun p o hp ho hd => q p _ ((sp.trans e).trans (same_new hp)) ⟨o, upd_same, ho, hd⟩
/-! ### _law_mk_letters -/
def lets (n : Int) : List Int := ((List.range n.toNat).map fun (i : Nat) => 1 + (i : Int)) ++ (List.range n.toNat).map fun (i : Nat) => -(1 + (i : Int))
theorem lets_len (n : Int) : (lets n).length = n.toNat + n.toNat := by simp [lets]
theorem lets_mem {n x : Int} : x ∈ lets n ↔ (-n ≤ x ∧ x ≤ n ∧ x ≠ 0) := by
  unfold lets
  rw [List.mem_append, List.mem_map, List.mem_map]
  constructor
  · rintro (⟨i, hi, rfl⟩ | ⟨i, hi, rfl⟩)
    · have := List.mem_range.mp hi
      omega
    · have := List.mem_range.mp hi
      omega
  · intro ⟨a, b, c⟩
    by_cases h : 0 < x
    · exact .inl ⟨(x - 1).toNat, List.mem_range.mpr (by omega), by omega⟩
    · exact .inr ⟨(-x - 1).toNat, List.mem_range.mpr (by omega), by omega⟩
def spLetters (K : PySem.W.Frag) : Sp := fun vs H Q _ => ∃ n : Int, vs = [.int n] ∧ 1 ≤ n ∧ n ≤ 4 ∧ ∀ p H', Same H H' → H p = none → H' p = some (.lst ((lets n).map V.int)) → Q (.ref p) H'
/-! ### letters -/
abbrev s__law_mk_letters : Stmt := top 34
abbrev N__law_mk_letters : List Str := ["deeds", "deed"]
theorem sc__law_mk_letters : FnScope ["deeds", "deed"] ["deeds"] (defScope s__law_mk_letters) := ⟨rfl, rfl, rfl, by decide +kernel, rfl, by decide +kernel, by decide +kernel⟩
theorem bd__law_mk_letters : Bnd s__law_mk_letters "_law_mk_letters" ["deeds"] := fun _ _ _ _ _ _ us hl => match us, hl with | [_], _ => rfl

theorem d__law_mk_letters (T : Bs K mg) (R : Rw K mg "_law_mk_letters" s__law_mk_letters) : Df P w K mg base CX0 1 "_law_mk_letters" s__law_mk_letters ["deeds"] (spLetters K) := by
  refine mk0 R sc__law_mk_letters bd__law_mk_letters (fun vs H Q E h => ?_) fun f cdv A outer s H vs Q E hr h => ?_
  · obtain ⟨n, rfl, _⟩ := h; rfl
  obtain ⟨n, rfl, h1, h2, q⟩ := h
  refine ⟨_, (pss_one (ps_ret (pe_op op_addU (pe_listRg rfl (by rfl) T.n_list (prg_2 (by rfl) T.n_range pe_int (pe_op op_addU (pv 0) pe_int))) (pe_lc (own := [("deed", 1)]) rfl sc__law_mk_letters.nd (pi_range2 (by rfl) T.n_range (pa_cons pe_int (pa_cons (pe_op op_addU (pv 0) pe_int) pa_nil))) (blkOk_by (own := [("deed", 1)]) (N := ["deeds", "deed"]) (sc := defScope s__law_mk_letters) (by decide +kernel)) (fun _ _ _ _ _ => (pg_name (i := 1) sc__law_mk_letters.nd rfl (Or.inl rfl))) (fun _ _ _ _ _ => pts_nil) (fun _ _ _ _ _ => (pe_op op_sub pe_int (pv 1))))))), ?_⟩
  walk_at "rd"
  refine rd_addI ?_
  refine ⟨1, n + 1, rfl, rfl, ⟨by omega, by omega, by omega, by omega, by omega⟩, fun p hp => ?_⟩
  walk_at "rd"
  refine rd_addI ?_
  walk_at "rd"
  refine ⟨1, n + 1, rfl, ⟨by omega, by omega, by omega, by omega⟩, fun D hD => ?_⟩
  rw [show (n + 1 - 1).toNat = n.toNat by omega]
  refine lc_pure walk_range hD ((List.range n.toNat).map fun (i : Nat) => V.int (1 + (i : Int))) (fun _ => true) negV (by simp) (by omega) (fun _ _ => True.intro)
    (fun i H x H' hi y => ⟨y.1, by rw [y.2]; simp [hi]⟩) (fun x H' hx e2 R R0 g1 g0 => ?_) fun H' e2 hD' => ?_
  · obtain ⟨z, rfl⟩ : ∃ z, x = .int z := by
      obtain ⟨i, _, rfl⟩ := List.mem_map.mp hx
      exact ⟨_, rfl⟩
    walk_at "rd"
    refine ⟨rfl, ?_⟩
    walk_at "rd"
    refine iteT ?_
    walk_at "rd"
    have g1 : ∀ H'', Same H' H'' → R (.int (-z)) H'' := g1 rfl
    rw [Int.zero_sub]
    exact g1 H' (Same.refl _)
  · have ep : H' p = some (.lst (rgV 1 (n + 1))) := e2 _ _ upd_same
    rw [List.filter_eq_self.mpr fun _ _ => rfl, List.map_map] at hD'
    refine catL ep hD' (by rw [rgV_length]; simp only [List.length_map, List.length_range]; omega) fun p2 hp2 => ?_
    have e3 : Same H H' := (same_new hp).trans e2
    refine q p2 _ (e3.trans (same_new hp2)) (none_of e3 hp2) ?_
    rw [upd_same]
    unfold lets rgV
    rw [show (n + 1 - 1).toNat = n.toNat by omega]
    simp [Function.comp_def, negV]
/-! ### _law_mk_row -/
/-- letters of n deeds -/
def LetS (n : Int) (xs : List Int) : Prop := ∀ x ∈ xs, -n ≤ x ∧ x ≤ n ∧ x ≠ 0
def spMkRow (K : PySem.W.Frag) : Sp := fun vs H Q _ => ∃ (s g c : Addr) (m : Nat) (n lo hi : Int), vs = [.ref s, .int n, .int lo, .int hi] ∧ StAt m H s g c ∧ m < 100000 ∧ 1 ≤ n ∧ n ≤ 4 ∧ 0 ≤ lo ∧ lo ≤ hi ∧ hi ≤ 20 ∧
  ∀ p xs H', StAt (m + 21) H' s g c → XE.Kept s g H H' → Tp H' p (xs.map V.int) → (xs.length : Int) ≤ hi → lo ≤ (xs.length : Int) → LetS n xs → Q (.ref p) H'
def okNext (xs : List Int) : V → Bool
  | .int z => decide (xs = []) || !decide (xs.getLast? = some (-z))
  | _ => false
theorem some_next {n : Int} (h : 1 ≤ n) (xs : List Int) : (((lets n).map V.int).filter (okNext xs)).map (fun x => x) ≠ [] := by
  have key : ∀ z : Int, z ∈ lets n → okNext xs (.int z) = true → (((lets n).map V.int).filter (okNext xs)).map (fun x => x) ≠ [] := fun z hz ho =>
    List.ne_nil_of_mem (List.mem_map.mpr ⟨.int z, List.mem_filter.mpr ⟨List.mem_map.mpr ⟨z, hz, rfl⟩, ho⟩, rfl⟩)
  by_cases e : xs.getLast? = some (-1)
  · refine key (-1) (lets_mem.mpr (by omega)) ?_
    have e2 : decide (xs.getLast? = some (- -1)) = false := decide_eq_false (by rw [e]; decide)
    show (decide (xs = []) || !decide (xs.getLast? = some (- -1))) = true
    rw [e2]
    simp
  · refine key 1 (lets_mem.mpr (by omega)) ?_
    show (decide (xs = []) || !decide (xs.getLast? = some (-1))) = true
    rw [decide_eq_false e]
    simp
/-! ### row -/
abbrev s__law_mk_row : Stmt := top 35
abbrev N__law_mk_row : List Str := ["state", "deeds", "least", "most", "found", "lap", "some", "letter"]
theorem sc__law_mk_row : FnScope ["state", "deeds", "least", "most", "found", "lap", "some", "letter"] ["state", "deeds", "least", "most"] (defScope s__law_mk_row) := ⟨rfl, rfl, rfl, by decide +kernel, rfl, by decide +kernel, by decide +kernel⟩
theorem bd__law_mk_row : Bnd s__law_mk_row "_law_mk_row" ["state", "deeds", "least", "most"] := fun _ _ _ _ _ _ us hl => match us, hl with | [_, _, _, _], _ => rfl

theorem d__law_mk_row (T : Bs K mg) (R : Rw K mg "_law_mk_row" s__law_mk_row) (D__law_draw : Df P w K mg base CX0 2 "_law_draw" s__law_draw ["state", "room"] (spDraw K)) (D__law_pick : Df P w K mg base CX0 3 "_law_pick" s__law_pick ["state", "some"] (spPick K))
    (D__law_mk_letters : Df P w K mg base CX0 1 "_law_mk_letters" s__law_mk_letters ["deeds"] (spLetters K)) : Df P w K mg base CX0 5 "_law_mk_row" s__law_mk_row ["state", "deeds", "least", "most"] (spMkRow K) := by
  refine mk0 R sc__law_mk_row bd__law_mk_row (fun vs H Q E h => ?_) fun f cdv A outer sh H vs Q E hr h => ?_
  · obtain ⟨s, g, c, m, n, lo, hi, rfl, _⟩ := h; rfl
  obtain ⟨s, g, c, m, n, lo, hi, rfl, hS, hm, n1, n4, l0, l1, l2, q⟩ := h
  refine ⟨_, (pss_cons (ps_set (i := 4) sc__law_mk_row.nd rfl (Or.inr rfl) (pe_lst pa_nil))
      (pss_cons (ps_for PassesOwn.never rfl (pi_range1 (by rfl) T.n_range (pa_cons (pe_op op_addU (pv 2) (pe_d D__law_draw hr (by decide) (by rfl) pass0 (pa_cons (pv 0) (pa_cons (pe_op op_addU (pe_op op_sub (pv 3) (pv 2)) pe_int) pa_nil)))) pa_nil)) (pg_name (i := 5) sc__law_mk_row.nd rfl (Or.inl rfl))
        (pss_cons (ps_setLc (i := 6) (own := [("letter", 7)]) rfl sc__law_mk_row.nd rfl rfl (sw_true rfl rfl rfl (by decide +kernel)) (pi_U (pe_d D__law_mk_letters hr (by decide) (by rfl) pass0 (pa_cons (pv 1) pa_nil))) (blkOk_by (own := [("letter", 7)]) (N := ["state", "deeds", "least", "most", "found", "lap", "some", "letter"]) (sc := defScope s__law_mk_row) (by decide +kernel)) (fun _ _ _ _ _ => (pg_name (i := 7) sc__law_mk_row.nd rfl (Or.inl rfl))) (fun _ _ _ _ _ => pts_one (PW.pt (pw_or (pt_cmpR (show OpR _ _ (rEqU K) from (op_eqU hr.units)) (pv 4) (pe_lst pa_nil) (nomark _)) (pw_or1 (pt_cmpR (show OpR _ _ (rNeU K) from (op_neU hr.units)) (pv 7) (pe_op op_sub pe_int (pe_ix (show IxR _ (rIx K) from ix_seq) (pv 4) (pe_un un_neg pe_int) (fun _ _ => rfl))) (nomark _)))))) (fun _ _ _ _ _ => (pv 7)))
        (pss_one (ps_expr (pe_bm PySem.F.plainAttrs_list PySem.F.slot_list_append PySem.F.type_list_append mt_append (pv 4) (pa_cons (pe_d D__law_pick hr (by decide) (by rfl) pass0 (pa_cons (pv 0) (pa_cons (pv 6) pa_nil))) pa_nil))))))
      (pss_one (ps_ret (pe_callTy call_tupN (by rfl) T.n_tuple (by decide +kernel) (pa_cons (pv 4) pa_nil)))))), ?_⟩
  walk_at "rd"
  refine ⟨lz (by simp), fun k hk => ?_⟩
  have kg : k ≠ g := hS.ne_n hk
  have S0 : StAt m (upd H k (.lst [])) s g c := hS.same (same_new hk)
  have K0 : XE.Kept s g H (upd H k (.lst [])) := XE.Kept.of (same_new hk)
  have E0k : upd H k (.lst []) k = some (.lst []) := upd_same
  generalize upd H k (.lst []) = H1 at S0 K0 E0k ⊢
  walk_at "rd"
  refine rd_for ?_
  walk_at "rd"
  refine rd_addI ?_
  walk_at "rd"
  refine ⟨s, g, c, m, hi - lo + 1, rfl, S0, by omega, by omega, by omega, fun r H2 r0 r1 S1 k1 => ?_⟩
  refine rd_addI ?_
  walk_at "rd"
  refine ⟨by omega, by omega, ?_⟩
  refine for_range (fun i σ H' => ∃ (xs : List Int) (x5 x6 x7 : Option V), σ = [some (.ref s), some (.int n), some (.int lo), some (.int hi), some (.ref k), x5, x6, x7] ∧ StAt (m + 1 + i) H' s g c ∧ XE.Kept s g H H' ∧ H' k = some (.lst (xs.map V.int)) ∧ xs.length = i ∧ LetS n xs)
    ⟨[], none, none, none, rfl, S1, K0.trans k1, k1.lst S0 E0k kg, rfl, fun x hx => nomatch hx⟩ (fun i σ H' hi2 h => ?_) (fun σ H' h => ?_)
  · obtain ⟨xs, x5, x6, x7, rfl, S2, K2, E2, ln, le⟩ := h
    walk_at "rd"
    refine .inl ?_
    walk_at "rd"
    refine ⟨n, rfl, n1, n4, fun p H3 s3 hp3 ep3 => ?_⟩
    refine ⟨p, rfl, ⟨_, .inl (.inl ep3)⟩, fun D hD => ?_⟩
    refine lc_pure walk_list hD ((lets n).map V.int) (okNext xs) (fun x => x) rfl (by rw [List.length_map, lets_len]; omega) (fun H' e => .inl (.inl (e _ _ ep3))) (fun i H x H' hi y => y) (fun x H4 hx e4 R R0 g1 g0 => ?_) fun H4 e4 hD' => ?_
    · obtain ⟨z, hz, rfl⟩ := List.mem_map.mp hx
      have g1 : (decide (xs = []) || !decide (xs.getLast? = some (-z))) = true → ∀ H'', Same H4 H'' → R (.int z) H'' := g1
      have g0 : (decide (xs = []) || !decide (xs.getLast? = some (-z))) = false → ∀ H'', Same H4 H'' → R0 H'' := g0
      walk_at "rd"
      refine ⟨rfl, ?_⟩
      walk_at "rd"
      refine ⟨lz (by simp), fun p5 hp5 => ?_⟩
      have E4 : H4 k = some (.lst (xs.map V.int)) := e4 _ _ (s3 _ _ E2)
      have s5 : Same H4 (upd H4 p5 (.lst [])) := same_new hp5
      have E5 := s5 _ _ E4
      refine eqL (ys := []) (.inl (.inl E5)) (.inl (.inl upd_same)) ?_
      generalize upd H4 p5 (.lst []) = H5 at s5 E5 ⊢
      walk_at "rd"
      refine rd_ite (fun e => ?_) fun e => ?_
      · refine iteT ?_
        walk_at "rd"
        exact g1 (by rw [e] <;> rfl) H5 s5
      · walk_at "rd"
        obtain ⟨y, hy⟩ : ∃ y, xs.getLast? = some y := by
          cases hq : xs.getLast? with
          | none => exact absurd (List.getLast?_eq_none_iff.mp hq) (of_decide_eq_false e)
          | some y => exact ⟨y, rfl⟩
        rw [e, hy] at g1 g0
        refine rd_ixL (v := .int y) (.inl (.inl E5)) (atI_last2 (by rw [List.getLast?_map, hy] <;> rfl)) ?_
        walk_at "rd"
        refine rd_neI ?_
        walk_at "rd"
        by_cases e2 : y = -z
        · rw [decide_eq_true (show z = 0 - y by omega)]
          refine iteF (g0 ?_ H5 s5)
          rw [e2]
          simp
        · rw [decide_eq_false (show ¬ z = 0 - y by omega)]
          refine iteT ?_
          walk_at "rd"
          refine g1 ?_ H5 s5
          simp [e2]
    · have E4 : H4 k = some (.lst (xs.map V.int)) := e4 _ _ (s3 _ _ E2)
      have S4 := S2.same (s3.trans e4)
      walk_at "rd"
      refine ⟨tyl E4, ?_⟩
      have ll := List.length_filter_le (okNext xs) ((lets n).map V.int)
      rw [List.length_map, lets_len] at ll
      walk_at "rd"
      refine ⟨s, g, c, D, m + 1 + i, _, rfl, S4, by omega, .inl (.inl hD'), (S2.same s3).ne_n hD, some_next n1 xs, by rw [List.length_map]; omega, fun x H5 hx S5 k5 => ?_⟩
      rw [List.map_id'] at hx
      obtain ⟨z, hz, rfl⟩ := List.mem_map.mp (List.mem_filter.mp hx).1
      walk_at "rd"
      refine app (k5.lst S4 E4 kg) (by rw [List.length_map]; omega) ?_
      walk_at "rd"
      refine ⟨xs ++ [z], _, _, _, rfl, StAt.mut hS hk S5, ((K2.trans (.of (s3.trans e4))).trans k5).mut hk, by rw [upd_same]; simp, by simp [ln], fun y hy => ?_⟩
      rcases List.mem_append.mp hy with h | h
      · exact le y h
      · rw [List.mem_singleton.mp h]
        exact lets_mem.mp hz
  · obtain ⟨xs, x5, x6, x7, rfl, S2, K2, E2, ln, le⟩ := h
    walk_at "rd"
    refine rd_tupOfL (.inl (.inl E2)) fun p o hp ho hd => q p xs _ ((S2.mono (by omega)).same (same_new hp)) (K2.trans (.of (same_new hp))) ⟨o, upd_same, ho, hd⟩ (by omega) (by omega) le
end
end KP

set_option linter.all false
set_option maxRecDepth 100000
set_option maxHeartbeats 4000000
namespace KP
open PySem PySem.Spec PyProof.Rows L2 XA XB XC XD XM XE XF XG
local macro_rules | `(tactic| walk_at "rd") => `(tactic| repeat (first
  | (with_reducible refine rd_seq ?_) | (with_reducible refine rd_asg ?_) | ((with_reducible refine' rd_var ?hv ?_); (case hv => exact rfl)) | (with_reducible refine rd_c ?_) | (with_reducible refine rd_gn ?_)
  | (with_reducible refine rd_op ?_) | (with_reducible refine rd_un ?_) | (with_reducible refine rd_cons ?_) | (with_reducible refine rd_nil ?_) | (with_reducible refine rd_cl ?_) | (with_reducible refine rd_ck ?_) | (with_reducible refine rd_cb ?_)
  | (with_reducible refine rd_ret ?_) | (with_reducible refine rd_drop ?_) | (with_reducible refine rd_ifs ?_) | (with_reducible refine rd_if ?_) | (with_reducible refine rd_test ?_) | (with_reducible refine rd_tb ?_) | (with_reducible refine rd_and ?_) | (with_reducible refine rd_or ?_)
  | (with_reducible refine rd_not ?_) | (with_reducible refine rd_andV ?_) | (with_reducible refine rd_orV ?_) | (with_reducible refine rd_notV ?_) | (with_reducible refine rd_chain ?_) | (with_reducible refine rd_tup ?_) | (with_reducible refine rd_lst ?_)
  | (with_reducible refine rd_bm0 ?_) | (with_reducible refine rd_bm ?_) | (with_reducible refine rd_sl ?_) | (with_reducible refine rd_part ?_) | (with_reducible refine rd_nopart ?_) | (with_reducible refine rd_dget ?_) | (with_reducible refine rd_dput ?_)
  | (with_reducible refine rd_next ?_) | (with_reducible refine rd_lc ?_) | ((with_reducible refine' rd_aug ?hv ?_); (case hv => exact rfl)) | (with_reducible refine rd_cont ?_) | (with_reducible refine rd_gcons ?_) | (with_reducible refine rd_gnil ?_) | (with_reducible refine rd_ifT ?_) | (with_reducible refine rd_yes ?_) | (with_reducible refine rd_tru ?_) | (with_reducible refine rd_cntE ?_) | (with_reducible refine rd_rng1 ?_) | (with_reducible refine rd_lrg ?_) | (with_reducible refine rd_rg2 ?_) | (with_reducible refine rd_back ?_) | (with_reducible refine rd_disp ?_) | (with_reducible refine rd_prN ?_) | (with_reducible refine rd_prC ?_) | (with_reducible refine rd_par ?_) | (with_reducible refine rd_par3 ?_) | (with_reducible refine rd_two ?_) | (with_reducible refine rd_three ?_) | (with_reducible refine rd_one ?_) | (with_reducible refine rd_onei ?_) | (with_reducible refine rd_iL ?_) | (with_reducible refine rd_iT ?_) | (with_reducible refine rd_rng2 ?_) | (with_reducible refine rd_bl ?_) | (with_reducible refine rd_int ?_) | (with_reducible refine rd_I0 ?_) | (with_reducible refine rd_U ?_) | (with_reducible refine rd_din ?_) | (with_reducible refine rd_dnin ?_) | (with_reducible refine rd_dnew ?_) | (with_reducible refine rd_lset ?_) | (with_reducible refine rd_enT ?_) | (with_reducible refine rd_idx ?_) | (with_reducible refine rd_rg1 ?_) | (with_reducible refine rd_tupRg ?_)))

section
variable {P : Program} {w : World} {K : PySem.W.Frag} {mg : Str → Option Value} {base : Heap}
/-! ### _law_mk_raw -/
def spMkRaw (K : PySem.W.Frag) : Sp := fun vs H Q _ => ∃ (s g c a : Addr) (m : Nat) (n : Int) (xs : List Int), vs = [.ref s, .int n, .ref a] ∧ StAt m H s g c ∧ m < 100000 ∧ 1 ≤ n ∧ n ≤ 4 ∧ SqT K H a (xs.map V.int) ∧ xs.length ≤ 400 ∧ LetS n xs ∧
  ∀ p ys H', StAt (m + 10) H' s g c → XE.Kept s g H H' → Tp H' p (ys.map V.int) → ys.length ≤ xs.length + 4 → LetS n ys → Q (.ref p) H'
abbrev s__law_mk_raw : Stmt := top 36
abbrev N__law_mk_raw : List Str := ["state", "deeds", "row", "found", "lap", "at", "letter"]
theorem sc__law_mk_raw : FnScope ["state", "deeds", "row", "found", "lap", "at", "letter"] ["state", "deeds", "row"] (defScope s__law_mk_raw) := ⟨rfl, rfl, rfl, by decide +kernel, rfl, by decide +kernel, by decide +kernel⟩
theorem bd__law_mk_raw : Bnd s__law_mk_raw "_law_mk_raw" ["state", "deeds", "row"] := fun _ _ _ _ _ _ us hl => match us, hl with | [_, _, _], _ => rfl

theorem d__law_mk_raw (T : Bs K mg) (R : Rw K mg "_law_mk_raw" s__law_mk_raw) (D__law_draw : Df P w K mg base CX0 2 "_law_draw" s__law_draw ["state", "room"] (spDraw K)) (D__law_pick : Df P w K mg base CX0 3 "_law_pick" s__law_pick ["state", "some"] (spPick K))
    (D__law_mk_letters : Df P w K mg base CX0 1 "_law_mk_letters" s__law_mk_letters ["deeds"] (spLetters K)) : Df P w K mg base CX0 5 "_law_mk_raw" s__law_mk_raw ["state", "deeds", "row"] (spMkRaw K) := by
  refine mk0 R sc__law_mk_raw bd__law_mk_raw (fun vs H Q E h => ?_) fun f cdv A outer sh H vs Q E hr h => ?_
  · obtain ⟨s, g, c, a, m, n, xs, rfl, _⟩ := h; rfl
  obtain ⟨s, g, c, a, m, n, xs, rfl, hS, hm, n1, n4, hT, hl, le, q⟩ := h
  refine ⟨_, (pss_cons (ps_set (i := 3) sc__law_mk_raw.nd rfl (Or.inl rfl) (pe_callTy call_list_of (by rfl) T.n_list (by decide +kernel) (pa_cons (pv 2) pa_nil)))
      (pss_cons (ps_for PassesOwn.never rfl (pi_range1 (by rfl) T.n_range (pa_cons (pe_d D__law_draw hr (by decide) (by rfl) pass0 (pa_cons (pv 0) (pa_cons pe_int pa_nil))) pa_nil)) (pg_name (i := 4) sc__law_mk_raw.nd rfl (Or.inl rfl))
        (pss_cons (ps_par (i := 5) (j := 6) rfl sc__law_mk_raw.nd rfl rfl (by decide) rfl rfl (pa_cons (pe_d D__law_draw hr (by decide) (by rfl) pass0 (pa_cons (pv 0) (pa_cons (pe_op op_addU (pe_callB call_len (by rfl) T.n_len (by decide +kernel) (pa_cons (pv 3) pa_nil)) pe_int) pa_nil))) (pa_cons (pe_d D__law_pick hr (by decide) (by rfl) pass0 (pa_cons (pv 0) (pa_cons (pe_d D__law_mk_letters hr (by decide) (by rfl) pass0 (pa_cons (pv 1) pa_nil)) pa_nil))) pa_nil)) (by rfl))
        (pss_one (ps_set (i := 3) sc__law_mk_raw.nd rfl (Or.inl rfl) (pe_op op_addU (pe_op op_addU (pe_slice sl_U (pv 3) po_none (po_some (pv 5))) (pe_lst (pa_cons (pv 6) (pa_cons (pe_op op_sub pe_int (pv 6)) pa_nil)))) (pe_slice sl_U (pv 3) (po_some (pv 5)) po_none))))))
      (pss_one (ps_ret (pe_callTy call_tupN (by rfl) T.n_tuple (by decide +kernel) (pa_cons (pv 3) pa_nil)))))), ?_⟩
  walk_at "rd"
  refine ⟨a, _, rfl, .inr hT, fun k hk => ?_⟩
  walk_at "rd"
  refine rd_for ?_
  walk_at "rd"
  refine ⟨s, g, c, m, 3, rfl, hS.same (same_new hk), by omega, by omega, by omega, fun r H2 r0 r1 S1 k1 => ?_⟩
  have K1 : XE.Kept s g H H2 := (XE.Kept.of (same_new hk)).trans k1
  have E1 : H2 k = some (.lst (xs.map V.int)) := k1.lst (hS.same (same_new hk)) upd_same (hS.ne_n hk)
  walk_at "rd"
  refine ⟨by omega, by omega, ?_⟩
  refine for_range (fun i σ H' => ∃ (k : Addr) (ys : List Int) (x4 x5 x6 : Option V), σ = [some (.ref s), some (.int n), some (.ref a), some (.ref k), x4, x5, x6] ∧ H k = none ∧ StAt (m + 1 + 2 * i) H' s g c ∧ XE.Kept s g H H' ∧ H' k = some (.lst (ys.map V.int)) ∧ ys.length = xs.length + 2 * i ∧ LetS n ys)
    ⟨k, xs, none, none, none, rfl, hk, S1, K1, E1, rfl, le⟩ (fun i σ H' hi2 h => ?_) (fun σ H' h => ?_)
  · obtain ⟨k, ys, x4, x5, x6, rfl, hk, S2, K2, E2, ln, le2⟩ := h
    have kg : k ≠ g := hS.ne_n hk
    walk_at "rd"
    refine lenL (.inl (.inl E2)) ?_
    rw [List.length_map]
    walk_at "rd"
    refine rd_addI ?_
    walk_at "rd"
    refine ⟨s, g, c, m + 1 + 2 * i, (ys.length : Int) + 1, rfl, S2, by omega, by omega, by omega, fun at_ H3 a0 a1 S3 k3 => ?_⟩
    walk_at "rd"
    refine ⟨n, rfl, n1, n4, fun p H4 s4 hp4 ep4 => ?_⟩
    walk_at "rd"
    refine ⟨s, g, c, p, m + 1 + 2 * i + 1, _, rfl, S3.same s4, by omega, .inl (.inl ep4), S3.ne_n hp4, ?_, by rw [List.length_map, lets_len]; omega, fun x H5 hx S5 k5 => ?_⟩
    · intro z
      have z := congrArg List.length z
      rw [List.length_map, lets_len] at z
      simp only [List.length_nil] at z
      omega
    obtain ⟨z, hz, rfl⟩ := List.mem_map.mp hx
    obtain ⟨j, rfl⟩ : ∃ j : Nat, at_ = (j : Int) := ⟨at_.toNat, by omega⟩
    have hj : j ≤ (ys.map V.int).length := by rw [List.length_map]; omega
    have E3 := k3.lst S2 E2 kg
    have E5 := k5.lst (S3.same s4) (s4 _ _ E3) kg
    have K5 : XE.Kept s g H H5 := ((K2.trans k3).trans (.of s4)).trans k5
    walk_at "rd"
    refine slL (.inl (.inl E5)) fun p1 hp1 => ?_
    rw [cut_lo hj]
    walk_at "rd"
    refine ⟨lz (by simp), fun p2 hp2 => ?_⟩
    have e1 : upd (upd H5 p1 (.lst ((ys.map V.int).take j))) p2 (.lst [.int z, .int (0 - z)]) p1 = some (.lst ((ys.map V.int).take j)) := same_new hp2 _ _ upd_same
    have s6 : Same H5 (upd (upd H5 p1 (.lst ((ys.map V.int).take j))) p2 (.lst [.int z, .int (0 - z)])) := (same_new hp1).trans (same_new hp2)
    have e2 : upd (upd H5 p1 (.lst ((ys.map V.int).take j))) p2 (.lst [.int z, .int (0 - z)]) p2 = some (.lst [.int z, .int (0 - z)]) := upd_same
    generalize upd (upd H5 p1 (.lst ((ys.map V.int).take j))) p2 (.lst [.int z, .int (0 - z)]) = H6 at e1 e2 s6 ⊢
    have lt : ((ys.map V.int).take j).length ≤ 410 := by rw [List.length_take, List.length_map]; omega
    refine catL e1 e2 (by simp only [List.length_cons, List.length_nil]; omega) fun p3 hp3 => ?_
    walk_at "rd"
    refine slL (.inl (.inl (same_new hp3 _ _ (s6 _ _ E5)))) fun p4 hp4 => ?_
    rw [cut_hi hj]
    walk_at "rd"
    have ld : ((ys.map V.int).drop j).length ≤ 410 := by rw [List.length_drop, List.length_map]; omega
    refine catL (same_new hp4 _ _ upd_same) upd_same (by simp only [List.length_append, List.length_cons, List.length_nil]; omega) fun p5 hp5 => ?_
    have s7 := fun o : HO => ((s6.trans (same_new hp3)).trans (same_new hp4)).trans (same_new (o := o) hp5)
    walk_at "rd"
    refine ⟨p5, ys.take j ++ [z, 0 - z] ++ ys.drop j, _, _, _, rfl, ?_, (S5.same (s7 _)).mono (by omega), K5.trans (.of (s7 _)), ?_, ?_, fun y hy => ?_⟩
    · exact K5.none S5 (none_of (((s6.trans (same_new hp3)).trans (same_new hp4))) hp5)
    · rw [upd_same]
      simp [List.map_take, List.map_drop]
    · simp only [List.length_append, List.length_take, List.length_drop, List.length_cons, List.length_nil]
      omega
    · rcases List.mem_append.mp hy with h | h
      · rcases List.mem_append.mp h with h | h
        · exact le2 y (List.mem_of_mem_take h)
        · have hz := lets_mem.mp hz
          rcases List.mem_cons.mp h with e | e
          · rw [e]; exact hz
          · rw [List.mem_singleton.mp e]; omega
      · exact le2 y (List.mem_of_mem_drop h)
  · obtain ⟨k, ys, x4, x5, x6, rfl, hk, S2, K2, E2, ln, le2⟩ := h
    walk_at "rd"
    refine rd_tupOfL (.inl (.inl E2)) fun p o hp ho hd => q p ys _ ((S2.mono (by omega)).same (same_new hp)) (K2.trans (.of (same_new hp))) ⟨o, upd_same, ho, hd⟩ (by omega) le2
/-! ### values that are no deeds, no rows -/
def spBadDeeds (K : PySem.W.Frag) : Sp := fun vs H Q _ => ∃ (s g c : Addr) (m : Nat), vs = [.ref s] ∧ StAt m H s g c ∧ m < 100000 ∧
  ∀ v d H', Rp K H' v d → d.from 1 4 = false → v ≠ .ref g → StAt (m + 1) H' s g c → XE.Kept s g H H' → Q v H'
abbrev s__law_mk_bad_deeds : Stmt := top 37
abbrev N__law_mk_bad_deeds : List Str := ["state"]
theorem sc__law_mk_bad_deeds : FnScope ["state"] ["state"] (defScope s__law_mk_bad_deeds) := ⟨rfl, rfl, rfl, by decide +kernel, rfl, by decide +kernel, by decide +kernel⟩
theorem bd__law_mk_bad_deeds : Bnd s__law_mk_bad_deeds "_law_mk_bad_deeds" ["state"] := fun _ _ _ _ _ _ us hl => match us, hl with | [_], _ => rfl

theorem d__law_mk_bad_deeds (T : Bs K mg) (R : Rw K mg "_law_mk_bad_deeds" s__law_mk_bad_deeds) (D__law_pick : Df P w K mg base CX0 3 "_law_pick" s__law_pick ["state", "some"] (spPick K)) :
    Df P w K mg base CX0 5 "_law_mk_bad_deeds" s__law_mk_bad_deeds ["state"] (spBadDeeds K) := by
  refine mk0 R sc__law_mk_bad_deeds bd__law_mk_bad_deeds (fun vs H Q E h => ?_) fun f cdv A outer sh H vs Q E hr h => ?_
  · obtain ⟨s, g, c, m, rfl, _⟩ := h; rfl
  obtain ⟨s, g, c, m, rfl, hS, hm, q⟩ := h
  refine ⟨_, (pss_one (ps_ret (pe_d D__law_pick hr (by decide) (by rfl) pass0 (pa_cons (pv 0) (pa_cons (pe_lst (pa_cons pe_non (pa_cons pe_int (pa_cons pe_int (pa_cons (pe_un un_neg pe_int) (pa_cons pe_bl (pa_cons pe_str (pa_cons (pe_tup (pa_cons pe_int pa_nil)) (pa_cons (pe_lst (pa_cons pe_int pa_nil)) pa_nil))))))))) pa_nil))))), ?_⟩
  walk_at "rd"
  refine ⟨lz (by simp), fun p1 h1 => ?_⟩
  obtain ⟨s1, e1⟩ := new_at (o := .tup [.int 2]) h1
  walk_at "rd"
  generalize upd H p1 (.tup [.int 2]) = H1 at s1 e1 ⊢
  refine ⟨lz (by simp), fun p2 h2 => ?_⟩
  obtain ⟨s2, e2⟩ := new_at (o := .lst [.int 1]) h2
  walk_at "rd"
  generalize upd H1 p2 (.lst [.int 1]) = H2 at s2 e2 ⊢
  refine ⟨lz (by simp), fun p3 h3 => ?_⟩
  obtain ⟨s3, e3⟩ := new_at (o := .lst [.non, .int 0, .int 5, .int (-1), .bl true, .str "2", .ref p1, .ref p2]) h3
  walk_at "rd"
  generalize upd H2 p3 (.lst [.non, .int 0, .int 5, .int (-1), .bl true, .str "2", .ref p1, .ref p2]) = H3 at s3 e3 ⊢
  have a2 := s3 _ _ e2
  have a1 := s3 _ _ (s2 _ _ e1)
  have n1 := hS.ne_n h1
  have n2 := (hS.same s1).ne_n h2
  have sA := (s1.trans s2).trans s3
  refine ⟨s, g, c, p3, m, _, rfl, hS.same sA, by omega, .inl (.inl e3), (hS.same (s1.trans s2)).ne_n h3, by simp, by simp, fun x H' hx S4 k4 => ?_⟩
  have key : ∃ d, Rp K H3 x d ∧ d.from 1 4 = false ∧ x ≠ .ref g := by
    simp only [List.mem_cons, List.not_mem_nil, or_false] at hx
    rcases hx with rfl | rfl | rfl | rfl | rfl | rfl | rfl | rfl
    · exact ⟨.flat _, ⟨rfl, rfl⟩, rfl, by intro z; cases z⟩
    · exact ⟨.flat _, ⟨rfl, rfl⟩, rfl, by intro z; cases z⟩
    · exact ⟨.flat _, ⟨rfl, rfl⟩, rfl, by intro z; cases z⟩
    · exact ⟨.flat _, ⟨rfl, rfl⟩, rfl, by intro z; cases z⟩
    · exact ⟨.flat _, ⟨rfl, rfl⟩, rfl, by intro z; cases z⟩
    · exact ⟨.flat _, ⟨rfl, rfl⟩, rfl, by intro z; cases z⟩
    · exact ⟨.tup [.int 2], ⟨p1, rfl, .inl (.inl a1), rfl⟩, rfl, by intro z; cases z; exact n1 rfl⟩
    · exact ⟨.lst [.int 1], ⟨p2, rfl, .inl (.inl a2)⟩, rfl, by intro z; cases z; exact n2 rfl⟩
  obtain ⟨d, r1, r2, r3⟩ := key
  exact q x d H' (k4.rp (hS.same sA) r1 r3) r2 r3 S4 ((XE.Kept.of sA).trans k4)
def spBadRow (K : PySem.W.Frag) : Sp := fun vs H Q _ => ∃ (s g c : Addr) (m : Nat) (n : Int), vs = [.ref s, .int n] ∧ StAt m H s g c ∧ m < 100000 ∧ 1 ≤ n ∧ n ≤ 4 ∧
  ∀ v d H', Rp K H' v d → d.row n = false → v ≠ .ref g → StAt (m + 1) H' s g c → XE.Kept s g H H' → Q v H'
abbrev s__law_mk_bad_row : Stmt := top 38
abbrev N__law_mk_bad_row : List Str := ["state", "deeds", "some"]
theorem sc__law_mk_bad_row : FnScope ["state", "deeds", "some"] ["state", "deeds"] (defScope s__law_mk_bad_row) := ⟨rfl, rfl, rfl, by decide +kernel, rfl, by decide +kernel, by decide +kernel⟩
theorem bd__law_mk_bad_row : Bnd s__law_mk_bad_row "_law_mk_bad_row" ["state", "deeds"] := fun _ _ _ _ _ _ us hl => match us, hl with | [_, _], _ => rfl

theorem d__law_mk_bad_row (T : Bs K mg) (R : Rw K mg "_law_mk_bad_row" s__law_mk_bad_row) (D__law_pick : Df P w K mg base CX0 3 "_law_pick" s__law_pick ["state", "some"] (spPick K)) :
    Df P w K mg base CX0 5 "_law_mk_bad_row" s__law_mk_bad_row ["state", "deeds"] (spBadRow K) := by
  refine mk0 R sc__law_mk_bad_row bd__law_mk_bad_row (fun vs H Q E h => ?_) fun f cdv A outer sh H vs Q E hr h => ?_
  · obtain ⟨s, g, c, m, n, rfl, _⟩ := h; rfl
  obtain ⟨s, g, c, m, n, rfl, hS, hm, n1, n4, q⟩ := h
  refine ⟨_, (pss_cons (ps_set (i := 2) sc__law_mk_bad_row.nd rfl (Or.inl rfl) (pe_lst (pa_cons pe_non (pa_cons (pe_lst (pa_cons pe_int pa_nil)) (pa_cons pe_int (pa_cons pe_str (pa_cons (pe_tup (pa_cons pe_int pa_nil)) (pa_cons (pe_tup (pa_cons (pe_op op_addU (pv 1) pe_int) pa_nil)) (pa_cons (pe_tup (pa_cons pe_int (pa_cons pe_int pa_nil))) (pa_cons (pe_tup (pa_cons pe_bl pa_nil)) (pa_cons (pe_tup (pa_cons pe_str pa_nil)) (pa_cons (pe_tup (pa_cons pe_int (pa_cons pe_non pa_nil))) (pa_cons (pe_tup (pa_cons (pe_op op_sub (pe_op op_sub pe_int (pv 1)) pe_int) pa_nil)) (pa_cons (pe_op op_mulU (pe_tup (pa_cons pe_int pa_nil)) pe_int) pa_nil))))))))))))))
      (pss_one (ps_ret (pe_d D__law_pick hr (by decide) (by rfl) pass0 (pa_cons (pv 0) (pa_cons (pv 2) pa_nil)))))), ?_⟩
  walk_at "rd"
  refine ⟨lz (by simp), fun p1 h1 => ?_⟩
  obtain ⟨s1, e1⟩ := new_at (o := .lst [.int 1]) h1
  walk_at "rd"
  generalize upd H p1 (.lst [.int 1]) = H1 at s1 e1 ⊢
  refine ⟨lz (by simp), fun p2 h2 => ?_⟩
  obtain ⟨s2, e2⟩ := new_at (o := .tup [.int 0]) h2
  walk_at "rd"
  generalize upd H1 p2 (.tup [.int 0]) = H2 at s2 e2 ⊢
  refine rd_addI ?_
  walk_at "rd"
  refine ⟨lz (by simp), fun p3 h3 => ?_⟩
  obtain ⟨s3, e3⟩ := new_at (o := .tup [.int (n + 1)]) h3
  walk_at "rd"
  generalize upd H2 p3 (.tup [.int (n + 1)]) = H3 at s3 e3 ⊢
  refine ⟨lz (by simp), fun p4 h4 => ?_⟩
  obtain ⟨s4, e4⟩ := new_at (o := .tup [.int 1, .int 0]) h4
  walk_at "rd"
  generalize upd H3 p4 (.tup [.int 1, .int 0]) = H4 at s4 e4 ⊢
  refine ⟨lz (by simp), fun p5 h5 => ?_⟩
  obtain ⟨s5, e5⟩ := new_at (o := .tup [.bl true]) h5
  walk_at "rd"
  generalize upd H4 p5 (.tup [.bl true]) = H5 at s5 e5 ⊢
  refine ⟨lz (by simp), fun p6 h6 => ?_⟩
  obtain ⟨s6, e6⟩ := new_at (o := .tup [.str "1"]) h6
  walk_at "rd"
  generalize upd H5 p6 (.tup [.str "1"]) = H6 at s6 e6 ⊢
  refine ⟨lz (by simp), fun p7 h7 => ?_⟩
  obtain ⟨s7, e7⟩ := new_at (o := .tup [.int 1, .non]) h7
  walk_at "rd"
  generalize upd H6 p7 (.tup [.int 1, .non]) = H7 at s7 e7 ⊢
  refine ⟨lz (by simp), fun p8 h8 => ?_⟩
  obtain ⟨s8, e8⟩ := new_at (o := .tup [.int (0 - n - 1)]) h8
  walk_at "rd"
  generalize upd H7 p8 (.tup [.int (0 - n - 1)]) = H8 at s8 e8 ⊢
  refine ⟨lz (by simp), fun p9 h9 => ?_⟩
  obtain ⟨s9, e9⟩ := new_at (o := .tup [.int 1]) h9
  walk_at "rd"
  generalize upd H8 p9 (.tup [.int 1]) = H9 at s9 e9 ⊢
  refine repN (.inl (.inl e9)) (by decide) (by decide) (by simp) (by simp) fun p10 H10 h10 s10 e10 => ?_
  walk_at "rd"
  refine ⟨lz (by simp), fun p11 h11 => ?_⟩
  obtain ⟨s11, e11⟩ := new_at (o := .lst [.non, .ref p1, .int 5, .str "a", .ref p2, .ref p3, .ref p4, .ref p5, .ref p6, .ref p7, .ref p8, .ref p10]) h11
  walk_at "rd"
  generalize upd H10 p11 (.lst [.non, .ref p1, .int 5, .str "a", .ref p2, .ref p3, .ref p4, .ref p5, .ref p6, .ref p7, .ref p8, .ref p10]) = H11 at s11 e11 ⊢
  have t9 := s9.trans (s10.trans s11)
  have t8 := s8.trans t9
  have t7 := s7.trans t8
  have t6 := s6.trans t7
  have t5 := s5.trans t6
  have t4 := s4.trans t5
  have t3 := s3.trans t4
  have t2 := s2.trans t3
  have tA := s1.trans t2
  have S1 := hS.same tA
  refine ⟨s, g, c, p11, m, _, rfl, S1, by omega, .inl (.inl e11), (hS.same (s1.trans (s2.trans (s3.trans (s4.trans (s5.trans (s6.trans (s7.trans (s8.trans (s9.trans s10)))))))))).ne_n h11, by simp, by simp, fun x H' hx S4 k4 => ?_⟩
  have key : ∃ d, Rp K H11 x d ∧ d.row n = false ∧ x ≠ .ref g := by
    have tup : ∀ {p : Addr} {xs : List V}, H11 p = some (.tup xs) → okB xs = true → (Dat.tup xs).row n = false → ∃ d, Rp K H11 (.ref p) d ∧ d.row n = false ∧ V.ref p ≠ .ref g := fun e h1 h2 =>
      ⟨.tup _, ⟨_, rfl, .inl (.inl e), h1⟩, h2, fun z => S1.ne_g e (by intro _ z; cases z) (V.ref.inj z)⟩
    simp only [List.mem_cons, List.not_mem_nil, or_false] at hx
    rcases hx with rfl | rfl | rfl | rfl | rfl | rfl | rfl | rfl | rfl | rfl | rfl | rfl
    · exact ⟨.flat _, ⟨rfl, rfl⟩, rfl, by intro z; cases z⟩
    · exact ⟨.lst [.int 1], ⟨p1, rfl, .inl (.inl (t2 _ _ e1))⟩, rfl, fun z => hS.ne_n h1 (V.ref.inj z)⟩
    · exact ⟨.flat _, ⟨rfl, rfl⟩, rfl, by intro z; cases z⟩
    · exact ⟨.flat _, ⟨rfl, rfl⟩, rfl, by intro z; cases z⟩
    · exact tup (t3 _ _ e2) rfl (by simp [Dat.row, letV])
    · exact tup (t4 _ _ e3) rfl (by simp [Dat.row, letV]; omega)
    · exact tup (t5 _ _ e4) rfl (by simp [Dat.row, letV])
    · exact tup (t6 _ _ e5) rfl (by simp [Dat.row, letV])
    · exact tup (t7 _ _ e6) rfl (by simp [Dat.row, letV])
    · exact tup (t8 _ _ e7) rfl (by simp [Dat.row, letV])
    · exact tup (t9 _ _ e8) rfl (by simp [Dat.row, letV]; omega)
    · obtain ⟨o, e, ho⟩ := e10
      exact ⟨.tup _, ⟨p10, rfl, .inl (.inr ⟨o, s11 _ _ e⟩), by decide⟩, by rfl, fun z => S1.ne_g (s11 _ _ e) (by intro _ z; cases z) (V.ref.inj z)⟩
  obtain ⟨d, r1, r2, r3⟩ := key
  exact q x d H' (k4.rp S1 r1 r3) r2 r3 S4 ((XE.Kept.of tA).trans k4)
end
end KP

set_option linter.all false
set_option maxRecDepth 100000
set_option maxHeartbeats 4000000
namespace KP
open PySem PySem.Spec PyProof.Rows L2 XA XB XC XD XM XE XF XG
local macro_rules | `(tactic| walk_at "rd") => `(tactic| repeat (first
  | (with_reducible refine rd_seq ?_) | (with_reducible refine rd_asg ?_) | ((with_reducible refine' rd_var ?hv ?_); (case hv => exact rfl)) | (with_reducible refine rd_c ?_) | (with_reducible refine rd_gn ?_)
  | (with_reducible refine rd_op ?_) | (with_reducible refine rd_un ?_) | (with_reducible refine rd_cons ?_) | (with_reducible refine rd_nil ?_) | (with_reducible refine rd_cl ?_) | (with_reducible refine rd_ck ?_) | (with_reducible refine rd_cb ?_)
  | (with_reducible refine rd_ret ?_) | (with_reducible refine rd_drop ?_) | (with_reducible refine rd_ifs ?_) | (with_reducible refine rd_if ?_) | (with_reducible refine rd_test ?_) | (with_reducible refine rd_tb ?_) | (with_reducible refine rd_and ?_) | (with_reducible refine rd_or ?_)
  | (with_reducible refine rd_not ?_) | (with_reducible refine rd_andV ?_) | (with_reducible refine rd_orV ?_) | (with_reducible refine rd_notV ?_) | (with_reducible refine rd_chain ?_) | (with_reducible refine rd_tup ?_) | (with_reducible refine rd_lst ?_)
  | (with_reducible refine rd_bm0 ?_) | (with_reducible refine rd_bm ?_) | (with_reducible refine rd_sl ?_) | (with_reducible refine rd_part ?_) | (with_reducible refine rd_nopart ?_) | (with_reducible refine rd_dget ?_) | (with_reducible refine rd_dput ?_)
  | (with_reducible refine rd_next ?_) | (with_reducible refine rd_lc ?_) | ((with_reducible refine' rd_aug ?hv ?_); (case hv => exact rfl)) | (with_reducible refine rd_cont ?_) | (with_reducible refine rd_gcons ?_) | (with_reducible refine rd_gnil ?_) | (with_reducible refine rd_ifT ?_) | (with_reducible refine rd_yes ?_) | (with_reducible refine rd_tru ?_) | (with_reducible refine rd_cntE ?_) | (with_reducible refine rd_rng1 ?_) | (with_reducible refine rd_lrg ?_) | (with_reducible refine rd_rg2 ?_) | (with_reducible refine rd_back ?_) | (with_reducible refine rd_disp ?_) | (with_reducible refine rd_prN ?_) | (with_reducible refine rd_prC ?_) | (with_reducible refine rd_par ?_) | (with_reducible refine rd_par3 ?_) | (with_reducible refine rd_two ?_) | (with_reducible refine rd_three ?_) | (with_reducible refine rd_one ?_) | (with_reducible refine rd_onei ?_) | (with_reducible refine rd_iL ?_) | (with_reducible refine rd_iT ?_) | (with_reducible refine rd_rng2 ?_) | (with_reducible refine rd_bl ?_) | (with_reducible refine rd_int ?_) | (with_reducible refine rd_I0 ?_) | (with_reducible refine rd_U ?_) | (with_reducible refine rd_din ?_) | (with_reducible refine rd_dnin ?_) | (with_reducible refine rd_dnew ?_) | (with_reducible refine rd_lset ?_) | (with_reducible refine rd_enT ?_) | (with_reducible refine rd_idx ?_) | (with_reducible refine rd_rg1 ?_) | (with_reducible refine rd_tupRg ?_)))

section
variable {P : Program} {w : World} {K : PySem.W.Frag} {mg : Str → Option Value} {base : Heap}
/-! ### _law_mr_whole -/
abbrev s__law_mr_whole : Stmt := top 39
abbrev N__law_mr_whole : List Str := ["thing"]
theorem sc__law_mr_whole : FnScope ["thing"] ["thing"] (defScope s__law_mr_whole) := ⟨rfl, rfl, rfl, by decide +kernel, rfl, by decide +kernel, by decide +kernel⟩
theorem bd__law_mr_whole : Bnd s__law_mr_whole "_law_mr_whole" ["thing"] := fun _ _ _ _ _ _ us hl => match us, hl with | [_], _ => rfl

theorem d__law_mr_whole (T : Bs K mg) (R : Rw K mg "_law_mr_whole" s__law_mr_whole) : Df P w K mg base CX0 1 "_law_mr_whole" s__law_mr_whole ["thing"] (spWhole K) := by
  refine mk0 R sc__law_mr_whole bd__law_mr_whole (fun vs H Q E h => ?_) fun f cdv A outer s H vs Q E hr h => ?_
  · obtain ⟨v, d, rfl, _⟩ := h; rfl
  obtain ⟨v, d, rfl, hv, q⟩ := h
  refine ⟨_, (pss_one (ps_ret (pe_and (pe_callB call_isU (by rfl) T.n_isinstance (by decide +kernel) (pa_cons (pv 0) (pa_cons (pe_bltn (v := .ty "int") (by rfl) T.n_int (by decide +kernel) rfl) pa_nil))) (pe_one (pe_not (pe_callB call_isU (by rfl) T.n_isinstance (by decide +kernel) (pa_cons (pv 0) (pa_cons (pe_bltn (v := .ty "bool") (by rfl) T.n_bool (by decide +kernel) rfl) pa_nil)))))))), ?_⟩
  walk_at "rd"
  refine rd_isT hv (kit_int d) ?_
  walk_at "rd"
  unfold Dat.whole at q
  refine rd_ite (fun e => ?_) fun e => ?_
  · walk_at "rd"
    refine rd_isT hv (kit_bool d) ?_
    walk_at "rd"
    rw [e] at q
    exact q
  · rw [e] at q
    exact q
/-! ### _law_mr_same -/
def spSame (K : PySem.W.Frag) : Sp := fun vs H Q _ => ∃ (a b : Addr) (xs ys : List Int), vs = [.ref a, .ref b] ∧ SqT K H a (xs.map V.int) ∧ SqT K H b (ys.map V.int) ∧ xs.length ≤ 10000 ∧ ∀ H', Same H H' → Q (.bl (decide (xs = ys))) H'
abbrev s__law_mr_same : Stmt := top 40
abbrev N__law_mr_same : List Str := ["found", "due", "item"]
theorem sc__law_mr_same : FnScope ["found", "due", "item"] ["found", "due"] (defScope s__law_mr_same) := ⟨rfl, rfl, rfl, by decide +kernel, rfl, by decide +kernel, by decide +kernel⟩
theorem bd__law_mr_same : Bnd s__law_mr_same "_law_mr_same" ["found", "due"] := fun _ _ _ _ _ _ us hl => match us, hl with | [_, _], _ => rfl

theorem d__law_mr_same (T : Bs K mg) (R : Rw K mg "_law_mr_same" s__law_mr_same) (D__law_mr_whole : Df P w K mg base CX0 1 "_law_mr_whole" s__law_mr_whole ["thing"] (spWhole K)) :
    Df P w K mg base CX0 2 "_law_mr_same" s__law_mr_same ["found", "due"] (spSame K) := by
  refine mk0 R sc__law_mr_same bd__law_mr_same (fun vs H Q E h => ?_) fun f cdv A outer s H vs Q E hr h => ?_
  · obtain ⟨a, b, xs, ys, rfl, _⟩ := h; rfl
  obtain ⟨a, b, xs, ys, rfl, ha, hb, hl, q⟩ := h
  refine ⟨_, (pss_one (ps_ret (pe_and (pe_callB call_isU (by rfl) T.n_isinstance (by decide +kernel) (pa_cons (pv 0) (pa_cons (pe_bltn (v := .ty "tuple") (by rfl) T.n_tuple (by decide +kernel) rfl) pa_nil))) (pe_and (pe_cmpR (op_eqU hr.units) (pe_lc (own := [("item", 2)]) rfl sc__law_mr_same.nd (pi_U (pv 0)) (blkOk_by (own := [("item", 2)]) (N := ["found", "due", "item"]) (sc := defScope s__law_mr_same) (by decide +kernel)) (fun _ _ _ _ _ => (pg_name (i := 2) sc__law_mr_same.nd rfl (Or.inl rfl))) (fun _ _ _ _ _ => pts_one (pt_not (show PT _ _ (tTru K _) from pt_tru (pe_d D__law_mr_whole hr (by decide) (by rfl) pass0 (pa_cons (pv 2) pa_nil)) (by intro _; rfl)))) (fun _ _ _ _ _ => pe_int)) (pe_lst pa_nil) (nomark _)) (pe_one (pe_cmpR (op_eqU hr.units) (pv 0) (pv 1) (nomark _))))))), ?_⟩
  walk_at "rd"
  refine rd_isT (d := .tup (xs.map V.int)) ⟨a, rfl, ha, okI (by omega)⟩ (kit_tuple _) ?_
  walk_at "rd"
  refine iteT ?_
  walk_at "rd"
  refine .inr ⟨.ref a, rfl, a, rfl, ⟨_, ha⟩, fun D hD => ?_⟩
  refine lc_pure walk_tup hD (xs.map V.int) (fun _ => false) (fun x => x) rfl (by rw [List.length_map]; omega) (fun H' e => sqT_same e ha) (fun i H x H' hi y => y) (fun x H4 hx e4 R R0 g1 g0 => ?_) fun H1 e1 hD' => ?_
  · obtain ⟨z, rfl⟩ := mem_i hx
    walk_at "rd"
    refine ⟨rfl, ?_⟩
    walk_at "rd"
    refine ⟨.int z, .flat (.int z), rfl, ⟨rfl, rfl⟩, ?_⟩
    walk_at "rd"
    refine truB ?_
    exact g0 rfl H4 (Same.refl _)
  · rw [show List.map (fun x => x) ((xs.map V.int).filter fun _ => false) = ([] : List Int).map V.int by simp] at hD'
    walk_at "rd"
    refine ⟨lz (by simp), fun p2 h2 => ?_⟩
    obtain ⟨s2, e2⟩ := new_at (o := .lst []) h2
    generalize upd H1 p2 (.lst []) = H2 at s2 e2 ⊢
    refine eqL (xs := []) (ys := []) (.inl (.inl (s2 _ _ hD'))) (.inl (.inl e2)) ?_
    walk_at "rd"
    refine iteT ?_
    walk_at "rd"
    exact eqT (sqT_same (e1.trans s2) ha) (sqT_same (e1.trans s2) hb) (q _ (e1.trans s2))
/-! ### _law_mr_times -/
def spMrTimes (K : PySem.W.Frag) : Sp := fun vs H Q _ => ∃ (a : Addr) (xs : List Int) (m : Int), vs = [.ref a, .int m] ∧ SqT K H a (xs.map V.int) ∧ xs.length ≤ 200 ∧ -20 ≤ m ∧ m ≤ 20 ∧ ∀ p H', Same H H' → Tp H' p ((times xs m).map V.int) → Q (.ref p) H'
abbrev s__law_mr_times : Stmt := top 41
abbrev N__law_mr_times : List Str := ["row", "many", "one"]
theorem sc__law_mr_times : FnScope ["row", "many", "one"] ["row", "many"] (defScope s__law_mr_times) := ⟨rfl, rfl, rfl, by decide +kernel, rfl, by decide +kernel, by decide +kernel⟩
theorem bd__law_mr_times : Bnd s__law_mr_times "_law_mr_times" ["row", "many"] := fun _ _ _ _ _ _ us hl => match us, hl with | [_, _], _ => rfl

theorem d__law_mr_times (T : Bs K mg) (R : Rw K mg "_law_mr_times" s__law_mr_times) (D__law_mk_plain : Df P w K mg base CX0 1 "_law_mk_plain" s__law_mk_plain ["letters"] (spPlain K))
    (D__law_mk_undone : Df P w K mg base CX0 1 "_law_mk_undone" s__law_mk_undone ["row"] (spUndone K)) : Df P w K mg base CX0 2 "_law_mr_times" s__law_mr_times ["row", "many"] (spMrTimes K) := by
  refine mk0 R sc__law_mr_times bd__law_mr_times (fun vs H Q E h => ?_) fun f cdv A outer s H vs Q E hr h => ?_
  · obtain ⟨a, xs, m, rfl, _⟩ := h; rfl
  obtain ⟨a, xs, m, rfl, ha, hl, m0, m1, q⟩ := h
  refine ⟨_, (pss_cons (ps_set (i := 2) sc__law_mr_times.nd rfl (Or.inl rfl) (pe_ifExp (pt_cmpR op_ge (pv 1) pe_int (nomark _)) (pv 0) (pe_d D__law_mk_undone hr (by decide) (by rfl) pass0 (pa_cons (pv 0) pa_nil))))
      (pss_one (ps_ret (pe_d D__law_mk_plain hr (by decide) (by rfl) pass0 (pa_cons (pe_op op_mulU (pv 2) (pe_callB call_abs (by rfl) T.n_abs (by decide +kernel) (pa_cons (pv 1) pa_nil))) pa_nil))))), ?_⟩
  walk_at "rd"
  unfold times at q
  refine rd_ite (fun e => ?_) fun e => ?_
  · have e := of_decide_eq_true e
    rw [if_neg (by omega)] at q
    walk_at "rd"
    refine repS ha (by omega) (by omega) (by rw [List.length_map]; omega) fun p H1 s1 t1 => ?_
    rw [flat_map] at t1
    walk_at "rd"
    rw [show (if m < 0 then -m else m) = m by omega] at t1
    refine ⟨p, rep m xs, rfl, t1, ?_, fun p2 H2 s2 t2 => q p2 H2 (s1.trans s2) t2⟩
    unfold rep
    rw [flat_len]
    have a1 : m.toNat * xs.length ≤ 20 * 200 := Nat.mul_le_mul (by omega) (by omega)
    omega
  · have e := of_decide_eq_false e
    rw [if_pos (by omega)] at q
    walk_at "rd"
    refine ⟨a, xs, rfl, ha, by omega, fun p1 H1 s1 t1 => ?_⟩
    have l4 := inv_len xs
    walk_at "rd"
    refine repS t1.sqT (by omega) (by omega) (by rw [List.length_map]; omega) fun p H2 s2 t2 => ?_
    rw [flat_map] at t2
    walk_at "rd"
    rw [show (if m < 0 then -m else m) = -m by omega] at t2
    refine ⟨p, rep (-m) (inv xs), rfl, t2, ?_, fun p3 H3 s3 t3 => q p3 H3 (s1.trans (s2.trans s3)) t3⟩
    unfold rep
    rw [flat_len, l4]
    have a1 : (-m).toNat * xs.length ≤ 20 * 200 := Nat.mul_le_mul (by omega) (by omega)
    omega
/-! ### _law_mr_turned -/
def turned (xs by_ : List Int) : List Int := red (by_ ++ xs ++ inv by_)
def spTurned (K : PySem.W.Frag) : Sp := fun vs H Q _ => ∃ (a b : Addr) (xs ys : List Int), vs = [.ref a, .ref b] ∧ SqT K H a (xs.map V.int) ∧ SqT K H b (ys.map V.int) ∧ xs.length ≤ 1000 ∧ ys.length ≤ 1000 ∧ ∀ p H', Same H H' → Tp H' p ((turned xs ys).map V.int) → Q (.ref p) H'
/-! ### turned -/
abbrev s__law_mr_turned : Stmt := top 42
abbrev N__law_mr_turned : List Str := ["row", "by"]
theorem sc__law_mr_turned : FnScope ["row", "by"] ["row", "by"] (defScope s__law_mr_turned) := ⟨rfl, rfl, rfl, by decide +kernel, rfl, by decide +kernel, by decide +kernel⟩
theorem bd__law_mr_turned : Bnd s__law_mr_turned "_law_mr_turned" ["row", "by"] := fun _ _ _ _ _ _ us hl => match us, hl with | [_, _], _ => rfl

theorem d__law_mr_turned (T : Bs K mg) (R : Rw K mg "_law_mr_turned" s__law_mr_turned) (D__law_mk_plain : Df P w K mg base CX0 1 "_law_mk_plain" s__law_mk_plain ["letters"] (spPlain K))
    (D__law_mk_undone : Df P w K mg base CX0 1 "_law_mk_undone" s__law_mk_undone ["row"] (spUndone K)) : Df P w K mg base CX0 2 "_law_mr_turned" s__law_mr_turned ["row", "by"] (spTurned K) := by
  refine mk0 R sc__law_mr_turned bd__law_mr_turned (fun vs H Q E h => ?_) fun f cdv A outer s H vs Q E hr h => ?_
  · obtain ⟨a, b, xs, ys, rfl, _⟩ := h; rfl
  obtain ⟨a, b, xs, ys, rfl, ha, hb, la, lb, q⟩ := h
  refine ⟨_, (pss_one (ps_ret (pe_d D__law_mk_plain hr (by decide) (by rfl) pass0 (pa_cons (pe_op op_addU (pe_op op_addU (pv 1) (pv 0)) (pe_d D__law_mk_undone hr (by decide) (by rfl) pass0 (pa_cons (pv 1) pa_nil))) pa_nil)))), ?_⟩
  walk_at "rd"
  refine catS hb ha (by simp only [List.length_map]; omega) fun p1 H1 s1 t1 => ?_
  walk_at "rd"
  refine ⟨b, ys, rfl, sqT_same s1 hb, by omega, fun p2 H2 s2 t2 => ?_⟩
  have l4 := inv_len ys
  walk_at "rd"
  refine catS (sqT_same s2 t1) t2.sqT (by simp only [List.length_append, List.length_map]; omega) fun p3 H3 s3 t3 => ?_
  walk_at "rd"
  exact ⟨p3, ys ++ xs ++ inv ys, rfl, by rw [List.map_append, List.map_append]; exact t3, by simp only [List.length_append]; omega, fun p4 H4 s4 t4 => q p4 H4 (s1.trans (s2.trans (s3.trans s4))) t4⟩
/-! ### own: letters of rows -/
theorem LetS.red {n : Int} {xs : List Int} (h : LetS n xs) : LetS n (red xs) := fun x hx => h x (red_mem hx)
theorem LetS.inv {n : Int} {xs : List Int} (h : LetS n xs) : LetS n (inv xs) := fun x hx => by
  obtain ⟨y, hy, rfl⟩ := List.mem_map.mp hx
  have := h y (List.mem_reverse.mp hy)
  omega
theorem LetS.app {n : Int} {xs ys : List Int} (h : LetS n xs) (h2 : LetS n ys) : LetS n (xs ++ ys) := fun x hx => (List.mem_append.mp hx).elim (h x) (h2 x)
theorem LetS.rep {n k : Int} {xs : List Int} (h : LetS n xs) : LetS n (rep k xs) := fun x hx => by
  obtain ⟨l, hl, h2⟩ := List.mem_flatten.mp hx
  rw [(List.mem_replicate.mp hl).2] at h2
  exact h x h2
theorem LetS.times {n k : Int} {xs : List Int} (h : LetS n xs) : LetS n (times xs k) := by
  unfold KP.times
  split
  · exact h.inv.rep.red
  · exact h.rep.red
theorem LetS.turned {n : Int} {xs ys : List Int} (h : LetS n xs) (h2 : LetS n ys) : LetS n (turned xs ys) := ((h2.app h).app h2.inv).red
theorem LetS.row {n : Int} {xs : List Int} (h : LetS n xs) (l : xs.length ≤ 200) : (Dat.tup (xs.map V.int)).row n = true := by
  unfold Dat.row
  simp only [Bool.and_eq_true, decide_eq_true_eq, List.length_map, List.all_map, List.all_eq_true]
  refine ⟨l, fun x hx => ?_⟩
  have := h x hx
  simp [letV, this]
/-! ### _law_mr_row -/
def spMrRow (K : PySem.W.Frag) : Sp := fun vs H Q _ => ∃ (s g c : Addr) (m : Nat) (n : Int), vs = [.ref s, .int n] ∧ StAt m H s g c ∧ m < 50000 ∧ 1 ≤ n ∧ n ≤ 4 ∧
  ∀ p xs H', StAt (m + 60) H' s g c → XE.Kept s g H H' → Tp H' p (xs.map V.int) → xs.length ≤ 18 → LetS n xs → Q (.ref p) H'
abbrev s__law_mr_row : Stmt := top 43
abbrev N__law_mr_row : List Str := ["state", "deeds", "way", "found"]
theorem sc__law_mr_row : FnScope ["state", "deeds", "way", "found"] ["state", "deeds"] (defScope s__law_mr_row) := ⟨rfl, rfl, rfl, by decide +kernel, rfl, by decide +kernel, by decide +kernel⟩
theorem bd__law_mr_row : Bnd s__law_mr_row "_law_mr_row" ["state", "deeds"] := fun _ _ _ _ _ _ us hl => match us, hl with | [_, _], _ => rfl

theorem d__law_mr_row (T : Bs K mg) (R : Rw K mg "_law_mr_row" s__law_mr_row) (D__law_draw : Df P w K mg base CX0 2 "_law_draw" s__law_draw ["state", "room"] (spDraw K)) (D__law_mk_row : Df P w K mg base CX0 5 "_law_mk_row" s__law_mk_row ["state", "deeds", "least", "most"] (spMkRow K))
    (D__law_mk_raw : Df P w K mg base CX0 5 "_law_mk_raw" s__law_mk_raw ["state", "deeds", "row"] (spMkRaw K)) (D__law_mr_times : Df P w K mg base CX0 2 "_law_mr_times" s__law_mr_times ["row", "many"] (spMrTimes K))
    (D__law_mr_turned : Df P w K mg base CX0 2 "_law_mr_turned" s__law_mr_turned ["row", "by"] (spTurned K)) : Df P w K mg base CX0 6 "_law_mr_row" s__law_mr_row ["state", "deeds"] (spMrRow K) := by
  refine mk0 R sc__law_mr_row bd__law_mr_row (fun vs H Q E h => ?_) fun f cdv A outer sh H vs Q E hr h => ?_
  · obtain ⟨s, g, c, m, n, rfl, _⟩ := h; rfl
  obtain ⟨s, g, c, m, n, rfl, hS, hm, n1, n4, q⟩ := h
  refine ⟨_, (pss_cons (ps_set (i := 2) sc__law_mr_row.nd rfl (Or.inl rfl) (pe_d D__law_draw hr (by decide) (by rfl) pass0 (pa_cons (pv 0) (pa_cons pe_int pa_nil))))
      (pss_cons (ps_if (pt_cmpR (op_eqU hr.units) (pv 2) pe_int (nomark _)) (pss_one (ps_set (i := 3) sc__law_mr_row.nd rfl (Or.inl rfl) (pe_d D__law_mr_times hr (by decide) (by rfl) pass0 (pa_cons (pe_d D__law_mk_row hr (by decide) (by rfl) pass0 (pa_cons (pv 0) (pa_cons (pv 1) (pa_cons pe_int (pa_cons pe_int pa_nil))))) (pa_cons (pe_op op_addU pe_int (pe_d D__law_draw hr (by decide) (by rfl) pass0 (pa_cons (pv 0) (pa_cons pe_int pa_nil)))) pa_nil))))) (pss_one (ps_if (pt_cmpR (op_eqU hr.units) (pv 2) pe_int (nomark _)) (pss_one (ps_set (i := 3) sc__law_mr_row.nd rfl (Or.inl rfl) (pe_d D__law_mr_turned hr (by decide) (by rfl) pass0 (pa_cons (pe_d D__law_mk_row hr (by decide) (by rfl) pass0 (pa_cons (pv 0) (pa_cons (pv 1) (pa_cons pe_int (pa_cons pe_int pa_nil))))) (pa_cons (pe_d D__law_mk_row hr (by decide) (by rfl) pass0 (pa_cons (pv 0) (pa_cons (pv 1) (pa_cons pe_int (pa_cons pe_int pa_nil))))) pa_nil))))) (pss_one (ps_set (i := 3) sc__law_mr_row.nd rfl (Or.inl rfl) (pe_d D__law_mk_row hr (by decide) (by rfl) pass0 (pa_cons (pv 0) (pa_cons (pv 1) (pa_cons pe_int (pa_cons pe_int pa_nil))))))))))
      (pss_one (ps_ret (pe_d D__law_mk_raw hr (by decide) (by rfl) pass0 (pa_cons (pv 0) (pa_cons (pv 1) (pa_cons (pv 3) pa_nil)))))))), ?_⟩
  walk_at "rd"
  refine ⟨s, g, c, m, 6, rfl, hS, by omega, by omega, by omega, fun r H1 r0 r1 S1 k1 => ?_⟩
  walk_at "rd"
  refine rd_eqI ?_
  walk_at "rd"
  have fin : ∀ (p : Addr) (xs : List Int) (H2 : Hp), StAt (m + 50) H2 s g c → XE.Kept s g H H2 → SqT K H2 p (xs.map V.int) → xs.length ≤ 14 → LetS n xs → spMkRaw K [.ref s, .int n, .ref p] H2 Q E0 := fun p xs H2 S2 k2 t2 l2 e2 =>
    ⟨s, g, c, p, m + 50, n, xs, rfl, S2, by omega, n1, n4, t2, by omega, e2, fun p3 ys H3 S3 k3 t3 l3 e3 => q p3 ys H3 S3 (k2.trans k3) t3 (by omega) e3⟩
  refine rd_ite (fun e => ?_) fun e => ?_
  · walk_at "rd"
    refine ⟨s, g, c, m + 1, n, 1, 3, rfl, S1, by omega, n1, n4, by omega, by omega, by omega, fun p xs H2 S2 k2 t2 l2 _ e2 => ?_⟩
    walk_at "rd"
    refine ⟨s, g, c, m + 1 + 21, 3, rfl, S2, by omega, by omega, by omega, fun r2 H3 a0 a1 S3 k3 => ?_⟩
    refine rd_addI ?_
    walk_at "rd"
    refine ⟨p, xs, 2 + r2, rfl, (k3.tp S2 t2).sqT, by omega, by omega, by omega, fun p4 H4 s4 t4 => ?_⟩
    walk_at "rd"
    refine fin p4 _ H4 ((S3.same s4).mono (by omega)) (((k1.trans k2).trans k3).trans (.of s4)) t4.sqT ?_ e2.times
    unfold times
    rw [if_neg (by omega)]
    have h1 := red_len (rep (2 + r2) xs)
    have h2 : (rep (2 + r2) xs).length = (2 + r2).toNat * xs.length := flat_len _ _
    have h3 : (2 + r2).toNat * xs.length ≤ 4 * 3 := Nat.mul_le_mul (by omega) (by omega)
    omega
  · walk_at "rd"
    refine rd_eqI ?_
    walk_at "rd"
    refine rd_ite (fun e => ?_) fun e => ?_
    · walk_at "rd"
      refine ⟨s, g, c, m + 1, n, 0, 5, rfl, S1, by omega, n1, n4, by omega, by omega, by omega, fun p xs H2 S2 k2 t2 l2 _ e2 => ?_⟩
      walk_at "rd"
      refine ⟨s, g, c, m + 1 + 21, n, 1, 3, rfl, S2, by omega, n1, n4, by omega, by omega, by omega, fun p3 ys H3 S3 k3 t3 l3 _ e3 => ?_⟩
      walk_at "rd"
      refine ⟨p, p3, xs, ys, rfl, (k3.tp S2 t2).sqT, t3.sqT, by omega, by omega, fun p4 H4 s4 t4 => ?_⟩
      walk_at "rd"
      refine fin p4 _ H4 ((S3.same s4).mono (by omega)) (((k1.trans k2).trans k3).trans (.of s4)) t4.sqT ?_ (e2.turned e3)
      unfold turned
      have h1 := red_len (ys ++ xs ++ inv ys)
      simp only [List.length_append, inv_len] at h1
      omega
    · walk_at "rd"
      refine ⟨s, g, c, m + 1, n, 0, 7, rfl, S1, by omega, n1, n4, by omega, by omega, by omega, fun p xs H2 S2 k2 t2 l2 _ e2 => ?_⟩
      walk_at "rd"
      exact fin p xs H2 (S2.mono (by omega)) (k1.trans k2) t2.sqT (by omega) e2
/-! ### _law_mr_long -/
def spMrLong (K : PySem.W.Frag) : Sp := fun vs H Q _ => ∃ (s g c : Addr) (m : Nat) (n : Int), vs = [.ref s, .int n] ∧ StAt m H s g c ∧ m < 50000 ∧ 1 ≤ n ∧ n ≤ 4 ∧
  ∀ p xs H', StAt (m + 60) H' s g c → XE.Kept s g H H' → Tp H' p (xs.map V.int) → xs.length ≤ 200 → LetS n xs → Q (.ref p) H'
abbrev s__law_mr_long : Stmt := top 44
abbrev N__law_mr_long : List Str := ["state", "deeds", "piece"]
theorem sc__law_mr_long : FnScope ["state", "deeds", "piece"] ["state", "deeds"] (defScope s__law_mr_long) := ⟨rfl, rfl, rfl, by decide +kernel, rfl, by decide +kernel, by decide +kernel⟩
theorem bd__law_mr_long : Bnd s__law_mr_long "_law_mr_long" ["state", "deeds"] := fun _ _ _ _ _ _ us hl => match us, hl with | [_, _], _ => rfl

theorem d__law_mr_long (T : Bs K mg) (R : Rw K mg "_law_mr_long" s__law_mr_long) (D__law_mk_row : Df P w K mg base CX0 5 "_law_mk_row" s__law_mk_row ["state", "deeds", "least", "most"] (spMkRow K)) :
    Df P w K mg base CX0 6 "_law_mr_long" s__law_mr_long ["state", "deeds"] (spMrLong K) := by
  refine mk0 R sc__law_mr_long bd__law_mr_long (fun vs H Q E h => ?_) fun f cdv A outer sh H vs Q E hr h => ?_
  · obtain ⟨s, g, c, m, n, rfl, _⟩ := h; rfl
  obtain ⟨s, g, c, m, n, rfl, hS, hm, n1, n4, q⟩ := h
  refine ⟨_, (pss_cons (ps_set (i := 2) sc__law_mr_long.nd rfl (Or.inl rfl) (pe_d D__law_mk_row hr (by decide) (by rfl) pass0 (pa_cons (pv 0) (pa_cons (pv 1) (pa_cons pe_int (pa_cons pe_int pa_nil))))))
      (pss_one (ps_ret (pe_slice sl_U (pe_op op_mulU (pv 2) pe_int) po_none (po_some pe_int))))), ?_⟩
  walk_at "rd"
  refine ⟨s, g, c, m, n, 1, 9, rfl, hS, by omega, n1, n4, by omega, by omega, by omega, fun p xs H2 S2 k2 t2 l2 l3 e2 => ?_⟩
  walk_at "rd"
  refine repT t2 (by omega) (by omega) (by rw [List.length_map]; omega) fun p3 H3 s3 t3 => ?_
  rw [flat_map] at t3
  walk_at "rd"
  have hl : 200 ≤ ((List.replicate (Int.toNat 200) xs).flatten.map V.int).length := by
    rw [List.length_map, flat_len]
    have a1 : 200 * 1 ≤ (200 : Int).toNat * xs.length := Nat.mul_le_mul (by decide) (by omega)
    omega
  refine slT t3 fun p4 H4 s4 t4 => ?_
  have hc := cut_lo (xs := (List.replicate (Int.toNat 200) xs).flatten.map V.int) (k := 200) hl
  have t4 : Tp H4 p4 (((List.replicate (Int.toNat 200) xs).flatten.take 200).map V.int) := by
    rw [List.map_take, ← hc]
    exact t4
  refine q p4 _ H4 ((S2.same (s3.trans s4)).mono (by omega)) (k2.trans (.of (s3.trans s4))) t4 (by rw [List.length_take]; omega) fun x hx => ?_
  exact (e2.rep (k := 200)) x (List.mem_of_mem_take hx)
end
end KP

set_option linter.all false
set_option maxRecDepth 100000
set_option maxHeartbeats 4000000
namespace KP
open PySem PySem.Spec PyProof.Rows L2 XA XB XC XD XM XE XF XG
local macro_rules | `(tactic| walk_at "rd") => `(tactic| repeat (first
  | (with_reducible refine rd_seq ?_) | (with_reducible refine rd_asg ?_) | ((with_reducible refine' rd_var ?hv ?_); (case hv => exact rfl)) | (with_reducible refine rd_c ?_) | (with_reducible refine rd_gn ?_)
  | (with_reducible refine rd_op ?_) | (with_reducible refine rd_un ?_) | (with_reducible refine rd_cons ?_) | (with_reducible refine rd_nil ?_) | (with_reducible refine rd_cl ?_) | (with_reducible refine rd_ck ?_) | (with_reducible refine rd_cb ?_)
  | (with_reducible refine rd_ret ?_) | (with_reducible refine rd_drop ?_) | (with_reducible refine rd_ifs ?_) | (with_reducible refine rd_if ?_) | (with_reducible refine rd_test ?_) | (with_reducible refine rd_tb ?_) | (with_reducible refine rd_and ?_) | (with_reducible refine rd_or ?_)
  | (with_reducible refine rd_not ?_) | (with_reducible refine rd_andV ?_) | (with_reducible refine rd_orV ?_) | (with_reducible refine rd_notV ?_) | (with_reducible refine rd_chain ?_) | (with_reducible refine rd_tup ?_) | (with_reducible refine rd_lst ?_)
  | (with_reducible refine rd_bm0 ?_) | (with_reducible refine rd_bm ?_) | (with_reducible refine rd_sl ?_) | (with_reducible refine rd_part ?_) | (with_reducible refine rd_nopart ?_) | (with_reducible refine rd_dget ?_) | (with_reducible refine rd_dput ?_)
  | (with_reducible refine rd_next ?_) | (with_reducible refine rd_lc ?_) | ((with_reducible refine' rd_aug ?hv ?_); (case hv => exact rfl)) | (with_reducible refine rd_cont ?_) | (with_reducible refine rd_gcons ?_) | (with_reducible refine rd_gnil ?_) | (with_reducible refine rd_ifT ?_) | (with_reducible refine rd_yes ?_) | (with_reducible refine rd_tru ?_) | (with_reducible refine rd_cntE ?_) | (with_reducible refine rd_rng1 ?_) | (with_reducible refine rd_lrg ?_) | (with_reducible refine rd_rg2 ?_) | (with_reducible refine rd_back ?_) | (with_reducible refine rd_disp ?_) | (with_reducible refine rd_prN ?_) | (with_reducible refine rd_prC ?_) | (with_reducible refine rd_par ?_) | (with_reducible refine rd_par3 ?_) | (with_reducible refine rd_two ?_) | (with_reducible refine rd_three ?_) | (with_reducible refine rd_one ?_) | (with_reducible refine rd_onei ?_) | (with_reducible refine rd_iL ?_) | (with_reducible refine rd_iT ?_) | (with_reducible refine rd_rng2 ?_) | (with_reducible refine rd_bl ?_) | (with_reducible refine rd_int ?_) | (with_reducible refine rd_I0 ?_) | (with_reducible refine rd_U ?_) | (with_reducible refine rd_din ?_) | (with_reducible refine rd_dnin ?_) | (with_reducible refine rd_dnew ?_) | (with_reducible refine rd_lset ?_) | (with_reducible refine rd_enT ?_) | (with_reducible refine rd_idx ?_) | (with_reducible refine rd_rg1 ?_) | (with_reducible refine rd_tupRg ?_)))

/-! ### _law_caught -/
abbrev s__law_caught : Stmt := top 31
abbrev N__law_caught : List Str := ["action", "found", "error"]
theorem sc__law_caught : FnScope ["action", "found", "error"] ["action"] (defScope s__law_caught) := ⟨rfl, rfl, rfl, by decide +kernel, rfl, by decide +kernel, by decide +kernel⟩
theorem bd__law_caught : Bnd s__law_caught "_law_caught" ["action"] := fun _ _ _ _ _ _ us hl => match us, hl with | [_], _ => rfl

theorem gives__law_caught {X : Cx} {g CS : Addr} {cdg : Value} {q : Str} (hme : X.mg "KeepError" = some (.ref CS)) : LamX.GivesTo X ["action", "found", "error"] "_law_caught" (defScope s__law_caught) g cdg (defBody s__law_caught) "action" q (TCaught X.K CS) :=
  caught_gives (p15 := ⟨0, 0, 0, 0⟩) (e := "KeepError") (by decide) rfl hme (by decide) rfl rfl
theorem pe_lam__law_caught {X : Cx} {st0 : Stmt} {P c CS : Addr} {k : Nat} {params : Arguments} {body : Expr} {scope : Scope} {t : XK → TE} {p lpos pos : Pos} (R : Rw X.K X.mg "_law_caught" s__law_caught) (TB : LamX.TabB X.base X.mg c P) (hcode : X.env.code = .ref c) (hme : X.mg "KeepError" = some (.ref CS))
    (hr : Room (k + 2) X.A) (hg : Gl X "_law_caught") (hsc : X.env.scope = defScope st0) (L : LamX.lamSB (defScope st0) scope = true)
    (hbody : ∀ (A : Around) (outer : List Env) (s : Shared) (H : Hp) (E : XK) (f c' : Addr), Room k (A.deeper (LamX.lamEnv X scope s.heap.objs.size f c')) → PE (LamX.lamCx X A outer s H E scope f c') body (t E))
    (hdef : defaultsOf params X.env = ([], []) := by rfl)
    (hbind : ∀ (q : Str) (cl : List (Str × Addr)) (pm cv ctv : Value), bindArgs (PySem.W.kla_fn "<lambda>" q params body scope cl pm cv ctv) ⟨[], []⟩ = pure [] := by intros; rfl) :
    PE X (.Call (.Name "_law_caught" p) [.Lambda params body scope lpos] [] pos) (LamX.tLam [(P, X.env.qual ++ "<lambda>")] (TCaught X.K CS) t) := by
  obtain ⟨g, fd, F, hm⟩ := R
  have b := F.bindsN bd__law_caught
  have kp := F.kp
  obtain ⟨oc, od, dV, kV, doc, pm, an, cdv, ct, osl, rfl, lk, hcd, _, _⟩ := F.ex
  exact LamX.pe_lamcall hg hm kp lk hcd b sc__law_caught rfl (.inl rfl) (gives__law_caught hme) TB hcode (List.mem_singleton_self _) (fun q hq _ => by rw [List.mem_singleton.mp hq]) hr (LamX.lamS_by (by rw [hsc]; exact L)) hdef hbind hbody
section
variable {P : Program} {w : World} {K : PySem.W.Frag} {mg : Str → Option Value} {base : Heap}
/-! ### _law_mr_faults -/
/-- what is known of error classes -/
structure Es (K : PySem.W.Frag) : Prop where
  mD : PySem.W.exmOne K (eDeeds K) (.ref (He.ga K "KeepError")) = some true
  mN : PySem.W.exmOne K (eNum K) (.ref (He.ga K "KeepError")) = some true
  mR : PySem.W.exmOne K (eRow K) (.ref (He.ga K "KeepError")) = some true
  kD : PySem.W.kitOne K (eDeeds K) (eDeeds K) = some true
  kN : PySem.W.kitOne K (eNum K) (eNum K) = some true
  kR : PySem.W.kitOne K (eRow K) (eRow K) = some true
def tabQ (P : Addr) (q : Str) : List (Addr × Str) := [(P, q)]
def spFaults (K : PySem.W.Frag) (Tb : List (Addr × Str)) : Sp := fun vs H Q _ => ∃ (s g c : Addr) (m : Nat) (n : Int), vs = [.ref s, .int n] ∧ StAt m H s g c ∧ m < 40000 ∧ 1 ≤ n ∧ n ≤ 4 ∧ LamX.Tabs Tb H ∧
  ∀ H', StAt (m + 100) H' s g c → LamX.Tabs Tb H' → Q (.bl true) H'
abbrev s__law_mr_faults : Stmt := top 45
abbrev N__law_mr_faults : List Str := ["state", "deeds", "due", "some", "found", "bad", "first", "mate", "mine", "odd", "row", "times_bad", "wrong"]
theorem sc__law_mr_faults : FnScope ["state", "deeds", "due", "some", "found", "bad", "first", "mate", "mine", "odd", "row", "times_bad", "wrong"] ["state", "deeds"] (defScope s__law_mr_faults) := ⟨rfl, rfl, rfl, by decide +kernel, rfl, by decide +kernel, by decide +kernel⟩
theorem bd__law_mr_faults : Bnd s__law_mr_faults "_law_mr_faults" ["state", "deeds"] := fun _ _ _ _ _ _ us hl => match us, hl with | [_, _], _ => rfl

theorem d__law_mr_faults {Pt c0 : Addr} (T : Bs K mg) (Ec : Es K) (TB : LamX.TabB base mg c0 Pt) (R : RwC K mg "_law_mr_faults" s__law_mr_faults c0) (R__law_caught : Rw K mg "_law_caught" s__law_caught)
    (D__law_pick : Df P w K mg base CX0 3 "_law_pick" s__law_pick ["state", "some"] (spPick K))
    (D__law_mk_bad_deeds : Df P w K mg base CX0 5 "_law_mk_bad_deeds" s__law_mk_bad_deeds ["state"] (spBadDeeds K))
    (D__law_mk_bad_row : Df P w K mg base CX0 5 "_law_mk_bad_row" s__law_mk_bad_row ["state", "deeds"] (spBadRow K))
    (D__law_mr_row : Df P w K mg base CX0 6 "_law_mr_row" s__law_mr_row ["state", "deeds"] (spMrRow K))
    (D_is_row : Df P w K mg base (L2.CX P w) 7 "is_row" s_is_row ["deeds", "value"] (spIsRow K))
    (D_plain : Df P w K mg base (L2.CX P w) 7 "plain" s_plain ["deeds", "row"] (spOne K fun _ xs => red xs))
    (D_undone : Df P w K mg base (L2.CX P w) 7 "undone" s_undone ["deeds", "row"] (spOne K fun _ xs => inv (red xs)))
    (D_beside : Df P w K mg base (L2.CX P w) 7 "beside" s_beside ["deeds", "one", "other"] (spBeside K))
    (D_times_row : Df P w K mg base (L2.CX P w) 7 "times_row" s_times_row ["deeds", "row", "many"] (spTimes K))
    (D_sums : Df P w K mg base (L2.CX P w) 7 "sums" s_sums ["deeds", "row"] (spOne K fun n xs => sumsOf n (red xs))) :
    Df P w K mg base CX0 10 "_law_mr_faults" s__law_mr_faults ["state", "deeds"] (spFaults K [(Pt, "_law_mr_faults.<locals>.<lambda>")]) := by
  refine mk0C R sc__law_mr_faults bd__law_mr_faults (fun vs H Q E h => ?_) fun f A outer sh H vs Q E hr h => ?_
  · obtain ⟨s, g, c, m, n, rfl, _⟩ := h; rfl
  obtain ⟨s, g, c, m, n, rfl, hS, hm, n1, n4, hT, q⟩ := h
  refine ⟨_, (pss_cons (ps_asg (pe_tup (pa_cons (pe_d D__law_mk_bad_deeds hr (by decide) (by rfl) pass0 (pa_cons (pv 0) pa_nil)) (pa_cons (pe_d D__law_mk_bad_row hr (by decide) (by rfl) pass0 (pa_cons (pv 0) (pa_cons (pv 1) pa_nil))) (pa_cons (pe_d D__law_mr_row hr (by decide) (by rfl) pass0 (pa_cons (pv 0) (pa_cons (pv 1) pa_nil))) pa_nil)))) (pg_tup (by rfl) (pgs_cons (pg_name (i := 12) sc__law_mr_faults.nd rfl (Or.inr rfl)) (pgs_cons (pg_name (i := 5) sc__law_mr_faults.nd rfl (Or.inr rfl)) (pgs_cons (pg_name (i := 10) sc__law_mr_faults.nd rfl (Or.inr rfl)) pgs_nil)))))
      (pss_cons (ps_set (i := 11) sc__law_mr_faults.nd rfl (Or.inr rfl) (pe_d D__law_pick hr (by decide) (by rfl) pass0 (pa_cons (pv 0) (pa_cons (pe_lst (pa_cons pe_non (pa_cons pe_int (pa_cons (pe_un un_neg pe_int) (pa_cons pe_bl (pa_cons pe_str (pa_cons (pe_tup (pa_cons pe_int pa_nil)) (pa_cons (pe_lst (pa_cons pe_int pa_nil)) pa_nil)))))))) pa_nil))))
      (pss_cons (ps_for PassesOwn.never rfl (pi_U (pe_lst (pa_cons (pe_tup (pa_cons (pv 12) (pa_cons (pv 5) (pa_cons (pv 5) pa_nil)))) (pa_cons (pe_tup (pa_cons (pv 12) (pa_cons (pv 10) (pa_cons (pv 10) pa_nil)))) pa_nil)))) (pg_tup (by rfl) (pgs_cons (pg_name (i := 6) sc__law_mr_faults.nd rfl (Or.inr rfl)) (pgs_cons (pg_name (i := 8) sc__law_mr_faults.nd rfl (Or.inr rfl)) (pgs_cons (pg_name (i := 7) sc__law_mr_faults.nd rfl (Or.inr rfl)) pgs_nil))))
        (pss_one (ps_if (pt_not (pt_tru (pe_callB call_isU (by rfl) T.n_isinstance (by decide +kernel) (pa_cons (pe_lam__law_caught R__law_caught TB rfl T.x_KeepError.g hr (by rfl) (st0 := s__law_mr_faults) rfl (by decide +kernel) (fun A outer s H E f c' hr => (pe_d D_beside hr (by decide) (by rfl) passLam (pa_cons (pv 6) (pa_cons (pv 8) (pa_cons (pv 7) pa_nil)))))) (pa_cons (pe_gc T.x_BadDeeds.g (by rfl)) pa_nil))) (by intro _; rfl))) (pss_one (ps_ret pe_bl)) pss_nil)))
      (pss_cons (ps_for PassesOwn.never rfl (pi_U (pe_lst (pa_cons (pe_tup (pa_cons (pv 5) (pa_cons (pv 10) pa_nil))) (pa_cons (pe_tup (pa_cons (pv 10) (pa_cons (pv 5) pa_nil))) pa_nil)))) (pg_tup (by rfl) (pgs_cons (pg_name (i := 8) sc__law_mr_faults.nd rfl (Or.inr rfl)) (pgs_cons (pg_name (i := 7) sc__law_mr_faults.nd rfl (Or.inr rfl)) pgs_nil)))
        (pss_one (ps_if (pt_not (pt_tru (pe_callB call_isU (by rfl) T.n_isinstance (by decide +kernel) (pa_cons (pe_lam__law_caught R__law_caught TB rfl T.x_KeepError.g hr (by rfl) (st0 := s__law_mr_faults) rfl (by decide +kernel) (fun A outer s H E f c' hr => (pe_d D_beside hr (by decide) (by rfl) passLam (pa_cons (pv 1) (pa_cons (pv 8) (pa_cons (pv 7) pa_nil)))))) (pa_cons (pe_gc T.x_BadRow.g (by rfl)) pa_nil))) (by intro _; rfl))) (pss_one (ps_ret pe_bl)) pss_nil)))
      (pss_cons (ps_for PassesOwn.never rfl (pi_U (pe_lst (pa_cons (pe_tup (pa_cons pe_int (pa_cons (pv 12) pa_nil))) (pa_cons (pe_tup (pa_cons pe_int (pa_cons (pv 1) pa_nil))) pa_nil)))) (pg_tup (by rfl) (pgs_cons (pg_name (i := 2) sc__law_mr_faults.nd rfl (Or.inl rfl)) (pgs_cons (pg_name (i := 6) sc__law_mr_faults.nd rfl (Or.inr rfl)) pgs_nil)))
        (pss_cons (ps_set (i := 3) sc__law_mr_faults.nd rfl (Or.inl rfl) (pe_lst (pa_cons (pe_lam__law_caught R__law_caught TB rfl T.x_KeepError.g hr (by rfl) (st0 := s__law_mr_faults) rfl (by decide +kernel) (fun A outer s H E f c' hr => (pe_d D_plain hr (by decide) (by rfl) passLam (pa_cons (pv 6) (pa_cons (pv 5) pa_nil))))) pa_nil)))
        (pss_cons (ps_expr (pe_bm PySem.F.plainAttrs_list PySem.F.slot_list_append PySem.F.type_list_append mt_append (pv 3) (pa_cons (pe_lam__law_caught R__law_caught TB rfl T.x_KeepError.g hr (by rfl) (st0 := s__law_mr_faults) rfl (by decide +kernel) (fun A outer s H E f c' hr => (pe_d D_undone hr (by decide) (by rfl) passLam (pa_cons (pv 6) (pa_cons (pv 5) pa_nil))))) pa_nil)))
        (pss_cons (ps_expr (pe_bm PySem.F.plainAttrs_list PySem.F.slot_list_append PySem.F.type_list_append mt_append (pv 3) (pa_cons (pe_lam__law_caught R__law_caught TB rfl T.x_KeepError.g hr (by rfl) (st0 := s__law_mr_faults) rfl (by decide +kernel) (fun A outer s H E f c' hr => (pe_d D_sums hr (by decide) (by rfl) passLam (pa_cons (pv 6) (pa_cons (pv 5) pa_nil))))) pa_nil)))
        (pss_cons (ps_expr (pe_bm PySem.F.plainAttrs_list PySem.F.slot_list_append PySem.F.type_list_append mt_append (pv 3) (pa_cons (pe_lam__law_caught R__law_caught TB rfl T.x_KeepError.g hr (by rfl) (st0 := s__law_mr_faults) rfl (by decide +kernel) (fun A outer s H E f c' hr => (pe_d D_times_row hr (by decide) (by rfl) passLam (pa_cons (pv 6) (pa_cons (pv 5) (pa_cons (pv 11) pa_nil)))))) pa_nil)))
        (pss_one (ps_for PassesOwn.never rfl (pi_U (pv 3)) (pg_name (i := 4) sc__law_mr_faults.nd rfl (Or.inl rfl))
          (pss_one (ps_if (pt_not (pt_ifT (pt_cmpR (op_eqU hr.units) (pv 2) pe_int (nomark _)) (pt_tru (pe_callB call_isU (by rfl) T.n_isinstance (by decide +kernel) (pa_cons (pv 4) (pa_cons (pe_gc T.x_BadRow.g (by rfl)) pa_nil))) (by intro _; rfl)) (pt_tru (pe_callB call_isU (by rfl) T.n_isinstance (by decide +kernel) (pa_cons (pv 4) (pa_cons (pe_gc T.x_BadDeeds.g (by rfl)) pa_nil))) (by intro _; rfl)))) (pss_one (ps_ret pe_bl)) pss_nil)))))))))
      (pss_cons (ps_for PassesOwn.never rfl (pi_U (pe_lst (pa_cons (pe_tup (pa_cons pe_int (pa_cons pe_bl pa_nil))) (pa_cons (pe_tup (pa_cons pe_bl (pa_cons pe_int pa_nil))) (pa_cons (pe_tup (pa_cons (pe_un un_neg pe_int) (pa_cons pe_bl pa_nil))) (pa_cons (pe_op op_addU (pe_tup (pa_cons pe_bl pa_nil)) (pv 10)) (pa_cons (pe_lst (pa_cons pe_int pa_nil)) pa_nil))))))) (pg_name (i := 9) sc__law_mr_faults.nd rfl (Or.inr rfl))
        (pss_one (ps_if (PW.pt (pw_or (pt_cmpR op_notBl (pe_d D_is_row hr (by decide) (by rfl) passL (pa_cons (pv 1) (pa_cons (pv 9) pa_nil))) pe_bl (nomark _)) (pw_or1 (pt_not (pt_tru (pe_callB call_isU (by rfl) T.n_isinstance (by decide +kernel) (pa_cons (pe_lam__law_caught R__law_caught TB rfl T.x_KeepError.g hr (by rfl) (st0 := s__law_mr_faults) rfl (by decide +kernel) (fun A outer s H E f c' hr => (pe_d D_plain hr (by decide) (by rfl) passLam (pa_cons (pv 1) (pa_cons (pv 9) pa_nil))))) (pa_cons (pe_gc T.x_BadRow.g (by rfl)) pa_nil))) (by intro _; rfl)))))) (pss_one (ps_ret pe_bl)) pss_nil)))
      (pss_cons (ps_if (pt_not (pt_tru (pe_callB call_isU (by rfl) T.n_isinstance (by decide +kernel) (pa_cons (pe_lam__law_caught R__law_caught TB rfl T.x_KeepError.g hr (by rfl) (st0 := s__law_mr_faults) rfl (by decide +kernel) (fun A outer s H E f c' hr => (pe_d D_is_row hr (by decide) (by rfl) passLam (pa_cons (pv 12) (pa_cons (pv 10) pa_nil))))) (pa_cons (pe_gc T.x_BadDeeds.g (by rfl)) pa_nil))) (by intro _; rfl))) (pss_one (ps_ret pe_bl)) pss_nil)
      (pss_one (ps_ret (pe_callB call_isU (by rfl) T.n_isinstance (by decide +kernel) (pa_cons (pe_lam__law_caught R__law_caught TB rfl T.x_KeepError.g hr (by rfl) (st0 := s__law_mr_faults) rfl (by decide +kernel) (fun A outer s H E f c' hr => (pe_d D_times_row hr (by decide) (by rfl) passLam (pa_cons (pv 1) (pa_cons (pv 10) (pa_cons (pv 11) pa_nil)))))) (pa_cons (pe_gc T.x_BadNumber.g (by rfl)) pa_nil)))))))))))), ?_⟩
  walk_at "rd"
  refine ⟨s, g, c, m, rfl, hS, by omega, fun vw dw H1 rw_ bw gw S1 k1 => ?_⟩
  walk_at "rd"
  refine ⟨s, g, c, m + 1, n, rfl, S1, by omega, n1, n4, fun vb db H2 rb bb gb S2 k2 => ?_⟩
  walk_at "rd"
  refine ⟨s, g, c, m + 1 + 1, n, rfl, S2, by omega, n1, n4, fun pr xs H3 S3 k3 tr lr er => ?_⟩
  walk_at "rd"
  refine ⟨lz (by simp), fun p hp => ?_⟩
  obtain ⟨s4, e4⟩ := new_at (o := .tup [vw, vb, .ref pr]) hp
  have K3 : XE.Kept s g H H3 := (k1.trans k2).trans k3
  have R3w : Rp K H3 vw dw := k3.rp S2 (k2.rp S1 rw_ gw) gw
  have R3b : Rp K H3 vb db := k3.rp S2 rb gb
  have T3 := tabs_kept hT K3 hS
  generalize upd H3 p (.tup [vw, vb, .ref pr]) = H4 at s4 e4 ⊢
  refine ⟨p, _, rfl, .inl (.inl e4), rfl, ?_⟩
  walk_at "rd"
  refine ⟨lz (by simp), fun p5 h5 => ?_⟩
  obtain ⟨s5, e5⟩ := new_at (o := .tup [.int 1]) h5
  walk_at "rd"
  generalize upd H4 p5 (.tup [.int 1]) = H5 at s5 e5 ⊢
  refine ⟨lz (by simp), fun p6 h6 => ?_⟩
  obtain ⟨s6, e6⟩ := new_at (o := .lst [.int 2]) h6
  walk_at "rd"
  generalize upd H5 p6 (.lst [.int 2]) = H6 at s6 e6 ⊢
  refine ⟨lz (by simp), fun p7 h7 => ?_⟩
  obtain ⟨s7, e7⟩ := new_at (o := .lst [.non, .int 21, .int (-21), .bl true, .str "1", .ref p5, .ref p6]) h7
  walk_at "rd"
  generalize upd H6 p7 (.lst [.non, .int 21, .int (-21), .bl true, .str "1", .ref p5, .ref p6]) = H7 at s7 e7 ⊢
  have t7 : Same H3 H7 := s4.trans (s5.trans (s6.trans s7))
  have S7 := S3.same t7
  refine ⟨s, g, c, p7, _, _, rfl, S7, by omega, .inl (.inl e7), (S3.same (s4.trans (s5.trans s6))).ne_n h7, by simp, by simp, fun vt H8 hx S8 k8 => ?_⟩
  have key : ∃ d, Rp K H7 vt d ∧ d.from (-20) 20 = false ∧ vt ≠ .ref g := by
    simp only [List.mem_cons, List.not_mem_nil, or_false] at hx
    rcases hx with rfl | rfl | rfl | rfl | rfl | rfl | rfl
    · exact ⟨.flat _, ⟨rfl, rfl⟩, rfl, by intro z; cases z⟩
    · exact ⟨.flat _, ⟨rfl, rfl⟩, rfl, by intro z; cases z⟩
    · exact ⟨.flat _, ⟨rfl, rfl⟩, rfl, by intro z; cases z⟩
    · exact ⟨.flat _, ⟨rfl, rfl⟩, rfl, by intro z; cases z⟩
    · exact ⟨.flat _, ⟨rfl, rfl⟩, rfl, by intro z; cases z⟩
    · exact ⟨.tup [.int 1], ⟨p5, rfl, .inl (.inl (s7 _ _ (s6 _ _ e5))), rfl⟩, rfl, fun z => (S3.same s4).ne_n h5 (V.ref.inj z)⟩
    · exact ⟨.lst [.int 2], ⟨p6, rfl, .inl (.inl (s7 _ _ e6))⟩, rfl, fun z => (S3.same (s4.trans s5)).ne_n h6 (V.ref.inj z)⟩
  obtain ⟨dt, r7t, b8t, gt_⟩ := key
  have r8t := k8.rp S7 r7t gt_
  have r8w := k8.rp S7 (R3w.same t7) gw
  have r8b := k8.rp S7 (R3b.same t7) gb
  have r8r := k8.tp S7 (tr.same t7)
  have T8 := tabs_kept (tabs_same T3 t7) k8 S7
  have S8 := S8.mono (show m + 1 + 1 + 60 + 1 ≤ m + 100 by omega)
  clear k8 hx S7 t7 e7 e6 e5 s7 s6 s5 s4 e4 h7 h6 h5 hp T3 R3b R3w K3 tr k3 k2 k1 rb rw_ r7t gt_ S1 S2 S3 hT hS

  walk_at "rd"
  -- the first loop: products with what is no number of deeds
  refine .inl ?_
  walk_at "rd"
  refine ⟨lz (by simp), fun p1 h1 => ?_⟩
  obtain ⟨s1, e1⟩ := new_at (o := .tup [vw, vb, vb]) h1
  walk_at "rd"
  generalize upd H8 p1 (.tup [vw, vb, vb]) = H9 at s1 e1 ⊢
  refine ⟨lz (by simp), fun p2 h2 => ?_⟩
  obtain ⟨s2, e2⟩ := new_at (o := .tup [vw, .ref pr, .ref pr]) h2
  walk_at "rd"
  generalize upd H9 p2 (.tup [vw, .ref pr, .ref pr]) = H10 at s2 e2 ⊢
  refine ⟨lz (by simp), fun p3 h3 => ?_⟩
  obtain ⟨s3, e3⟩ := new_at (o := .lst [.ref p1, .ref p2]) h3
  walk_at "rd"
  generalize upd H10 p3 (.lst [.ref p1, .ref p2]) = H11 at s3 e3 ⊢
  have e2 := s3 _ _ e2
  have e1 := s3 _ _ (s2 _ _ e1)
  have t11 := s1.trans (s2.trans s3)
  have S11 := S8.same t11
  have T11 := tabs_same T8 t11
  have w11 := r8w.same t11
  have b11 := r8b.same t11
  have r11 := r8r.same t11
  have v11 := r8t.same t11
  have row11 : ∃ d, Rp K H11 (.ref pr) d := ⟨.tup (xs.map V.int), pr, rfl, r11.sqT, okI (by omega)⟩
  clear r8w r8b r8r r8t T8 S8 t11 s1 s2 s3 h1 h2 h3

  refine ⟨p3, rfl, ⟨_, .inl (.inl e3)⟩, ?_⟩
  refine for_list (xs := [.ref p1, .ref p2]) (fun i σ H' => ∃ (y2 y3 y4 y6 y7 y8 y9 : Option V), σ = [some (.ref s), some (.int n), y2, y3, y4, some vb, y6, y7, y8, y9, some (.ref pr), some vt, some vw] ∧ LamX.ExtN H11 H' ∧ LamX.Tabs [(Pt, "_law_mr_faults.<locals>.<lambda>")] H')
    ⟨none, none, none, none, none, none, none, rfl, .refl _, T11⟩ (fun i σ H' _ h => ?_) (fun i x σ H' hx h => ?_) (fun σ H' h => ?_)
  · obtain ⟨y2, y3, y4, y6, y7, y8, y9, rfl, ex, tx⟩ := h
    exact .inl (.inl (ex _ _ e3 (by intro _ z; cases z)))
  · obtain ⟨y2, y3, y4, y6, y7, y8, y9, rfl, ex, tx⟩ := h
    obtain ⟨pt, v2, d2, rfl, et, r2⟩ : ∃ pt v2 d2, x = .ref pt ∧ H11 pt = some (.tup [vw, v2, v2]) ∧ Rp K H11 v2 d2 := by
      obtain ⟨d, hd⟩ := row11
      rcases List.mem_cons.mp (List.mem_of_getElem? hx) with e | e
      · exact ⟨p1, vb, db, e, e1, b11⟩
      · exact ⟨p2, .ref pr, d, List.mem_singleton.mp e, e2, hd⟩
    refine ⟨pt, _, rfl, .inl (.inl (ex _ _ et (by intro _ z; cases z))), rfl, ?_⟩
    walk_at "rd"
    refine rd_caught tx Ec.mD fun H2 Ech Q' x2 t2 he => ?_
    have y2 := ext_rp (x2) (ext_rp ex r2)
    walk_at "rd"
    refine ⟨vw, dw, v2, d2, v2, d2, rfl, ext_rp x2 (ext_rp ex w11), y2, y2, fun _ => he _ fun v H3 s3 er => ?_, fun k e1 e2 => by rw [bw] at e2; cases e2⟩
    walk_at "rd"
    refine rd_isErr er T.x_BadDeeds.c (.own _) Ec.kD ?_
    refine truB ?_
    refine iteF ?_
    walk_at "rd"
    exact ⟨_, _, _, _, _, _, _, rfl, (ex.trans x2).trans (.of s3), tabs_same t2 s3⟩
  obtain ⟨y2, y3, y4, y6, y7, y8, y9, rfl, ex, tx⟩ := h
  have S12 := ext_st ex S11
  have w12 := ext_rp ex w11
  have b12 := ext_rp ex b11
  have r12 := ext_tp ex r11
  have v12 := ext_rp ex v11
  clear w11 b11 r11 v11 row11 S11 T11 e1 e2 e3 ex
  walk_at "rd"
  -- the second loop: products with what is no row
  refine .inl ?_
  walk_at "rd"
  refine ⟨lz (by simp), fun q1 h1 => ?_⟩
  obtain ⟨s1, e1⟩ := new_at (o := .tup [vb, .ref pr]) h1
  walk_at "rd"
  generalize upd H' q1 (.tup [vb, .ref pr]) = H12 at s1 e1 ⊢
  refine ⟨lz (by simp), fun q2 h2 => ?_⟩
  obtain ⟨s2, e2⟩ := new_at (o := .tup [.ref pr, vb]) h2
  walk_at "rd"
  generalize upd H12 q2 (.tup [.ref pr, vb]) = H13 at s2 e2 ⊢
  refine ⟨lz (by simp), fun q3 h3 => ?_⟩
  obtain ⟨s3, e3⟩ := new_at (o := .lst [.ref q1, .ref q2]) h3
  walk_at "rd"
  generalize upd H13 q3 (.lst [.ref q1, .ref q2]) = H14 at s3 e3 ⊢
  have e2 := s3 _ _ e2
  have e1 := s3 _ _ (s2 _ _ e1)
  have t14 := s1.trans (s2.trans s3)
  have S14 := S12.same t14
  have T14 := tabs_same tx t14
  have w14 := w12.same t14
  have b14 := b12.same t14
  have r14 := r12.same t14
  have v14 := v12.same t14
  have row14 : Rp K H14 (.ref pr) (.tup (xs.map V.int)) := ⟨pr, rfl, r14.sqT, okI (by omega)⟩
  have rr : (Dat.tup (xs.map V.int)).row n = true := er.row (by omega)
  have dn : (Dat.flat (.int n)).from 1 4 = true := by
    show (decide (1 ≤ n) && decide (n ≤ 4)) = true
    rw [decide_eq_true n1, decide_eq_true n4] <;> rfl
  clear w12 b12 r12 v12 tx S12 t14 s1 s2 s3 h1 h2 h3
  refine ⟨q3, rfl, ⟨_, .inl (.inl e3)⟩, ?_⟩
  refine for_list (xs := [.ref q1, .ref q2]) (fun i σ H' => ∃ (y2 y3 y4 y6 y7 y8 y9 : Option V), σ = [some (.ref s), some (.int n), y2, y3, y4, some vb, y6, y7, y8, y9, some (.ref pr), some vt, some vw] ∧ LamX.ExtN H14 H' ∧ LamX.Tabs [(Pt, "_law_mr_faults.<locals>.<lambda>")] H')
    ⟨_, _, _, _, _, _, _, rfl, .refl _, T14⟩ (fun i σ H' _ h => ?_) (fun i x σ H' hx h => ?_) (fun σ H' h => ?_)
  · obtain ⟨y2, y3, y4, y6, y7, y8, y9, rfl, ex, tx⟩ := h
    exact .inl (.inl (ex _ _ e3 (by intro _ z; cases z)))
  · obtain ⟨y2, y3, y4, y6, y7, y8, y9, rfl, ex, tx⟩ := h
    obtain ⟨pt, v2, d2, v3, d3, rfl, et, r2, r3, bad⟩ : ∃ pt v2 d2 v3 d3, x = .ref pt ∧ H14 pt = some (.tup [v2, v3]) ∧ Rp K H14 v2 d2 ∧ Rp K H14 v3 d3 ∧ ¬ (d2.row n = true ∧ d3.row n = true) := by
      rcases List.mem_cons.mp (List.mem_of_getElem? hx) with e | e
      · exact ⟨q1, vb, db, .ref pr, _, e, e1, b14, row14, fun z => by rw [bb] at z; cases z.1⟩
      · exact ⟨q2, .ref pr, _, vb, db, List.mem_singleton.mp e, e2, row14, b14, fun z => by rw [bb] at z; cases z.2⟩
    refine ⟨pt, _, rfl, .inl (.inl (ex _ _ et (by intro _ z; cases z))), rfl, ?_⟩
    walk_at "rd"
    refine rd_caught tx Ec.mR fun H2 Ech Q' x2 t2 he => ?_
    walk_at "rd"
    have he2 : ∀ H3, Same H2 H3 → Ech (eRow K) none H3 := fun H3 s3 => he _ fun v H4 s4 er => by
      walk_at "rd"
      refine rd_isErr er T.x_BadRow.c (.own _) Ec.kR ?_
      refine truB ?_
      refine iteF ?_
      walk_at "rd"
      exact ⟨_, _, _, _, _, _, _, rfl, (ex.trans x2).trans (.of (s3.trans s4)), tabs_same t2 (s3.trans s4)⟩
    refine ⟨.int n, .flat (.int n), v2, d2, v3, d3, rfl, ⟨rfl, rfl⟩, ext_rp x2 (ext_rp ex r2), ext_rp x2 (ext_rp ex r3), fun e => ?_, fun k e1 e2 => ?_⟩
    · rw [dn] at e
      cases e
    · cases e1
      exact ⟨fun _ H3 s3 => he2 H3 s3, fun _ H3 s3 => he2 H3 s3, fun _ _ _ z1 _ z2 => absurd ⟨z1, z2⟩ bad⟩
  obtain ⟨y2, y3, y4, y6, y7, y8, y9, rfl, ex, tx⟩ := h
  have S15 := ext_st ex S14
  have w15 := ext_rp ex w14
  have b15 := ext_rp ex b14
  have r15 := ext_tp ex r14
  have v15 := ext_rp ex v14
  clear w14 b14 r14 v14 row14 S14 T14 e1 e2 e3 ex
  walk_at "rd"
  -- the third loop
  refine .inl ?_
  walk_at "rd"
  refine ⟨lz (by simp), fun q4 h1 => ?_⟩
  obtain ⟨s1, e1⟩ := new_at (o := .tup [.int 0, vw]) h1
  walk_at "rd"
  generalize upd H' q4 (.tup [.int 0, vw]) = H15 at s1 e1 ⊢
  refine ⟨lz (by simp), fun q5 h2 => ?_⟩
  obtain ⟨s2, e2⟩ := new_at (o := .tup [.int 1, .int n]) h2
  walk_at "rd"
  generalize upd H15 q5 (.tup [.int 1, .int n]) = H16 at s2 e2 ⊢
  refine ⟨lz (by simp), fun q6 h3 => ?_⟩
  obtain ⟨s3, e3⟩ := new_at (o := .lst [.ref q4, .ref q5]) h3
  walk_at "rd"
  generalize upd H16 q6 (.lst [.ref q4, .ref q5]) = H17 at s3 e3 ⊢
  have e2 := s3 _ _ e2
  have e1 := s3 _ _ (s2 _ _ e1)
  have t17 := s1.trans (s2.trans s3)
  have S17 := S15.same t17
  have T17 := tabs_same tx t17
  have w17 := w15.same t17
  have b17 := b15.same t17
  have r17 := r15.same t17
  have v17 := v15.same t17
  clear w15 b15 r15 v15 tx S15 t17 s1 s2 s3 h1 h2 h3
  refine ⟨q6, rfl, ⟨_, .inl (.inl e3)⟩, ?_⟩
  refine for_list (xs := [.ref q4, .ref q5]) (fun i σ H' => ∃ (y2 y3 y4 y6 y7 y8 y9 : Option V), σ = [some (.ref s), some (.int n), y2, y3, y4, some vb, y6, y7, y8, y9, some (.ref pr), some vt, some vw] ∧ LamX.ExtN H17 H' ∧ LamX.Tabs [(Pt, "_law_mr_faults.<locals>.<lambda>")] H')
    ⟨_, _, _, _, _, _, _, rfl, .refl _, T17⟩ (fun i σ H' _ h => ?_) (fun i x σ H' hx h => ?_) (fun σ H' h => ?_)
  · obtain ⟨y2, y3, y4, y6, y7, y8, y9, rfl, ex, tx⟩ := h
    exact .inl (.inl (ex _ _ e3 (by intro _ z; cases z)))
  · obtain ⟨y2, y3, y4, y6, y7, y8, y9, rfl, ex, tx⟩ := h
    obtain ⟨pt, due, v1, d1, rfl, et, r1, hdue⟩ : ∃ pt due v1 d1, x = .ref pt ∧ H17 pt = some (.tup [.int due, v1]) ∧ Rp K H17 v1 d1 ∧ ((due = 0 ∧ d1.from 1 4 = false) ∨ (due = 1 ∧ d1 = .flat (.int n))) := by
      rcases List.mem_cons.mp (List.mem_of_getElem? hx) with e | e
      · exact ⟨q4, 0, vw, dw, e, e1, w17, .inl ⟨rfl, bw⟩⟩
      · exact ⟨q5, 1, .int n, .flat (.int n), List.mem_singleton.mp e, e2, ⟨rfl, rfl⟩, .inr ⟨rfl, rfl⟩⟩
    refine ⟨pt, _, rfl, .inl (.inl (ex _ _ et (by intro _ z; cases z))), rfl, ?_⟩
    walk_at "rd"
    obtain ⟨D, hD⟩ : ∃ D, (due = 0 ∧ D = He.ga K "BadDeeds") ∨ (due = 1 ∧ D = He.ga K "BadRow") := by
      rcases hdue with h | h
      · exact ⟨_, .inl ⟨h.1, rfl⟩⟩
      · exact ⟨_, .inr ⟨h.1, rfl⟩⟩
    have hxm : PySem.W.exmOne K (.ref D) (.ref (He.ga K "KeepError")) = some true := by
      rcases hD with h | h
      · rw [h.2]; exact Ec.mD
      · rw [h.2]; exact Ec.mR
    have c0 : ∀ (Ech : XK) (H2 : Hp), (∀ H3, Same H2 H3 → Ech (.ref D) none H3) → d1.from 1 4 = false → Ech (eDeeds K) none H2 := fun Ech H2 he e => by
      rcases hdue with h | h
      · rcases hD with h2 | h2
        · have he := he _ (Same.refl _)
          rw [h2.2] at he
          exact he
        · omega
      · rw [h.2, dn] at e; cases e
    have c1 : ∀ (Ech : XK) (H2 : Hp), (∀ H3, Same H2 H3 → Ech (.ref D) none H3) → d1.from 1 4 = true → ∀ H3, Same H2 H3 → Ech (eRow K) none H3 := fun Ech H2 he e => by
      rcases hdue with h | h
      · rw [h.2] at e; cases e
      · rcases hD with h2 | h2
        · omega
        · rw [h2.2] at he
          exact he
    have c2 : ∀ k, d1 = .flat (.int k) → d1.from 1 4 = true → db.row k = true → False := fun k e1 e2 e3 => by
      rcases hdue with h | h
      · rw [h.2] at e2; cases e2
      · rw [h.2] at e1
        cases e1
        rw [bb] at e3
        cases e3
    have one : ∀ (gf : Int → List Int → List Int) (H2 : Hp) (Ech : XK) (Q' : VK), Rp K H2 v1 d1 → Rp K H2 vb db → (∀ H3, Same H2 H3 → Ech (.ref D) none H3) → spOne K gf [v1, vb] H2 Q' Ech := fun gf H2 Ech Q' ra rb he =>
      ⟨v1, d1, vb, db, rfl, ra, rb, c0 Ech H2 he, fun k e1 e2 => ⟨fun _ => c1 Ech H2 he e2, fun _ _ e3 => (c2 k e1 e2 e3).elim⟩⟩
    have tms : ∀ (H2 : Hp) (Ech : XK) (Q' : VK), Rp K H2 v1 d1 → Rp K H2 vb db → Rp K H2 vt dt → (∀ H3, Same H2 H3 → Ech (.ref D) none H3) → spTimes K [v1, vb, vt] H2 Q' Ech := fun H2 Ech Q' ra rb rt he =>
      ⟨v1, d1, vb, db, vt, dt, rfl, ra, rb, rt, c0 Ech H2 he, fun k e1 e2 => ⟨fun _ => c1 Ech H2 he e2, fun e3 => (c2 k e1 e2 e3).elim, fun _ _ _ e3 => (c2 k e1 e2 e3).elim⟩⟩
    refine rd_caught tx hxm fun H2 Ech Q' x2 t2 he => ?_
    walk_at "rd"
    refine one _ H2 Ech Q' (ext_rp (ex.trans x2) r1) (ext_rp (ex.trans x2) b17) fun H3 s3 => he _ fun u1 H4 s4 er1 => ?_
    walk_at "rd"
    refine ⟨lz (by simp), fun k hk => ?_⟩
    have x4 : LamX.ExtN H17 H4 := (ex.trans x2).trans (.of (s3.trans s4))
    have t4 := tabs_same t2 (s3.trans s4)
    obtain ⟨s5, e5⟩ := new_at (o := .lst [u1]) hk
    have f5 : ∀ v ∈ [u1], Err D (upd H4 k (.lst [u1])) v := fun v hv => by
      rw [List.mem_singleton.mp hv]
      exact er1.same s5
    have t5 := tabs_same t4 s5
    have x5 : LamX.ExtN H4 (upd H4 k (.lst [u1])) := .of s5
    generalize upd H4 k (.lst [u1]) = H5 at e5 f5 t5 x5 ⊢
    walk_at "rd"
    refine ⟨tyl e5, ?_⟩
    walk_at "rd"
    refine rd_caught t5 hxm fun Ha6 Ech Q' xa6 ta6 he => ?_
    walk_at "rd"
    have xb6 := (x4.trans (x5.trans xa6))
    refine one _ Ha6 Ech Q' (ext_rp xb6 r1) (ext_rp xb6 b17) fun Hb6 sb6 => he _ fun u6 Hc6 sc6 er6 => ?_
    walk_at "rd"
    have e6 := (sb6.trans sc6) _ _ (xa6 _ _ e5 (by intro _ z; cases z))
    have x6 := ext_mut (o := .lst ([u1] ++ [u6])) (ext_same (x5.trans xa6) (sb6.trans sc6)) hk
    have t6 := tabs_mut (o := .lst ([u1] ++ [u6])) (tabs_same ta6 (sb6.trans sc6)) e6
    have f6 : ∀ v ∈ [u1] ++ [u6], Err D (upd Hc6 k (.lst ([u1] ++ [u6]))) v := fun v hv => by
      rcases List.mem_append.mp hv with hv | hv
      · exact (((f5 v hv).ext xa6).same (sb6.trans sc6)).mut e6
      · rw [List.mem_singleton.mp hv]; exact er6.mut e6
    refine app e6 (by simp) ?_
    have e6 := upd_same (H := Hc6) (a := k) (o := .lst ([u1] ++ [u6]))
    generalize upd Hc6 k (.lst ([u1] ++ [u6])) = Hd6 at x6 t6 f6 e6 ⊢
    walk_at "rd"
    refine ⟨tyl e6, ?_⟩
    walk_at "rd"
    refine rd_caught t6 hxm fun Ha7 Ech Q' xa7 ta7 he => ?_
    walk_at "rd"
    have xb7 := (x4.trans (x6.trans xa7))
    refine one _ Ha7 Ech Q' (ext_rp xb7 r1) (ext_rp xb7 b17) fun Hb7 sb7 => he _ fun u7 Hc7 sc7 er7 => ?_
    walk_at "rd"
    have e7 := (sb7.trans sc7) _ _ (xa7 _ _ e6 (by intro _ z; cases z))
    have x7 := ext_mut (o := .lst (([u1] ++ [u6]) ++ [u7])) (ext_same (x6.trans xa7) (sb7.trans sc7)) hk
    have t7 := tabs_mut (o := .lst (([u1] ++ [u6]) ++ [u7])) (tabs_same ta7 (sb7.trans sc7)) e7
    have f7 : ∀ v ∈ ([u1] ++ [u6]) ++ [u7], Err D (upd Hc7 k (.lst (([u1] ++ [u6]) ++ [u7]))) v := fun v hv => by
      rcases List.mem_append.mp hv with hv | hv
      · exact (((f6 v hv).ext xa7).same (sb7.trans sc7)).mut e7
      · rw [List.mem_singleton.mp hv]; exact er7.mut e7
    refine app e7 (by simp) ?_
    have e7 := upd_same (H := Hc7) (a := k) (o := .lst (([u1] ++ [u6]) ++ [u7]))
    generalize upd Hc7 k (.lst (([u1] ++ [u6]) ++ [u7])) = Hd7 at x7 t7 f7 e7 ⊢
    walk_at "rd"
    refine ⟨tyl e7, ?_⟩
    walk_at "rd"
    refine rd_caught t7 hxm fun Ha8 Ech Q' xa8 ta8 he => ?_
    walk_at "rd"
    have xb8 := (x4.trans (x7.trans xa8))
    refine tms Ha8 Ech Q' (ext_rp xb8 r1) (ext_rp xb8 b17) (ext_rp xb8 v17) fun Hb8 sb8 => he _ fun u8 Hc8 sc8 er8 => ?_
    walk_at "rd"
    have e8 := (sb8.trans sc8) _ _ (xa8 _ _ e7 (by intro _ z; cases z))
    have x8 := ext_mut (o := .lst (([u1] ++ [u6] ++ [u7]) ++ [u8])) (ext_same (x7.trans xa8) (sb8.trans sc8)) hk
    have t8 := tabs_mut (o := .lst (([u1] ++ [u6] ++ [u7]) ++ [u8])) (tabs_same ta8 (sb8.trans sc8)) e8
    have f8 : ∀ v ∈ ([u1] ++ [u6] ++ [u7]) ++ [u8], Err D (upd Hc8 k (.lst (([u1] ++ [u6] ++ [u7]) ++ [u8]))) v := fun v hv => by
      rcases List.mem_append.mp hv with hv | hv
      · exact (((f7 v hv).ext xa8).same (sb8.trans sc8)).mut e8
      · rw [List.mem_singleton.mp hv]; exact er8.mut e8
    refine app e8 (by simp) ?_
    have e8 := upd_same (H := Hc8) (a := k) (o := .lst (([u1] ++ [u6] ++ [u7]) ++ [u8]))
    generalize upd Hc8 k (.lst (([u1] ++ [u6] ++ [u7]) ++ [u8])) = Hd8 at x8 t8 f8 e8 ⊢
    walk_at "rd"
    dsimp only
    refine forL (xs := [u1] ++ [u6] ++ [u7] ++ [u8]) (fun i σ H' => ∃ (y4 : Option V), σ = [some (.ref s), some (.int n), some (.int due), some (.ref k), y4, some vb, some v1, y7, y8, y9, some (.ref pr), some vt, some vw] ∧ H' = Hd8) rfl (.inl (.inl e8)) ⟨y4, rfl, rfl⟩
      (fun i σ H' _ h => ?_) (fun i x σ H' hx h => ?_) (fun σ H' h => ?_)
    · obtain ⟨y4, rfl, rfl⟩ := h
      exact .inl (.inl e8)
    · obtain ⟨y4, rfl, rfl⟩ := h
      have er := f8 x (List.mem_of_getElem? hx)
      walk_at "rd"
      refine rd_eqI ?_
      walk_at "rd"
      rcases hD with h | h
      · rw [decide_eq_false (show ¬ due = 1 by omega)]
        refine iteF ?_
        rw [h.2] at er
        walk_at "rd"
        refine rd_isErr er T.x_BadDeeds.c (.own _) Ec.kD ?_
        refine truB ?_
        refine iteF ?_
        exact ⟨_, rfl, rfl⟩
      · rw [decide_eq_true (show due = 1 by omega)]
        refine iteT ?_
        rw [h.2] at er
        walk_at "rd"
        refine rd_isErr er T.x_BadRow.c (.own _) Ec.kR ?_
        refine truB ?_
        refine iteF ?_
        exact ⟨_, rfl, rfl⟩
    · obtain ⟨y4, rfl, rfl⟩ := h
      exact ⟨_, _, _, _, _, _, _, rfl, x4.trans x8, t8⟩
  obtain ⟨y2, y3, y4, y6, y7, y8, y9, rfl, ex, tx⟩ := h
  have S20 := ext_st ex S17
  have w20 := ext_rp ex w17
  have r20 := ext_tp ex r17
  have v20 := ext_rp ex v17
  clear w17 b17 r17 v17 S17 T17 e1 e2 e3 ex
  walk_at "rd"
  -- the fourth loop
  refine .inl ?_
  walk_at "rd"
  refine ⟨lz (by simp), fun r1 h1 => ?_⟩
  obtain ⟨s1, e1⟩ := new_at (o := .tup [.int 1, .bl true]) h1
  walk_at "rd"
  generalize upd H' r1 (.tup [.int 1, .bl true]) = H21 at s1 e1 ⊢
  refine ⟨lz (by simp), fun r2 h2 => ?_⟩
  obtain ⟨s2, e2⟩ := new_at (o := .tup [.bl true, .int 1]) h2
  walk_at "rd"
  generalize upd H21 r2 (.tup [.bl true, .int 1]) = H22 at s2 e2 ⊢
  refine ⟨lz (by simp), fun r3 h3 => ?_⟩
  obtain ⟨s3, e3⟩ := new_at (o := .tup [.int (-1), .bl false]) h3
  walk_at "rd"
  generalize upd H22 r3 (.tup [.int (-1), .bl false]) = H23 at s3 e3 ⊢
  refine ⟨lz (by simp), fun r4 h4 => ?_⟩
  obtain ⟨s4, e4⟩ := new_at (o := .tup [.bl true]) h4
  walk_at "rd"
  generalize upd H23 r4 (.tup [.bl true]) = H24 at s4 e4 ⊢
  have t24 := s1.trans (s2.trans (s3.trans s4))
  refine catS (.inl (.inl e4)) (r20.same t24).sqT (by simp only [List.length_map, List.length_cons, List.length_nil]; omega) fun r5 H25 s5 e5 => ?_
  walk_at "rd"
  refine ⟨lz (by simp), fun r6 h6 => ?_⟩
  obtain ⟨s6, e6⟩ := new_at (o := .lst [.int 1]) h6
  walk_at "rd"
  generalize upd H25 r6 (.lst [.int 1]) = H26 at s6 e6 ⊢
  refine ⟨lz (by simp), fun r7 h7 => ?_⟩
  obtain ⟨s7, e7⟩ := new_at (o := .lst [.ref r1, .ref r2, .ref r3, .ref r5, .ref r6]) h7
  walk_at "rd"
  generalize upd H26 r7 (.lst [.ref r1, .ref r2, .ref r3, .ref r5, .ref r6]) = H27 at s7 e7 ⊢
  have t27 := t24.trans (s5.trans (s6.trans s7))
  have S27 := S20.same t27
  have T27 := tabs_same tx t27
  have w27 := w20.same t27
  have r27 := r20.same t27
  have v27 := v20.same t27
  have ej : ∀ x ∈ ([.ref r1, .ref r2, .ref r3, .ref r5, .ref r6] : List V), ∃ d, Rp K H27 x d ∧ d.row n = false := by
    intro x hx
    simp only [List.mem_cons, List.not_mem_nil, or_false] at hx
    rcases hx with rfl | rfl | rfl | rfl | rfl
    · exact ⟨.tup [.int 1, .bl true], ⟨r1, rfl, .inl (.inl ((s2.trans (s3.trans (s4.trans (s5.trans (s6.trans s7))))) _ _ e1)), rfl⟩, by simp [Dat.row, letV]⟩
    · exact ⟨.tup [.bl true, .int 1], ⟨r2, rfl, .inl (.inl ((s3.trans (s4.trans (s5.trans (s6.trans s7)))) _ _ e2)), rfl⟩, by simp [Dat.row, letV]⟩
    · exact ⟨.tup [.int (-1), .bl false], ⟨r3, rfl, .inl (.inl ((s4.trans (s5.trans (s6.trans s7))) _ _ e3)), rfl⟩, by simp [Dat.row, letV]⟩
    · exact ⟨Dat.tup ([V.bl true] ++ xs.map V.int), ⟨r5, rfl, sqT_same (s6.trans s7) e5, by simp [okB, List.all_map, plainV]; omega⟩, by simp [Dat.row, letV]⟩
    · exact ⟨.lst [.int 1], ⟨r6, rfl, .inl (.inl (s7 _ _ e6))⟩, rfl⟩
  clear w20 r20 v20 S20 tx t24 e1 e2 e3 e4 e5 e6 s1 s2 s3 s4 s5 s6 s7
  refine ⟨r7, rfl, ⟨_, .inl (.inl e7)⟩, ?_⟩
  refine for_list (xs := [.ref r1, .ref r2, .ref r3, .ref r5, .ref r6]) (fun i σ H' => ∃ (y2 y3 y4 y6 y7 y8 y9 : Option V), σ = [some (.ref s), some (.int n), y2, y3, y4, some vb, y6, y7, y8, y9, some (.ref pr), some vt, some vw] ∧ LamX.ExtN H27 H' ∧ LamX.Tabs [(Pt, "_law_mr_faults.<locals>.<lambda>")] H')
    ⟨_, _, _, _, _, _, _, rfl, .refl _, T27⟩ (fun i σ H' _ h => ?_) (fun i x σ H' hx h => ?_) (fun σ H' h => ?_)
  · obtain ⟨y2, y3, y4, y6, y7, y8, y9, rfl, ex, tx⟩ := h
    exact .inl (.inl (ex _ _ e7 (by intro _ z; cases z)))
  · obtain ⟨y2, y3, y4, y6, y7, y8, y9, rfl, ex, tx⟩ := h
    obtain ⟨d, rx, hd⟩ := ej x (List.mem_of_getElem? hx)
    walk_at "rd"
    refine ⟨.int n, .flat (.int n), x, d, rfl, ⟨rfl, rfl⟩, ext_rp ex rx, fun e => ?_, fun k e1 e2 H2 s2 => ?_⟩
    · rw [dn] at e
      cases e
    cases e1
    rw [hd]
    walk_at "rd"
    refine ⟨_, _, rfl, rfl, ?_⟩
    walk_at "rd"
    refine iteF ?_
    walk_at "rd"
    refine rd_caught (tabs_same tx s2) Ec.mR fun H3 Ech Q' x3 t3 he => ?_
    walk_at "rd"
    refine ⟨.int n, .flat (.int n), x, d, rfl, ⟨rfl, rfl⟩, ext_rp ((ex.trans (.of s2)).trans x3) rx, fun e => ?_, fun k e1 e2 => ?_⟩
    · rw [dn] at e
      cases e
    cases e1
    refine ⟨fun _ H4 s4 => he _ fun u H5 s5 er => ?_, fun _ _ e3 => ?_⟩
    rotate_left
    · rw [hd] at e3
      cases e3
    walk_at "rd"
    refine rd_isErr er T.x_BadRow.c (.own _) Ec.kR ?_
    refine truB ?_
    refine iteF ?_
    walk_at "rd"
    exact ⟨_, _, _, _, _, _, _, rfl, ((ex.trans (.of s2)).trans x3).trans (.of (s4.trans s5)), tabs_same t3 (s4.trans s5)⟩
  obtain ⟨y2, y3, y4, y6, y7, y8, y9, rfl, ex, tx⟩ := h
  have S30 := ext_st ex S27
  have w30 := ext_rp ex w27
  have r30 := ext_tp ex r27
  have v30 := ext_rp ex v27
  walk_at "rd"
  have row30 : Rp K H' (.ref pr) (.tup (xs.map V.int)) := ⟨pr, rfl, r30.sqT, okI (by omega)⟩
  refine rd_caught tx Ec.mD fun H31 Ech Q' x31 t31 he => ?_
  walk_at "rd"
  refine ⟨vw, dw, .ref pr, _, rfl, ext_rp x31 w30, ext_rp x31 row30, fun _ => he _ fun u H32 s32 er => ?_, fun k e1 e2 => ?_⟩
  rotate_left
  · rw [bw] at e2
    cases e2
  walk_at "rd"
  refine rd_isErr er T.x_BadDeeds.c (.own _) Ec.kD ?_
  refine truB ?_
  refine iteF ?_
  walk_at "rd"
  refine rd_caught (tabs_same t31 s32) Ec.mN fun H33 Ech Q' x33 t33 he => ?_
  walk_at "rd"
  have x34 := (x31.trans (.of s32)).trans x33
  refine ⟨.int n, .flat (.int n), .ref pr, _, vt, dt, rfl, ⟨rfl, rfl⟩, ext_rp x34 row30, ext_rp x34 v30, fun e => ?_, fun k e1 e2 => ?_⟩
  · rw [dn] at e
    cases e
  cases e1
  refine ⟨fun e3 => ?_, fun _ _ H35 s35 => he _ fun u H36 s36 er => ?_, fun _ _ _ _ _ e5 => ?_⟩
  · rw [rr] at e3
    cases e3
  rotate_left
  · rw [b8t] at e5
    cases e5
  walk_at "rd"
  refine rd_isErr er T.x_BadNumber.c (.own _) Ec.kN ?_
  exact q _ ((ext_st x34 S30).same (s35.trans s36)) (tabs_same t33 (s35.trans s36))
end
end KP

set_option linter.all false
set_option maxRecDepth 100000
set_option maxHeartbeats 4000000
namespace KP
open PySem PySem.Spec PyProof.Rows L2 XA XB XC XD XM XE XF XG
local macro_rules | `(tactic| walk_at "rd") => `(tactic| repeat (first
  | (with_reducible refine rd_seq ?_) | (with_reducible refine rd_asg ?_) | ((with_reducible refine' rd_var ?hv ?_); (case hv => exact rfl)) | (with_reducible refine rd_c ?_) | (with_reducible refine rd_gn ?_)
  | (with_reducible refine rd_op ?_) | (with_reducible refine rd_un ?_) | (with_reducible refine rd_cons ?_) | (with_reducible refine rd_nil ?_) | (with_reducible refine rd_cl ?_) | (with_reducible refine rd_ck ?_) | (with_reducible refine rd_cb ?_)
  | (with_reducible refine rd_ret ?_) | (with_reducible refine rd_drop ?_) | (with_reducible refine rd_ifs ?_) | (with_reducible refine rd_if ?_) | (with_reducible refine rd_test ?_) | (with_reducible refine rd_tb ?_) | (with_reducible refine rd_and ?_) | (with_reducible refine rd_or ?_)
  | (with_reducible refine rd_not ?_) | (with_reducible refine rd_andV ?_) | (with_reducible refine rd_orV ?_) | (with_reducible refine rd_notV ?_) | (with_reducible refine rd_chain ?_) | (with_reducible refine rd_tup ?_) | (with_reducible refine rd_lst ?_)
  | (with_reducible refine rd_bm0 ?_) | (with_reducible refine rd_bm ?_) | (with_reducible refine rd_sl ?_) | (with_reducible refine rd_part ?_) | (with_reducible refine rd_nopart ?_) | (with_reducible refine rd_dget ?_) | (with_reducible refine rd_dput ?_)
  | (with_reducible refine rd_next ?_) | (with_reducible refine rd_lc ?_) | ((with_reducible refine' rd_aug ?hv ?_); (case hv => exact rfl)) | (with_reducible refine rd_cont ?_) | (with_reducible refine rd_gcons ?_) | (with_reducible refine rd_gnil ?_) | (with_reducible refine rd_ifT ?_) | (with_reducible refine rd_yes ?_) | (with_reducible refine rd_tru ?_) | (with_reducible refine rd_cntE ?_) | (with_reducible refine rd_rng1 ?_) | (with_reducible refine rd_lrg ?_) | (with_reducible refine rd_rg2 ?_) | (with_reducible refine rd_back ?_) | (with_reducible refine rd_disp ?_) | (with_reducible refine rd_prN ?_) | (with_reducible refine rd_prC ?_) | (with_reducible refine rd_par ?_) | (with_reducible refine rd_par3 ?_) | (with_reducible refine rd_two ?_) | (with_reducible refine rd_three ?_) | (with_reducible refine rd_one ?_) | (with_reducible refine rd_onei ?_) | (with_reducible refine rd_iL ?_) | (with_reducible refine rd_iT ?_) | (with_reducible refine rd_rng2 ?_) | (with_reducible refine rd_bl ?_) | (with_reducible refine rd_int ?_) | (with_reducible refine rd_I0 ?_) | (with_reducible refine rd_U ?_) | (with_reducible refine rd_din ?_) | (with_reducible refine rd_dnin ?_) | (with_reducible refine rd_dnew ?_) | (with_reducible refine rd_lset ?_) | (with_reducible refine rd_enT ?_) | (with_reducible refine rd_idx ?_) | (with_reducible refine rd_rg1 ?_) | (with_reducible refine rd_tupRg ?_)))

section
variable {P : Program} {w : World} {K : PySem.W.Frag} {mg : Str → Option Value} {base : Heap}
theorem bdk_plain_0 : Bndk s_plain "plain" ["deeds", "row"] 0 ["deeds", "row"] := fun _ _ _ _ _ _ us ws hl hk => match us, ws, hl, hk with | [], [_, _], _, _ => rfl

theorem bdk_undone_0 : Bndk s_undone "undone" ["deeds", "row"] 0 ["deeds", "row"] := fun _ _ _ _ _ _ us ws hl hk => match us, ws, hl, hk with | [], [_, _], _, _ => rfl

theorem bdk_sums_0 : Bndk s_sums "sums" ["deeds", "row"] 0 ["deeds", "row"] := fun _ _ _ _ _ _ us ws hl hk => match us, ws, hl, hk with | [], [_, _], _, _ => rfl

theorem bdk_beside_1 : Bndk s_beside "beside" ["deeds", "one", "other"] 1 ["one", "other"] := fun _ _ _ _ _ _ us ws hl hk => match us, ws, hl, hk with | [_], [_, _], _, _ => rfl

theorem bdk_times_row_1 : Bndk s_times_row "times_row" ["deeds", "row", "many"] 1 ["row", "many"] := fun _ _ _ _ _ _ us ws hl hk => match us, ws, hl, hk with | [_], [_, _], _, _ => rfl

theorem bdk_is_row_0 : Bndk s_is_row "is_row" ["deeds", "value"] 0 ["deeds", "value"] := fun _ _ _ _ _ _ us ws hl hk => match us, ws, hl, hk with | [], [_, _], _, _ => rfl

def spLaw (K : PySem.W.Frag) (Tb : List (Addr × Str)) : Sp := fun vs H Q _ => ∃ (a : Addr) (ns : List Int), vs = [.ref a] ∧ SqL K H a (ns.map V.int) ∧ ns.length ≤ 63 ∧ LamX.Tabs Tb H ∧ ∀ H', Q (.bl true) H'
theorem map_int {xs ys : List Int} (h : xs.map V.int = ys.map V.int) : xs = ys := by
  have e : (xs.map V.int).map (fun v => match v with | .int i => i | _ => 0) = (ys.map V.int).map (fun v => match v with | .int i => i | _ => 0) := by rw [h]
  simpa [List.map_map, Function.comp_def] using e
section
variable {H : Hp} {Q : VK} {E : XK} {n : Int} {a b : Addr} {xs ys : List Int} {v : V} {d : Dat}
theorem deeds_in (n1 : 1 ≤ n) (n4 : n ≤ 4) : (Dat.flat (.int n)).from 1 4 = true := by
  show (decide (1 ≤ n) && decide (n ≤ 4)) = true
  rw [decide_eq_true n1, decide_eq_true n4] <;> rfl
theorem rp_int {xs : List Int} (h : SqT K H a (xs.map V.int)) (hl : xs.length ≤ 20000) : Rp K H (.ref a) (.tup (xs.map V.int)) := ⟨a, rfl, h, okI hl⟩
theorem no_deeds {p : Prop} (n1 : 1 ≤ n) (n4 : n ≤ 4) (e : (Dat.flat (.int n)).from 1 4 = false) : p := by
  rw [deeds_in n1 n4] at e
  cases e
theorem no_row {p : Prop} (l : xs.length ≤ 200) (le : LetS n xs) (e : (Dat.tup (xs.map V.int)).row n = false) : p := by
  rw [le.row l] at e
  cases e
theorem is_of (n1 : 1 ≤ n) (n4 : n ≤ 4) (r : Rp K H v d) (h : ∀ H', Same H H' → Q (.bl (d.row n)) H') : spIsRow K [.int n, v] H Q E :=
  ⟨.int n, .flat (.int n), v, d, rfl, ⟨rfl, rfl⟩, r, fun e => no_deeds n1 n4 e, fun k e1 _ => by
    cases e1
    exact h⟩
theorem one_of {gf : Int → List Int → List Int} (n1 : 1 ≤ n) (n4 : n ≤ 4) (t : SqT K H a (xs.map V.int)) (l : xs.length ≤ 200) (le : LetS n xs) (h : ∀ p H', Same H H' → Tp H' p ((gf n xs).map V.int) → Q (.ref p) H') : spOne K gf [.int n, .ref a] H Q E :=
  ⟨.int n, .flat (.int n), .ref a, _, rfl, ⟨rfl, rfl⟩, rp_int t (by omega), fun e => no_deeds n1 n4 e, fun k e1 _ => by
    cases e1
    exact ⟨fun e => no_row l le e, fun zs e2 _ => by
      obtain rfl := map_int (Dat.tup.inj e2)
      exact h⟩⟩
theorem beside_of (n1 : 1 ≤ n) (n4 : n ≤ 4) (t1 : SqT K H a (xs.map V.int)) (l1 : xs.length ≤ 200) (le1 : LetS n xs) (t2 : SqT K H b (ys.map V.int)) (l2 : ys.length ≤ 200) (le2 : LetS n ys)
    (h : ∀ p H', Same H H' → Tp H' p ((red (red xs ++ red ys)).map V.int) → Q (.ref p) H') : spBeside K [.int n, .ref a, .ref b] H Q E :=
  ⟨.int n, .flat (.int n), .ref a, _, .ref b, _, rfl, ⟨rfl, rfl⟩, rp_int t1 (by omega), rp_int t2 (by omega), fun e => no_deeds n1 n4 e, fun k e1 _ => by
    cases e1
    exact ⟨fun e => no_row l1 le1 e, fun e => no_row l2 le2 e, fun zs ws e2 _ e3 _ => by
      obtain rfl := map_int (Dat.tup.inj e2)
      obtain rfl := map_int (Dat.tup.inj e3)
      exact h⟩⟩
theorem times_of {m : Int} (n1 : 1 ≤ n) (n4 : n ≤ 4) (t : SqT K H a (xs.map V.int)) (l : xs.length ≤ 200) (le : LetS n xs) (m1 : -20 ≤ m) (m2 : m ≤ 20)
    (h : ∀ p H', Same H H' → Tp H' p ((times (red xs) m).map V.int) → Q (.ref p) H') : spTimes K [.int n, .ref a, .int m] H Q E :=
  ⟨.int n, .flat (.int n), .ref a, _, .int m, .flat (.int m), rfl, ⟨rfl, rfl⟩, rp_int t (by omega), ⟨rfl, rfl⟩, fun e => no_deeds n1 n4 e, fun k e1 _ => by
    cases e1
    refine ⟨fun e => no_row l le e, fun _ e => ?_, fun zs k2 e2 _ e3 _ => ?_⟩
    · have e2 : (decide (-20 ≤ m) && decide (m ≤ 20)) = false := e
      rw [decide_eq_true m1, decide_eq_true m2] at e2
      cases e2
    · obtain rfl := map_int (Dat.tup.inj e2)
      cases e3
      exact h⟩
end
theorem sums_red (n : Int) (xs : List Int) : sumsOf n (red xs) = sumsOf n xs := by
  unfold sumsOf
  apply List.map_congr_left
  intro i _
  exact bal_red _ (by omega) xs
theorem three_ways (x y : List Int) : red (red (red (red x ++ red y)) ++ red x) = red (x ++ y ++ x) ∧ red (red x ++ red (red (red y ++ red x))) = red (x ++ y ++ x) := by
  have e : ∀ u v : List Int, red (red u ++ red v) = red (u ++ v) := fun u v => by rw [red_left, red_right]
  constructor
  · rw [e x y, red_red, red_left, red_right]
  · rw [e y x, red_red, red_left, red_right, List.append_assoc]
theorem tp_upd {H : Hp} {p D : Addr} {xs ys : List V} {o : HO} (h : Tp H p xs) (hD : H D = some (.lst ys)) : Tp (upd H D o) p xs := by
  obtain ⟨q, e, r⟩ := h
  exact ⟨q, by rw [upd_ne (ne_of e hD (by intro z; cases z))]; exact e, r⟩
abbrev s_law : Stmt := top 46
abbrev N_law : List Str := ["script", "state", "turn", "deeds", "one", "other", "third", "mine", "mate", "many", "due", "some", "lap", "deed"]
theorem sc_law : FnScope ["script", "state", "turn", "deeds", "one", "other", "third", "mine", "mate", "many", "due", "some", "lap", "deed"] ["script"] (defScope s_law) := ⟨rfl, rfl, rfl, by decide +kernel, rfl, by decide +kernel, by decide +kernel⟩
theorem bd_law : Bnd s_law "law" ["script"] := fun _ _ _ _ _ _ us hl => match us, hl with | [_], _ => rfl

theorem ok_law {Tb : List (Addr × Str)} {f : Addr} {fd : FuncData} (T : Bs K mg) (F : FunD K "law" "law" (defArgs s_law) (defBody s_law) (defScope s_law) [] [] f fd)
    (D__law_begun : Df P w K mg base CX0 1 "_law_begun" s__law_begun ["script"] (spBegun K))
    (D__law_draw : Df P w K mg base CX0 2 "_law_draw" s__law_draw ["state", "room"] (spDraw K))
    (D__law_mk_plain : Df P w K mg base CX0 1 "_law_mk_plain" s__law_mk_plain ["letters"] (spPlain K))
    (D__law_mk_undone : Df P w K mg base CX0 1 "_law_mk_undone" s__law_mk_undone ["row"] (spUndone K))
    (D__law_mk_bad_row : Df P w K mg base CX0 5 "_law_mk_bad_row" s__law_mk_bad_row ["state", "deeds"] (spBadRow K))
    (D__law_mr_row : Df P w K mg base CX0 6 "_law_mr_row" s__law_mr_row ["state", "deeds"] (spMrRow K))
    (D__law_mr_long : Df P w K mg base CX0 6 "_law_mr_long" s__law_mr_long ["state", "deeds"] (spMrLong K))
    (D__law_mr_same : Df P w K mg base CX0 2 "_law_mr_same" s__law_mr_same ["found", "due"] (spSame K))
    (D__law_mr_times : Df P w K mg base CX0 2 "_law_mr_times" s__law_mr_times ["row", "many"] (spMrTimes K))
    (D__law_mr_faults : Df P w K mg base CX0 10 "_law_mr_faults" s__law_mr_faults ["state", "deeds"] (spFaults K Tb))
    (D_is_row : Df P w K mg base (L2.CX P w) 7 "is_row" s_is_row ["deeds", "value"] (spIsRow K))
    (D_plain : Df P w K mg base (L2.CX P w) 7 "plain" s_plain ["deeds", "row"] (spOne K fun _ xs => red xs))
    (D_undone : Df P w K mg base (L2.CX P w) 7 "undone" s_undone ["deeds", "row"] (spOne K fun _ xs => inv (red xs)))
    (D_beside : Df P w K mg base (L2.CX P w) 7 "beside" s_beside ["deeds", "one", "other"] (spBeside K))
    (D_times_row : Df P w K mg base (L2.CX P w) 7 "times_row" s_times_row ["deeds", "row", "many"] (spTimes K))
    (D_sums : Df P w K mg base (L2.CX P w) 7 "sums" s_sums ["deeds", "row"] (spOne K fun n xs => sumsOf n (red xs))) :
    FnOk P w K mg base CX0 12 f fd ["script"] (spLaw K Tb) := by
  refine mk0F F sc_law (fun vs H Q E h => ?_) fun cdv A outer sh H vs Q E hr h => ?_
  · obtain ⟨a, ns, rfl, _⟩ := h; rfl
  obtain ⟨a, ns, rfl, hS, hl, hT, q⟩ := h
  refine ⟨_, (pss_cons (ps_set (i := 1) sc_law.nd rfl (Or.inr rfl) (pe_d D__law_begun hr (by decide) (by rfl) pass0 (pa_cons (pv 0) pa_nil)))
      (pss_cons (ps_for PassesOwn.never rfl (pi_range1 (by rfl) T.n_range (pa_cons (pe_op op_addU pe_int (pe_callB (call_min2 rfl) (by rfl) T.n_min (by decide +kernel) (pa_cons (pe_callB call_len (by rfl) T.n_len (by decide +kernel) (pa_cons (pv 0) pa_nil)) (pa_cons pe_int pa_nil)))) pa_nil)) (pg_name (i := 2) sc_law.nd rfl (Or.inl rfl))
        (pss_cons (ps_set (i := 3) sc_law.nd rfl (Or.inr rfl) (pe_op op_addU pe_int (pe_d D__law_draw hr (by decide) (by rfl) pass0 (pa_cons (pv 1) (pa_cons pe_int pa_nil)))))
        (pss_cons (ps_asg (pe_lc (own := [("lap", 12)]) rfl sc_law.nd (pi_range1 (by rfl) T.n_range (pa_cons pe_int pa_nil)) (blkOk_by (own := [("lap", 12)]) (N := ["script", "state", "turn", "deeds", "one", "other", "third", "mine", "mate", "many", "due", "some", "lap", "deed"]) (sc := defScope s_law) (by decide +kernel)) (fun _ _ _ _ _ => (pg_name (i := 12) sc_law.nd rfl (Or.inl rfl))) (fun _ _ _ _ _ => pts_nil) (fun _ _ _ _ _ => (pe_d D__law_mr_row hr (by decide) (by rfl) pass0 (pa_cons (pv 1) (pa_cons (pv 3) pa_nil))))) (pg_lst (by rfl) (pgs_cons (pg_name (i := 4) sc_law.nd rfl (Or.inr rfl)) (pgs_cons (pg_name (i := 5) sc_law.nd rfl (Or.inl rfl)) (pgs_cons (pg_name (i := 6) sc_law.nd rfl (Or.inl rfl)) pgs_nil)))))
        (pss_cons (ps_if (pt_cmpR (op_eqU hr.units) (pe_d D__law_draw hr (by decide) (by rfl) pass0 (pa_cons (pv 1) (pa_cons pe_int pa_nil))) pe_int (nomark _)) (pss_one (ps_set (i := 4) sc_law.nd rfl (Or.inr rfl) (pe_d D__law_mr_long hr (by decide) (by rfl) pass0 (pa_cons (pv 1) (pa_cons (pv 3) pa_nil))))) pss_nil)
        (pss_cons (ps_par (i := 7) (j := 8) rfl sc_law.nd rfl rfl (by decide) rfl rfl (pa_cons (pe_d D__law_mk_plain hr (by decide) (by rfl) pass0 (pa_cons (pv 4) pa_nil)) (pa_cons (pe_d D__law_mk_plain hr (by decide) (by rfl) pass0 (pa_cons (pv 5) pa_nil)) pa_nil)) (by rfl))
        (pss_cons (ps_set (i := 9) sc_law.nd rfl (Or.inl rfl) (pe_op op_sub (pe_d D__law_draw hr (by decide) (by rfl) pass0 (pa_cons (pv 1) (pa_cons pe_int pa_nil))) pe_int))
        (pss_cons (ps_if (pt_not (pt_tru (pe_d D__law_mr_same hr (by decide) (by rfl) pass0 (pa_cons (pe_dk0 D_plain bdk_plain_0 hr (by decide) (by rfl) passL (pk_cons (pv 3) (pk_cons (pv 4) pk_nil))) (pa_cons (pv 7) pa_nil))) (by intro _; rfl))) (pss_one (ps_ret pe_bl)) pss_nil)
        (pss_cons (ps_if (pt_not (pt_tru (pe_d D__law_mr_same hr (by decide) (by rfl) pass0 (pa_cons (pe_dk0 D_undone bdk_undone_0 hr (by decide) (by rfl) passL (pk_cons (pv 3) (pk_cons (pv 4) pk_nil))) (pa_cons (pe_d D__law_mk_undone hr (by decide) (by rfl) pass0 (pa_cons (pv 7) pa_nil)) pa_nil))) (by intro _; rfl))) (pss_one (ps_ret pe_bl)) pss_nil)
        (pss_cons (ps_if (pt_not (pt_tru (pe_d D__law_mr_same hr (by decide) (by rfl) pass0 (pa_cons (pe_dk D_beside bdk_beside_1 hr (by decide) (by rfl) passL (pa_cons (pv 3) pa_nil) (pk_cons (pv 4) (pk_cons (pv 5) pk_nil))) (pa_cons (pe_d D__law_mk_plain hr (by decide) (by rfl) pass0 (pa_cons (pe_op op_addU (pv 7) (pv 8)) pa_nil)) pa_nil))) (by intro _; rfl))) (pss_one (ps_ret pe_bl)) pss_nil)
        (pss_cons (ps_if (pt_not (pt_tru (pe_d D__law_mr_same hr (by decide) (by rfl) pass0 (pa_cons (pe_dk D_times_row bdk_times_row_1 hr (by decide) (by rfl) passL (pa_cons (pv 3) pa_nil) (pk_cons (pv 4) (pk_cons (pv 9) pk_nil))) (pa_cons (pe_d D__law_mr_times hr (by decide) (by rfl) pass0 (pa_cons (pv 7) (pa_cons (pv 9) pa_nil))) pa_nil))) (by intro _; rfl))) (pss_one (ps_ret pe_bl)) pss_nil)
        (pss_cons (ps_setLc (i := 10) (own := [("deed", 13)]) rfl sc_law.nd rfl rfl (sw_true rfl rfl rfl (by decide +kernel)) (pi_range2 (by rfl) T.n_range (pa_cons pe_int (pa_cons (pe_op op_addU (pv 3) pe_int) pa_nil))) (blkOk_by (own := [("deed", 13)]) (N := ["script", "state", "turn", "deeds", "one", "other", "third", "mine", "mate", "many", "due", "some", "lap", "deed"]) (sc := defScope s_law) (by decide +kernel)) (fun _ _ _ _ _ => (pg_name (i := 13) sc_law.nd rfl (Or.inl rfl))) (fun _ _ _ _ _ => pts_nil) (fun _ _ _ _ _ => (pe_op op_sub (pe_cnt (pv 4) (pv 13)) (pe_cnt (pv 4) (pe_op op_sub pe_int (pv 13))))))
        (pss_cons (ps_if (pt_not (pt_tru (pe_d D__law_mr_same hr (by decide) (by rfl) pass0 (pa_cons (pe_dk0 D_sums bdk_sums_0 hr (by decide) (by rfl) passL (pk_cons (pv 3) (pk_cons (pv 4) pk_nil))) (pa_cons (pe_callTy call_tupN (by rfl) T.n_tuple (by decide +kernel) (pa_cons (pv 10) pa_nil)) pa_nil))) (by intro _; rfl))) (pss_one (ps_ret pe_bl)) pss_nil)
        (pss_cons (ps_set (i := 11) sc_law.nd rfl (Or.inl rfl) (pe_d D_beside hr (by decide) (by rfl) passL (pa_cons (pv 3) (pa_cons (pe_d D_beside hr (by decide) (by rfl) passL (pa_cons (pv 3) (pa_cons (pv 5) (pa_cons (pv 6) pa_nil)))) (pa_cons (pv 5) pa_nil)))))
        (pss_cons (ps_if (PW.pt (pw_or (pt_cmpR (op_neU hr.units) (pv 11) (pe_d D_beside hr (by decide) (by rfl) passL (pa_cons (pv 3) (pa_cons (pv 5) (pa_cons (pe_d D_beside hr (by decide) (by rfl) passL (pa_cons (pv 3) (pa_cons (pv 6) (pa_cons (pv 5) pa_nil)))) pa_nil)))) (nomark _)) (pw_or1 (pt_cmpR (op_neU hr.units) (pv 11) (pe_d D__law_mk_plain hr (by decide) (by rfl) pass0 (pa_cons (pe_op op_addU (pe_op op_addU (pv 5) (pv 6)) (pv 5)) pa_nil)) (nomark _))))) (pss_one (ps_ret pe_bl)) pss_nil)
        (pss_cons (ps_if (PW.pt (pw_or (pt_cmpR op_notBl (pe_d D_is_row hr (by decide) (by rfl) passL (pa_cons (pv 3) (pa_cons (pv 4) pa_nil))) pe_bl (nomark _)) (pw_or1 (pt_cmpR op_notBl (pe_dk0 D_is_row bdk_is_row_0 hr (by decide) (by rfl) passL (pk_cons (pv 3) (pk_cons (pv 7) pk_nil))) pe_bl (nomark _))))) (pss_one (ps_ret pe_bl)) pss_nil)
        (pss_cons (ps_if (PW.pt (pw_or (pt_cmpR op_notBl (pe_d D_is_row hr (by decide) (by rfl) passL (pa_cons (pv 3) (pa_cons (pe_d D__law_mk_bad_row hr (by decide) (by rfl) pass0 (pa_cons (pv 1) (pa_cons (pv 3) pa_nil))) pa_nil))) pe_bl (nomark _)) (pw_or1 (pt_cmpR op_notBl (pe_d D_is_row hr (by decide) (by rfl) passL (pa_cons (pv 3) (pa_cons (pe_callTy call_list_of (by rfl) T.n_list (by decide +kernel) (pa_cons (pv 4) pa_nil)) pa_nil))) pe_bl (nomark _))))) (pss_one (ps_ret pe_bl)) pss_nil)
        (pss_one (ps_if (PW.pt (pw_or (pt_cmpR op_notBl (pe_d D_is_row hr (by decide) (by rfl) passL (pa_cons (pv 3) (pa_cons (pe_op op_mulU (pe_tup (pa_cons (pe_op op_sub pe_int (pv 3)) pa_nil)) pe_int) pa_nil))) pe_bl (nomark _)) (pw_or1 (pt_not (pt_tru (pe_d D__law_mr_faults hr (by decide) (by rfl) pass0 (pa_cons (pv 1) (pa_cons (pv 3) pa_nil))) (by intro _; rfl)))))) (pss_one (ps_ret pe_bl)) pss_nil))))))))))))))))))
      (pss_one (ps_ret pe_bl)))), ?_⟩
  walk_at "rd"
  refine ⟨a, ns, rfl, hS, by omega, fun s g c H1 s1 S1 => ?_⟩
  walk_at "rd"
  have T1 := tabs_same hT s1
  refine rd_for ?_
  walk_at "rd"
  refine lenL (s1.seq hS) ?_
  walk_at "rd"
  refine ⟨((ns.map V.int).length : Nat), 4, rfl, ?_⟩
  refine rd_addI ?_
  walk_at "rd"
  refine ⟨by omega, by omega, ?_⟩
  refine for_range (fun i σ H' => ∃ (y2 y3 y4 y5 y6 y7 y8 y9 y10 y11 y12 y13 : Option V), σ = [some (.ref a), some (.ref s), y2, y3, y4, y5, y6, y7, y8, y9, y10, y11, y12, y13] ∧ StAt (1000 * i) H' s g c ∧ LamX.Tabs Tb H')
    ⟨_, _, _, _, _, _, _, _, _, _, _, _, rfl, S1, T1⟩ (fun i σ H' hi h => ?_) (fun σ H' h => ?_)
  rotate_left
  · obtain ⟨y2, y3, y4, y5, y6, y7, y8, y9, y10, y11, y12, y13, rfl, S2, T2⟩ := h
    walk_at "rd"
    exact q H'
  obtain ⟨y2, y3, y4, y5, y6, y7, y8, y9, y10, y11, y12, y13, rfl, S2, T2⟩ := h
  have hi7 : i < 7 := by
    have e : (if (4 : Int) < ((ns.map V.int).length : Nat) then (4 : Int) else ((ns.map V.int).length : Nat)) ≤ 4 := by split <;> omega
    omega
  clear hT T1 S1 s1 hS
  walk_at "rd"
  refine ⟨s, g, c, 1000 * i, 4, rfl, S2, by omega, by omega, by omega, fun r H3 r0 r1 S3 k3 => ?_⟩
  refine rd_addI ?_
  have T3 := tabs_kept T2 k3 S2
  obtain ⟨n, en⟩ : ∃ n, n = 1 + r := ⟨_, rfl⟩
  rw [← en]
  have n1 : 1 ≤ n := by omega
  have n4 : n ≤ 4 := by omega
  clear k3 S2 T2
  walk_at "rd"
  refine ⟨by omega, by omega, fun D hD => ?_⟩
  have Dg := S3.ne_n hD
  refine lc_it walk_range (fun j H' => ∃ ps : List Addr, H' D = some (.lst (ps.map V.ref)) ∧ ps.length = j ∧ (∀ p ∈ ps, ∃ xs, Tp H' p (xs.map V.int) ∧ xs.length ≤ 18 ∧ LetS n xs) ∧ StAt (1000 * i + 1 + 60 * j) H' s g c ∧ XE.Kept s g H3 H')
    ⟨[], upd_same, rfl, (fun p hp => nomatch hp), S3.same (same_new hD), XE.Kept.of (same_new hD)⟩ (fun _ _ _ _ => True.intro) (fun j x H4 H5 hj pv y => ?_) fun H4 h4 => ?_
  · obtain ⟨ps, eD, hl2, hps, S4, k4⟩ := pv
    obtain ⟨rfl, ex⟩ := y
    walk_at "rd"
    refine ⟨rfl, ?_⟩
    walk_at "rd"
    refine iteT ?_
    walk_at "rd"
    refine ⟨s, g, c, 1000 * i + 1 + 60 * j, n, rfl, S4, by omega, n1, n4, fun p xs H6 S6 k6 t6 l6 e6 => ?_⟩
    have eD6 := k6.lst S4 eD Dg
    refine ⟨_, eD6, lzl (by rw [List.length_map]; omega), ps ++ [p], by rw [upd_same]; simp, by simp [hl2], fun p2 hp2 => ?_, StAt.mut S3 hD (S6.mono (by omega)), (k4.trans k6).mut hD⟩
    rcases List.mem_append.mp hp2 with h | h
    · obtain ⟨xs2, a1, a2, a3⟩ := hps p2 h
      exact ⟨xs2, tp_upd (k6.tp S4 a1) eD6, a2, a3⟩
    · rw [List.mem_singleton.mp h]
      exact ⟨xs, tp_upd t6 eD6, l6, e6⟩
  obtain ⟨ps, eD, hl2, hps, S4, k4⟩ := h4
  obtain ⟨q1, q2, q3, rfl⟩ : ∃ q1 q2 q3, ps = [q1, q2, q3] := by
    match ps, hl2 with
    | [q1, q2, q3], _ => exact ⟨q1, q2, q3, rfl⟩
  obtain ⟨x1, t1, l1, e1⟩ := hps q1 (by simp)
  obtain ⟨x2, t2, l2, e2⟩ := hps q2 (by simp)
  obtain ⟨x3, t3, l3, e3⟩ := hps q3 (by simp)
  have T4 := tabs_kept T3 k4 S3
  refine ⟨D, [.ref q1, .ref q2, .ref q3], rfl, .inl (.inl eD), rfl, ?_⟩
  walk_at "rd"
  refine ⟨s, g, c, 1000 * i + 1 + 60 * 3, 8, rfl, S4, by omega, by omega, by omega, fun r5 H5 _ _ S5 k5 => ?_⟩
  walk_at "rd"
  refine rd_eqI ?_
  walk_at "rd"
  have T5 := tabs_kept T4 k5 S4
  have t1 := k5.tp S4 t1
  have t2 := k5.tp S4 t2
  have t3 := k5.tp S4 t3
  clear hps k4 k5 eD S4 T4 T3 S3
  refine rd_joinS (C := fun σ H6 => ∃ (q1 : Addr) (x1 : List Int), σ = [some (.ref a), some (.ref s), some (.int (0 + (i : Int))), some (.int n), some (.ref q1), some (.ref q2), some (.ref q3), y7, y8, y9, y10, y11, y12, y13] ∧ StAt (1000 * i + 300) H6 s g c ∧ LamX.Tabs Tb H6 ∧
    Tp H6 q1 (x1.map V.int) ∧ x1.length ≤ 200 ∧ LetS n x1 ∧ Tp H6 q2 (x2.map V.int) ∧ Tp H6 q3 (x3.map V.int)) (fun σ H6 hc => ?_) fun key => ?_
  rotate_left
  · refine rd_ite (fun e => ?_) fun e => ?_
    · walk_at "rd"
      refine ⟨s, g, c, 1000 * i + 1 + 60 * 3 + 1, n, rfl, S5, by omega, n1, n4, fun p xs H6 S6 k6 t6 l6 e6 => ?_⟩
      exact key _ _ ⟨p, xs, rfl, S6.mono (by omega), tabs_kept T5 k6 S5, t6, l6, e6, k6.tp S5 t2, k6.tp S5 t3⟩
    · exact key _ _ ⟨q1, x1, rfl, S5.mono (by omega), T5, t1, by omega, e1, t2, t3⟩
  clear t1 t2 t3 l1 e1 S5 T5
  obtain ⟨q1, x1, rfl, S6, T6, t1, l1, e1, t2, t3⟩ := hc
  have w1 := red_len x1
  have w2 := red_len x2
  dsimp only
  walk_at "rd"
  refine ⟨q1, x1, rfl, t1.sqT, by omega, fun pm H7 s7 tm => ?_⟩
  walk_at "rd"
  refine ⟨q2, x2, rfl, (t2.same s7).sqT, by omega, fun pn H8 s8 tn => ?_⟩
  walk_at "rd"
  have z8 := s7.trans s8
  refine ⟨s, g, c, 1000 * i + 300, 41, rfl, S6.same z8, by omega, by omega, by omega, fun rm H9 m0 m1 S9 k9 => ?_⟩
  walk_at "rd"
  obtain ⟨m, em⟩ : ∃ m, m = rm - 20 := ⟨_, rfl⟩
  rw [← em]
  have t1 := k9.tp (S6.same z8) (t1.same z8)
  have t2 := k9.tp (S6.same z8) (t2.same z8)
  have t3 := k9.tp (S6.same z8) (t3.same z8)
  have tm := k9.tp (S6.same z8) (tm.same s8)
  have tn := k9.tp (S6.same z8) tn
  have T9 := tabs_kept (tabs_same T6 z8) k9 (S6.same z8)
  clear S6 T6 k9 s7 s8 z8
  -- plain
  refine ⟨rfl, rfl, ?_⟩
  refine one_of n1 n4 t1.sqT l1 e1 fun p H10 s10 t10 => ?_
  walk_at "rd"
  refine ⟨p, pm, red x1, red x1, rfl, t10.sqT, (tm.same s10).sqT, by omega, fun H11 s11 => ?_⟩
  rw [decide_eq_true rfl]
  refine truB ?_
  refine iteF ?_
  have z := s10.trans s11
  -- undone
  walk_at "rd"
  refine ⟨rfl, rfl, ?_⟩
  refine one_of n1 n4 (t1.same z).sqT l1 e1 fun p H12 s12 t12 => ?_
  walk_at "rd"
  have z := z.trans s12
  refine ⟨pm, red x1, rfl, (tm.same z).sqT, by omega, fun p2 H13 s13 t13 => ?_⟩
  walk_at "rd"
  have w3 := inv_len (red x1)
  refine ⟨p, p2, inv (red x1), inv (red x1), rfl, (t12.same s13).sqT, t13.sqT, by omega, fun H14 s14 => ?_⟩
  rw [decide_eq_true rfl]
  refine truB ?_
  refine iteF ?_
  have z := z.trans (s13.trans s14)
  -- beside
  walk_at "rd"
  refine ⟨rfl, rfl, ?_⟩
  refine beside_of n1 n4 (t1.same z).sqT l1 e1 (t2.same z).sqT (by omega) e2 fun p H15 s15 t15 => ?_
  walk_at "rd"
  have z := z.trans s15
  refine catS (tm.same z).sqT (tn.same z).sqT (by simp only [List.length_map]; omega) fun p2 H16 s16 t16 => ?_
  walk_at "rd"
  refine ⟨p2, red x1 ++ red x2, rfl, by rw [List.map_append]; exact t16, by simp only [List.length_append]; omega, fun p3 H17 s17 t17 => ?_⟩
  walk_at "rd"
  have w4 := red_len (red x1 ++ red x2)
  simp only [List.length_append] at w4
  refine ⟨p, p3, red (red x1 ++ red x2), red (red x1 ++ red x2), rfl, (t15.same (s16.trans s17)).sqT, t17.sqT, by omega, fun H18 s18 => ?_⟩
  rw [decide_eq_true rfl]
  refine truB ?_
  refine iteF ?_
  have z := z.trans (s16.trans (s17.trans s18))
  -- times_row
  walk_at "rd"
  refine ⟨rfl, rfl, ?_⟩
  refine times_of n1 n4 (t1.same z).sqT l1 e1 (by omega) (by omega) fun p H19 s19 t19 => ?_
  walk_at "rd"
  have z := z.trans s19
  refine ⟨pm, red x1, m, rfl, (tm.same z).sqT, by omega, by omega, by omega, fun p2 H20 s20 t20 => ?_⟩
  walk_at "rd"
  have w5 : (times (red x1) m).length ≤ 10000 := by
    unfold times
    split
    · have h1 := red_len (rep (-m) (inv (red x1)))
      have h2 : (rep (-m) (inv (red x1))).length = (-m).toNat * (inv (red x1)).length := flat_len _ _
      have h3 : (-m).toNat * (inv (red x1)).length ≤ 20 * 200 := Nat.mul_le_mul (by omega) (by omega)
      omega
    · have h1 := red_len (rep m (red x1))
      have h2 : (rep m (red x1)).length = m.toNat * (red x1).length := flat_len _ _
      have h3 : m.toNat * (red x1).length ≤ 20 * 200 := Nat.mul_le_mul (by omega) (by omega)
      omega
  refine ⟨p, p2, times (red x1) m, times (red x1) m, rfl, (t19.same s20).sqT, t20.sqT, w5, fun H21 s21 => ?_⟩
  rw [decide_eq_true rfl]
  refine truB ?_
  refine iteF ?_
  have z := z.trans (s20.trans s21)
  -- sums
  walk_at "rd"
  refine rd_addI ?_
  walk_at "rd"
  refine ⟨1, n + 1, rfl, ⟨by omega, by omega, by omega, by omega⟩, fun D2 hD2 => ?_⟩
  rw [show (n + 1 - 1).toNat = n.toNat by omega]
  refine lc_pure walk_range hD2 ((List.range n.toNat).map fun (i : Nat) => V.int (1 + (i : Int))) (fun _ => true) (fun x => match x with | .int i => .int (bal i x1) | y => y) (by simp) (by omega) (fun _ _ => True.intro)
    (fun i H x H' hi y => ⟨y.1, by rw [y.2]; simp [hi]⟩) (fun x H' hx e2 R R0 g1 g0 => ?_) fun H22 e22 hD22 => ?_
  · obtain ⟨v, rfl⟩ : ∃ z, x = .int z := by
      obtain ⟨i, _, rfl⟩ := List.mem_map.mp hx
      exact ⟨_, rfl⟩
    have ta := t1.same (z.trans e2)
    walk_at "rd"
    refine ⟨rfl, ?_⟩
    walk_at "rd"
    refine iteT ?_
    walk_at "rd"
    refine ⟨q1, x1, rfl, ta, ?_⟩
    walk_at "rd"
    refine ⟨ta, ?_⟩
    walk_at "rd"
    refine ⟨q1, x1, rfl, ta, ?_⟩
    walk_at "rd"
    refine ⟨ta, ?_⟩
    walk_at "rd"
    rw [Int.zero_sub]
    have g1 : ∀ H'', Same H' H'' → R (.int (bal v x1)) H'' := g1 rfl
    exact g1 H' (Same.refl _)
  rw [List.filter_eq_self.mpr fun _ _ => rfl, List.map_map, show ((fun x => match x with | V.int i => V.int (bal i x1) | y => y) ∘ fun (i : Nat) => V.int (1 + (i : Int))) = V.int ∘ (fun (i : Nat) => bal (1 + (i : Int)) x1) from rfl, ← List.map_map] at hD22
  have hD22 : H22 D2 = some (.lst ((sumsOf n x1).map V.int)) := hD22
  have z := z.trans e22
  walk_at "rd"
  refine ⟨rfl, rfl, ?_⟩
  refine one_of n1 n4 (t1.same z).sqT l1 e1 fun p H23 s23 t23 => ?_
  rw [sums_red] at t23
  walk_at "rd"
  refine rd_tupOfL (.inl (.inl (s23 _ _ hD22))) fun p2 o hp2 ho hd => ?_
  have t24 : Tp (upd H23 p2 (.frz o (.tup ((sumsOf n x1).map V.int)))) p2 ((sumsOf n x1).map V.int) := ⟨o, upd_same, ho, hd⟩
  have s24 : Same H23 (upd H23 p2 (.frz o (.tup ((sumsOf n x1).map V.int)))) := same_new hp2
  generalize upd H23 p2 (.frz o (.tup ((sumsOf n x1).map V.int))) = H24 at s24 t24 ⊢
  walk_at "rd"
  refine ⟨p, p2, sumsOf n x1, sumsOf n x1, rfl, (t23.same s24).sqT, t24.sqT, by simp [sumsOf]; omega, fun H25 s25 => ?_⟩
  rw [decide_eq_true rfl]
  refine truB ?_
  refine iteF ?_
  have z := z.trans (s23.trans (s24.trans s25))
  -- three rows
  walk_at "rd"
  have lr : ∀ {u v : List Int}, u.length ≤ 60 → v.length ≤ 60 → (red (red u ++ red v)).length ≤ 200 := fun {u v} hu hv => by
    have h1 := red_len (red u ++ red v)
    have h2 := red_len u
    have h3 := red_len v
    simp only [List.length_append] at h1
    omega
  have lr2 : ∀ {u v : List Int}, u.length ≤ 18 → v.length ≤ 18 → (red (red u ++ red v)).length ≤ 60 := fun {u v} hu hv => by
    have h1 := red_len (red u ++ red v)
    have h2 := red_len u
    have h3 := red_len v
    simp only [List.length_append] at h1
    omega
  obtain ⟨way1, way2⟩ := three_ways x2 x3
  refine beside_of n1 n4 (t2.same z).sqT (by omega) e2 (t3.same z).sqT (by omega) e3 fun p H26 s26 t26 => ?_
  walk_at "rd"
  have z := z.trans s26
  refine beside_of n1 n4 t26.sqT (by have := lr2 l2 l3; omega) ((e2.red.app e3.red).red) (t2.same z).sqT (by omega) e2 fun p2 H27 s27 t27 => ?_
  walk_at "rd"
  have z := z.trans s27
  rw [way1] at t27
  refine beside_of n1 n4 (t3.same z).sqT (by omega) e3 (t2.same z).sqT (by omega) e2 fun p3 H28 s28 t28 => ?_
  walk_at "rd"
  have z := z.trans s28
  refine beside_of n1 n4 (t2.same z).sqT (by omega) e2 t28.sqT (by have := lr2 l3 l2; omega) ((e3.red.app e2.red).red) fun p4 H29 s29 t29 => ?_
  have z := z.trans s29
  rw [way2] at t29
  have t29s := t29
  refine neT ((t27.same s28).same s29).sqT t29.sqT ?_
  rw [decide_eq_true rfl]
  walk_at "rd"
  refine iteF ?_
  walk_at "rd"
  refine catS (t2.same z).sqT (t3.same z).sqT (by simp only [List.length_map]; omega) fun p5 H30 s30 t30 => ?_
  walk_at "rd"
  have z := z.trans s30
  refine catS t30 (t2.same z).sqT (by simp only [List.length_append, List.length_map]; omega) fun p6 H31 s31 t31 => ?_
  walk_at "rd"
  have z := z.trans s31
  refine ⟨p6, x2 ++ x3 ++ x2, rfl, by rw [List.map_append, List.map_append]; exact t31, by simp only [List.length_append]; omega, fun p7 H32 s32 t32 => ?_⟩
  walk_at "rd"
  have z := z.trans s32
  refine neT ((t27.same s28).same (s29.trans (s30.trans (s31.trans s32)))).sqT t32.sqT ?_
  rw [decide_eq_true rfl]
  walk_at "rd"
  refine iteF ?_
  -- is_row
  walk_at "rd"
  refine is_of n1 n4 (rp_int (t1.same z).sqT (by omega)) fun H33 s33 => ?_
  rw [e1.row l1]
  walk_at "rd"
  refine ⟨_, _, rfl, rfl, ?_⟩
  walk_at "rd"
  refine iteF ?_
  have z := z.trans s33
  walk_at "rd"
  refine ⟨rfl, rfl, ?_⟩
  refine is_of n1 n4 (rp_int (tm.same z).sqT (by omega)) fun H34 s34 => ?_
  rw [e1.red.row (by omega)]
  walk_at "rd"
  refine ⟨_, _, rfl, rfl, ?_⟩
  walk_at "rd"
  refine iteF ?_
  have z := z.trans s34
  walk_at "rd"
  refine ⟨s, g, c, 1000 * i + 300 + 1, n, rfl, S9.same z, by omega, n1, n4, fun vb db H35 rb bb gb S35 k35 => ?_⟩
  have T35 := tabs_kept (tabs_same T9 z) k35 (S9.same z)
  have t1 := k35.tp (S9.same z) (t1.same z)
  walk_at "rd"
  refine is_of n1 n4 rb fun H36 s36 => ?_
  rw [bb]
  walk_at "rd"
  refine ⟨_, _, rfl, rfl, ?_⟩
  walk_at "rd"
  refine iteF ?_
  walk_at "rd"
  refine ⟨q1, _, rfl, .inr (t1.same s36).sqT, fun k hk => ?_⟩
  obtain ⟨s37, e37⟩ := new_at (o := .lst (x1.map V.int)) hk
  walk_at "rd"
  generalize upd H36 k (.lst (x1.map V.int)) = H37 at s37 e37 ⊢
  refine is_of (d := .lst (x1.map V.int)) n1 n4 ⟨k, rfl, .inl (.inl e37)⟩ fun H38 s38 => ?_
  rw [show (Dat.lst (x1.map V.int)).row n = false from rfl]
  walk_at "rd"
  refine ⟨_, _, rfl, rfl, ?_⟩
  walk_at "rd"
  refine iteF ?_
  have z := s36.trans (s37.trans s38)
  walk_at "rd"
  refine ⟨lz (by simp), fun k2 hk2 => ?_⟩
  obtain ⟨s39, e39⟩ := new_at (o := .tup [.int (0 - n)]) hk2
  walk_at "rd"
  generalize upd H38 k2 (.tup [.int (0 - n)]) = H39 at s39 e39 ⊢
  refine repS (.inl (.inl e39)) (by omega) (by omega) (by simp) fun k3 H40 s40 t40 => ?_
  rw [show [V.int (0 - n)] = [0 - n].map V.int from rfl, flat_map] at t40
  have l40 : ((List.replicate (Int.toNat 200) [0 - n]).flatten).length ≤ 200 := by
    rw [flat_len]
    simp
  have e40 : LetS n (List.replicate (Int.toNat 200) [0 - n]).flatten := fun x hx => by
    obtain ⟨l, hl, h2⟩ := List.mem_flatten.mp hx
    rw [(List.mem_replicate.mp hl).2] at h2
    rw [List.mem_singleton.mp h2]
    omega
  walk_at "rd"
  refine is_of n1 n4 (rp_int t40 (by omega)) fun H41 s41 => ?_
  rw [e40.row l40]
  walk_at "rd"
  refine ⟨_, _, rfl, rfl, ?_⟩
  walk_at "rd"
  refine iteF ?_
  have z := z.trans (s39.trans (s40.trans s41))
  walk_at "rd"
  refine ⟨s, g, c, 1000 * i + 300 + 1 + 1, n, rfl, S35.same z, by omega, n1, n4, tabs_same T35 z, fun H42 S42 T42 => ?_⟩
  walk_at "rd"
  refine truB ?_
  refine iteF ?_
  exact ⟨_, _, _, _, _, _, _, _, _, _, _, _, rfl, S42.mono (by omega), T42⟩
end
end KP

set_option linter.all false
set_option maxRecDepth 100000
set_option maxHeartbeats 0
namespace KP
open PySem PySem.Spec PyProof.Rows L2
def topR (i : Nat) : Stmt := PySem.Challenge.pw_meankept_k00_plain_rows_and_products.main.body.getD i (.Pass ⟨0, 0, 0, 0⟩)
def dfn (x : Str) (i : Nat) : He.DefD := ⟨(x, none), x, x, defArgs (topR i), defBody (topR i), defScope (topR i), [], []⟩
def hf1 : List He.DefD := [dfn "plain_letters" 6, dfn "undone_letters" 7, dfn "is_whole" 11, dfn "is_whole_from" 12, dfn "is_letter" 13, dfn "are_letters" 14, dfn "is_letter_row" 15, dfn "check_deeds" 16, dfn "taken_row" 17, dfn "is_row" 20, dfn "plain" 21, dfn "undone" 22, dfn "beside" 23, dfn "times_row" 24]
def hf2 : List He.DefD := [dfn "sums" 25, dfn "_law_begun" 27, dfn "_law_blended" 28, dfn "_law_draw" 29, dfn "_law_pick" 30, dfn "_law_caught" 31, dfn "_law_mk_plain" 32, dfn "_law_mk_undone" 33, dfn "_law_mk_letters" 34, dfn "_law_mk_row" 35, dfn "_law_mk_raw" 36, dfn "_law_mk_bad_deeds" 37, dfn "_law_mk_bad_row" 38, dfn "_law_mr_whole" 39]
def hf3 : List He.DefD := [dfn "_law_mr_same" 40, dfn "_law_mr_times" 41, dfn "_law_mr_turned" 42, dfn "_law_mr_row" 43, dfn "_law_mr_long" 44, dfn "_law_mr_faults" 45, dfn "law" 46]
def hfn : List He.DefD := hf1 ++ hf2 ++ hf3
def hfr : List Str := ["isinstance", "int", "bool", "tuple", "list", "len", "all", "abs", "min", "range", "reversed"]
def hfx : List Str := ["KeepError", "BadDeeds", "BadNumber", "BadRow"]
def hfa : List He.Fa := hfr.map He.Fa.free ++ (hfn.map fun d => He.Fa.glo d.name) ++ hfx.map He.Fa.glo ++ hfx.map He.Fa.exc ++ [.int "MOST_DEEDS" 4, .int "MOST_LETTERS" 200, .int "MOST_TIMES" 20, .exm "BadDeeds" "KeepError" true, .exm "BadNumber" "KeepError" true, .exm "BadRow" "KeepError" true]
def htf : List He.Defn := [("_law_mr_faults", none)]
def excCB (K : PySem.W.Frag) (x : Str) : Bool := He.eqO (PySem.W.findIn K (.ref (He.ga K x)) "__getattribute__") (some (some (.builtin "BaseException.__getattribute__"))) && (He.eqO (PySem.W.findIn K (.ref (He.ga K x)) "__getattr__") (some none) &&
  (decide (PySem.W.subIn K (.ref (He.ga K x)) (.type "BaseException") = some true) && (PySem.W.hasDictIn K (He.ga K x) && (He.eqO (PySem.W.findIn K (.ref (He.ga K x)) "__class__") (some (some (.builtin "object.__class__"))) &&
  (He.eqO (PySem.W.specialIn K (.builtin "object.__class__") "__get__") (some (some (.builtin "getset_descriptor.__get__"))) && (decide (PySem.W.takesIn K (.builtin "object.__class__") = some true) && decide (PySem.W.mroIn K (He.ga K x) (.type "object") = some true)))))))
def kitB1 (K : PySem.W.Frag) (x : Str) : Bool := decide (PySem.W.kitOne K (.ref (He.ga K x)) (.ref (He.ga K x)) = some true)
def hex_ (K : PySem.W.Frag) : Bool := hfx.all (excCB K) && hfx.all (kitB1 K)
abbrev HR : PySem.W.OpenRow := PySem.W.OpenLaw.row PySem.Challenge.rw_meankept_k00_plain_rows_and_products
abbrev hk : PySem.W.Hook := He.hookX 5 hfa hfn [] htf hex_
def hob (s : PySem.W.SharedT) : He.AlX := He.obsX 5 hfa hfn [] htf hex_ (HandSHeadRun.getT s)
theorem hob_eq (s : PySem.W.SharedT) : hob s = hk.obs s.abs := He.obsX_eq (HandSHeadRun.getT_eq s)
def hl1 : List Str := ["KeepError", "BadDeeds", "BadNumber", "BadRow", "plain_letters", "undone_letters", "MOST_DEEDS", "MOST_LETTERS", "is_whole", "is_whole_from", "is_letter", "are_letters", "is_letter_row", "check_deeds", "taken_row"]
def hl2 : List Str := ["MOST_TIMES", "is_row", "plain", "undone", "beside", "times_row", "sums", "_law_begun", "_law_blended", "_law_draw", "_law_pick", "_law_caught", "_law_mk_plain", "_law_mk_undone", "_law_mk_letters"]
def hl3 : List Str := ["_law_mk_row", "_law_mk_raw", "_law_mk_bad_deeds", "_law_mk_bad_row", "_law_mr_whole", "_law_mr_same", "_law_mr_times", "_law_mr_turned", "_law_mr_row", "_law_mr_long", "_law_mr_faults"]
def hloose : List Str := hl1 ++ hl2 ++ hl3
theorem hrun (w : World) : HandSHeadRun.RunEq HR (PySem.W.view HR.prog [46]) hk hob 2600 hloose w := by
  intro os
  kernel_rfl
end KP

set_option linter.all false
set_option maxRecDepth 100000
set_option maxHeartbeats 4000000
namespace KP
open PySem PySem.Spec PyProof.Rows L2 XA XB XC XD XM XE XF XG
theorem all_of {α : Type} {l : List α} {p : α → Bool} (h : l.all p = true) (i : Nat) {x : α} (e : l[i]? = some x := by rfl) : p x = true := List.all_eq_true.mp h x (List.mem_of_getElem? e)
theorem excC_of {K : PySem.W.Frag} {x : Str} (h : excCB K x = true) : ExcC K (He.ga K x) := by
  obtain ⟨h1, h⟩ := He.ba h
  obtain ⟨h2, h⟩ := He.ba h
  obtain ⟨h3, h⟩ := He.ba h
  obtain ⟨h4, h⟩ := He.ba h
  obtain ⟨h5, h⟩ := He.ba h
  obtain ⟨h6, h⟩ := He.ba h
  obtain ⟨h7, h8⟩ := He.ba h
  exact ⟨He.eqO_ok h1, He.eqO_ok h2, of_decide_eq_true h3, h4, He.eqO_ok h5, He.eqO_ok h6, of_decide_eq_true h7, of_decide_eq_true h8⟩
section
variable {w : World} {K : PySem.W.Frag} {h : Heap} {mg : Str → Option Value}
theorem xc_of (X : K.In h) (G : h.Ns mainGlobals mg) {x : Str} (g : (He.Fa.glo x).ok K = true) (c : (He.Fa.exc x).ok K = true) (e : excCB K x = true) : Xc K mg x (He.ga K x) := by
  obtain ⟨a1, a2, a3, a4⟩ := He.exc_ok c
  exact ⟨He.glo_ok X G g, a1, a2, a3, a4, excC_of e⟩
theorem bs_of (X : K.In h) (G : h.Ns mainGlobals mg) (c : He.SaysX hfa hfn [] htf hex_ w h K) : Bs K mg := by
  have d := c.t.d
  obtain ⟨m1, m2⟩ := He.ba (show (hfx.all (excCB K) && hfx.all (kitB1 K)) = true from c.more)
  exact ⟨He.free_ok X G (d.fact 0 (f := .free "isinstance") rfl),
    He.free_ok X G (d.fact 1 (f := .free "int") rfl),
    He.free_ok X G (d.fact 2 (f := .free "bool") rfl),
    He.free_ok X G (d.fact 3 (f := .free "tuple") rfl),
    He.free_ok X G (d.fact 4 (f := .free "list") rfl),
    He.free_ok X G (d.fact 5 (f := .free "len") rfl),
    He.free_ok X G (d.fact 6 (f := .free "all") rfl),
    He.free_ok X G (d.fact 7 (f := .free "abs") rfl),
    He.free_ok X G (d.fact 8 (f := .free "min") rfl),
    He.free_ok X G (d.fact 9 (f := .free "range") rfl),
    He.free_ok X G (d.fact 10 (f := .free "reversed") rfl),
    He.int_ok X G (d.fact 54 (f := .int "MOST_DEEDS" 4) rfl),
    He.int_ok X G (d.fact 55 (f := .int "MOST_LETTERS" 200) rfl),
    He.int_ok X G (d.fact 56 (f := .int "MOST_TIMES" 20) rfl),
    xc_of X G (d.fact 46 (f := .glo "KeepError") rfl) (d.fact 50 (f := .exc "KeepError") rfl) (all_of m1 0),
    xc_of X G (d.fact 47 (f := .glo "BadDeeds") rfl) (d.fact 51 (f := .exc "BadDeeds") rfl) (all_of m1 1),
    xc_of X G (d.fact 48 (f := .glo "BadNumber") rfl) (d.fact 52 (f := .exc "BadNumber") rfl) (all_of m1 2),
    xc_of X G (d.fact 49 (f := .glo "BadRow") rfl) (d.fact 53 (f := .exc "BadRow") rfl) (all_of m1 3)⟩
theorem es_of (c : He.SaysX hfa hfn [] htf hex_ w h K) : Es K := by
  have d := c.t.d
  obtain ⟨m1, m2⟩ := He.ba (show (hfx.all (excCB K) && hfx.all (kitB1 K)) = true from c.more)
  exact ⟨He.exm_ok (d.fact 57 (f := .exm "BadDeeds" "KeepError" true) rfl), He.exm_ok (d.fact 58 (f := .exm "BadNumber" "KeepError" true) rfl), He.exm_ok (d.fact 59 (f := .exm "BadRow" "KeepError" true) rfl), of_decide_eq_true (all_of m2 1), of_decide_eq_true (all_of m2 2), of_decide_eq_true (all_of m2 3)⟩
abbrev tbQ (K : PySem.W.Frag) : List (Addr × Str) := [((He.cT K ("_law_mr_faults", none)).2, "_law_mr_faults.<locals>.<lambda>")]
theorem lawAt {f : Addr} (X : K.In h) (G : h.Ns mainGlobals mg) (hf : mg ("law" : Str) = some (.ref f)) (c : He.SaysX hfa hfn [] htf hex_ w h K) :
    LamX.LawAtS PySem.Challenge.rw_meankept_k00_plain_rows_and_products w K CX0 12 63 "script" mg f h := by
  have d := c.t.d
  have T := bs_of X G c
  have Ec := es_of c
  obtain ⟨f_plain_letters, F_plain_letters⟩ := d.def_ 0 (d := dfn "plain_letters" 6) rfl
  have R_plain_letters : Rw K mg "plain_letters" s_plain_letters := ⟨_, _, F_plain_letters, He.glo_ok X G (d.fact 11 (f := .glo "plain_letters") rfl)⟩
  obtain ⟨f_undone_letters, F_undone_letters⟩ := d.def_ 1 (d := dfn "undone_letters" 7) rfl
  have R_undone_letters : Rw K mg "undone_letters" s_undone_letters := ⟨_, _, F_undone_letters, He.glo_ok X G (d.fact 12 (f := .glo "undone_letters") rfl)⟩
  obtain ⟨f_is_whole, F_is_whole⟩ := d.def_ 2 (d := dfn "is_whole" 11) rfl
  have R_is_whole : Rw K mg "is_whole" s_is_whole := ⟨_, _, F_is_whole, He.glo_ok X G (d.fact 13 (f := .glo "is_whole") rfl)⟩
  obtain ⟨f_is_whole_from, F_is_whole_from⟩ := d.def_ 3 (d := dfn "is_whole_from" 12) rfl
  have R_is_whole_from : Rw K mg "is_whole_from" s_is_whole_from := ⟨_, _, F_is_whole_from, He.glo_ok X G (d.fact 14 (f := .glo "is_whole_from") rfl)⟩
  obtain ⟨f_is_letter, F_is_letter⟩ := d.def_ 4 (d := dfn "is_letter" 13) rfl
  have R_is_letter : Rw K mg "is_letter" s_is_letter := ⟨_, _, F_is_letter, He.glo_ok X G (d.fact 15 (f := .glo "is_letter") rfl)⟩
  obtain ⟨f_are_letters, F_are_letters⟩ := d.def_ 5 (d := dfn "are_letters" 14) rfl
  have R_are_letters : Rw K mg "are_letters" s_are_letters := ⟨_, _, F_are_letters, He.glo_ok X G (d.fact 16 (f := .glo "are_letters") rfl)⟩
  obtain ⟨f_is_letter_row, F_is_letter_row⟩ := d.def_ 6 (d := dfn "is_letter_row" 15) rfl
  have R_is_letter_row : Rw K mg "is_letter_row" s_is_letter_row := ⟨_, _, F_is_letter_row, He.glo_ok X G (d.fact 17 (f := .glo "is_letter_row") rfl)⟩
  obtain ⟨f_check_deeds, F_check_deeds⟩ := d.def_ 7 (d := dfn "check_deeds" 16) rfl
  have R_check_deeds : Rw K mg "check_deeds" s_check_deeds := ⟨_, _, F_check_deeds, He.glo_ok X G (d.fact 18 (f := .glo "check_deeds") rfl)⟩
  obtain ⟨f_taken_row, F_taken_row⟩ := d.def_ 8 (d := dfn "taken_row" 17) rfl
  have R_taken_row : Rw K mg "taken_row" s_taken_row := ⟨_, _, F_taken_row, He.glo_ok X G (d.fact 19 (f := .glo "taken_row") rfl)⟩
  obtain ⟨f_is_row, F_is_row⟩ := d.def_ 9 (d := dfn "is_row" 20) rfl
  have R_is_row : Rw K mg "is_row" s_is_row := ⟨_, _, F_is_row, He.glo_ok X G (d.fact 20 (f := .glo "is_row") rfl)⟩
  obtain ⟨f_plain, F_plain⟩ := d.def_ 10 (d := dfn "plain" 21) rfl
  have R_plain : Rw K mg "plain" s_plain := ⟨_, _, F_plain, He.glo_ok X G (d.fact 21 (f := .glo "plain") rfl)⟩
  obtain ⟨f_undone, F_undone⟩ := d.def_ 11 (d := dfn "undone" 22) rfl
  have R_undone : Rw K mg "undone" s_undone := ⟨_, _, F_undone, He.glo_ok X G (d.fact 22 (f := .glo "undone") rfl)⟩
  obtain ⟨f_beside, F_beside⟩ := d.def_ 12 (d := dfn "beside" 23) rfl
  have R_beside : Rw K mg "beside" s_beside := ⟨_, _, F_beside, He.glo_ok X G (d.fact 23 (f := .glo "beside") rfl)⟩
  obtain ⟨f_times_row, F_times_row⟩ := d.def_ 13 (d := dfn "times_row" 24) rfl
  have R_times_row : Rw K mg "times_row" s_times_row := ⟨_, _, F_times_row, He.glo_ok X G (d.fact 24 (f := .glo "times_row") rfl)⟩
  obtain ⟨f_sums, F_sums⟩ := d.def_ 14 (d := dfn "sums" 25) rfl
  have R_sums : Rw K mg "sums" s_sums := ⟨_, _, F_sums, He.glo_ok X G (d.fact 25 (f := .glo "sums") rfl)⟩
  obtain ⟨f__law_begun, F__law_begun⟩ := d.def_ 15 (d := dfn "_law_begun" 27) rfl
  have R__law_begun : Rw K mg "_law_begun" s__law_begun := ⟨_, _, F__law_begun, He.glo_ok X G (d.fact 26 (f := .glo "_law_begun") rfl)⟩
  obtain ⟨f__law_blended, F__law_blended⟩ := d.def_ 16 (d := dfn "_law_blended" 28) rfl
  have R__law_blended : Rw K mg "_law_blended" s__law_blended := ⟨_, _, F__law_blended, He.glo_ok X G (d.fact 27 (f := .glo "_law_blended") rfl)⟩
  obtain ⟨f__law_draw, F__law_draw⟩ := d.def_ 17 (d := dfn "_law_draw" 29) rfl
  have R__law_draw : Rw K mg "_law_draw" s__law_draw := ⟨_, _, F__law_draw, He.glo_ok X G (d.fact 28 (f := .glo "_law_draw") rfl)⟩
  obtain ⟨f__law_pick, F__law_pick⟩ := d.def_ 18 (d := dfn "_law_pick" 30) rfl
  have R__law_pick : Rw K mg "_law_pick" s__law_pick := ⟨_, _, F__law_pick, He.glo_ok X G (d.fact 29 (f := .glo "_law_pick") rfl)⟩
  obtain ⟨f__law_caught, F__law_caught⟩ := d.def_ 19 (d := dfn "_law_caught" 31) rfl
  have R__law_caught : Rw K mg "_law_caught" s__law_caught := ⟨_, _, F__law_caught, He.glo_ok X G (d.fact 30 (f := .glo "_law_caught") rfl)⟩
  obtain ⟨f__law_mk_plain, F__law_mk_plain⟩ := d.def_ 20 (d := dfn "_law_mk_plain" 32) rfl
  have R__law_mk_plain : Rw K mg "_law_mk_plain" s__law_mk_plain := ⟨_, _, F__law_mk_plain, He.glo_ok X G (d.fact 31 (f := .glo "_law_mk_plain") rfl)⟩
  obtain ⟨f__law_mk_undone, F__law_mk_undone⟩ := d.def_ 21 (d := dfn "_law_mk_undone" 33) rfl
  have R__law_mk_undone : Rw K mg "_law_mk_undone" s__law_mk_undone := ⟨_, _, F__law_mk_undone, He.glo_ok X G (d.fact 32 (f := .glo "_law_mk_undone") rfl)⟩
  obtain ⟨f__law_mk_letters, F__law_mk_letters⟩ := d.def_ 22 (d := dfn "_law_mk_letters" 34) rfl
  have R__law_mk_letters : Rw K mg "_law_mk_letters" s__law_mk_letters := ⟨_, _, F__law_mk_letters, He.glo_ok X G (d.fact 33 (f := .glo "_law_mk_letters") rfl)⟩
  obtain ⟨f__law_mk_row, F__law_mk_row⟩ := d.def_ 23 (d := dfn "_law_mk_row" 35) rfl
  have R__law_mk_row : Rw K mg "_law_mk_row" s__law_mk_row := ⟨_, _, F__law_mk_row, He.glo_ok X G (d.fact 34 (f := .glo "_law_mk_row") rfl)⟩
  obtain ⟨f__law_mk_raw, F__law_mk_raw⟩ := d.def_ 24 (d := dfn "_law_mk_raw" 36) rfl
  have R__law_mk_raw : Rw K mg "_law_mk_raw" s__law_mk_raw := ⟨_, _, F__law_mk_raw, He.glo_ok X G (d.fact 35 (f := .glo "_law_mk_raw") rfl)⟩
  obtain ⟨f__law_mk_bad_deeds, F__law_mk_bad_deeds⟩ := d.def_ 25 (d := dfn "_law_mk_bad_deeds" 37) rfl
  have R__law_mk_bad_deeds : Rw K mg "_law_mk_bad_deeds" s__law_mk_bad_deeds := ⟨_, _, F__law_mk_bad_deeds, He.glo_ok X G (d.fact 36 (f := .glo "_law_mk_bad_deeds") rfl)⟩
  obtain ⟨f__law_mk_bad_row, F__law_mk_bad_row⟩ := d.def_ 26 (d := dfn "_law_mk_bad_row" 38) rfl
  have R__law_mk_bad_row : Rw K mg "_law_mk_bad_row" s__law_mk_bad_row := ⟨_, _, F__law_mk_bad_row, He.glo_ok X G (d.fact 37 (f := .glo "_law_mk_bad_row") rfl)⟩
  obtain ⟨f__law_mr_whole, F__law_mr_whole⟩ := d.def_ 27 (d := dfn "_law_mr_whole" 39) rfl
  have R__law_mr_whole : Rw K mg "_law_mr_whole" s__law_mr_whole := ⟨_, _, F__law_mr_whole, He.glo_ok X G (d.fact 38 (f := .glo "_law_mr_whole") rfl)⟩
  obtain ⟨f__law_mr_same, F__law_mr_same⟩ := d.def_ 28 (d := dfn "_law_mr_same" 40) rfl
  have R__law_mr_same : Rw K mg "_law_mr_same" s__law_mr_same := ⟨_, _, F__law_mr_same, He.glo_ok X G (d.fact 39 (f := .glo "_law_mr_same") rfl)⟩
  obtain ⟨f__law_mr_times, F__law_mr_times⟩ := d.def_ 29 (d := dfn "_law_mr_times" 41) rfl
  have R__law_mr_times : Rw K mg "_law_mr_times" s__law_mr_times := ⟨_, _, F__law_mr_times, He.glo_ok X G (d.fact 40 (f := .glo "_law_mr_times") rfl)⟩
  obtain ⟨f__law_mr_turned, F__law_mr_turned⟩ := d.def_ 30 (d := dfn "_law_mr_turned" 42) rfl
  have R__law_mr_turned : Rw K mg "_law_mr_turned" s__law_mr_turned := ⟨_, _, F__law_mr_turned, He.glo_ok X G (d.fact 41 (f := .glo "_law_mr_turned") rfl)⟩
  obtain ⟨f__law_mr_row, F__law_mr_row⟩ := d.def_ 31 (d := dfn "_law_mr_row" 43) rfl
  have R__law_mr_row : Rw K mg "_law_mr_row" s__law_mr_row := ⟨_, _, F__law_mr_row, He.glo_ok X G (d.fact 42 (f := .glo "_law_mr_row") rfl)⟩
  obtain ⟨f__law_mr_long, F__law_mr_long⟩ := d.def_ 32 (d := dfn "_law_mr_long" 44) rfl
  have R__law_mr_long : Rw K mg "_law_mr_long" s__law_mr_long := ⟨_, _, F__law_mr_long, He.glo_ok X G (d.fact 43 (f := .glo "_law_mr_long") rfl)⟩
  obtain ⟨f__law_mr_faults, F__law_mr_faults⟩ := d.def_ 33 (d := dfn "_law_mr_faults" 45) rfl
  obtain ⟨f_law, F_law⟩ := d.def_ 34 (d := dfn "law" 46) rfl
  have hc : ∃ c0, f__law_mr_faults.code = .ref c0 := by
    obtain ⟨oc, od, dV, kV, doc, pm, an, cdv, ct, osl, e, lk, hcd, _, _⟩ := F__law_mr_faults.ex
    subst e
    exact He.codeIn_ref hcd
  obtain ⟨c0, hc⟩ := hc
  have hcT : (He.cT K ("_law_mr_faults", none)).1 = c0 := by
    obtain ⟨oc, od, dV, kV, doc, pm, an, cdv, ct, osl, e, lk, hcd, _, _⟩ := F__law_mr_faults.ex
    subst e
    exact He.codeOf_eq lk hc
  have R__law_mr_faults : RwC K mg "_law_mr_faults" s__law_mr_faults c0 := ⟨_, _, F__law_mr_faults, He.glo_ok X G (d.fact 44 (f := .glo "_law_mr_faults") rfl), hc⟩
  have hg := He.glo_ok X G (d.fact 45 (f := .glo "law") rfl)
  have ef := hf.symm.trans hg
  cases ef
  have b := FunD.bindsA (ps := ["script"]) F_law fun _ _ _ _ _ _ us hl => match us, hl with | [_], _ => rfl
  refine ⟨f_law, [He.cT K ("_law_mr_faults", none)], spLaw K (tbQ K), fun p hp => ?_, fun p hp => ?_, fun p hp => ?_, fun s v => b s [v] rfl, fun H a ns hl _ hT hS => ?_, fun base hK hN hT => ?_⟩
  · rw [List.mem_singleton.mp hp]
    exact c.empty _ (List.mem_singleton_self _)
  · rw [List.mem_singleton.mp hp]
    exact c.out _ (List.mem_singleton_self _)
  · rw [List.mem_singleton.mp hp]
    exact PySem.W.codeHd_of_K X (c.hd _ (List.mem_singleton_self _))
  · refine ⟨a, ns, rfl, hS, hl, fun p hp => ?_, fun _ => rfl⟩
    rw [List.mem_singleton.mp hp]
    exact LamX.TabS.nil (hT _ (List.mem_singleton_self _))
  · have TB := hT _ (List.mem_singleton_self _)
    rw [hcT] at TB
    have D_plain_letters := d_plain_letters (P := (PySem.Challenge.rw_meankept_k00_plain_rows_and_products).prog) (w := w) (base := base) T R_plain_letters
    have D_undone_letters := d_undone_letters (P := (PySem.Challenge.rw_meankept_k00_plain_rows_and_products).prog) (w := w) (base := base) T R_undone_letters
    have D_is_whole := d_is_whole (P := (PySem.Challenge.rw_meankept_k00_plain_rows_and_products).prog) (w := w) (base := base) T R_is_whole
    have D_is_whole_from := d_is_whole_from (P := (PySem.Challenge.rw_meankept_k00_plain_rows_and_products).prog) (w := w) (base := base) T R_is_whole_from D_is_whole
    have D_is_letter := d_is_letter (P := (PySem.Challenge.rw_meankept_k00_plain_rows_and_products).prog) (w := w) (base := base) T R_is_letter D_is_whole_from
    have D_are_letters := d_are_letters (P := (PySem.Challenge.rw_meankept_k00_plain_rows_and_products).prog) (w := w) (base := base) T R_are_letters D_is_letter
    have D_is_letter_row := d_is_letter_row (P := (PySem.Challenge.rw_meankept_k00_plain_rows_and_products).prog) (w := w) (base := base) T R_is_letter_row D_are_letters
    have D_check_deeds := d_check_deeds (P := (PySem.Challenge.rw_meankept_k00_plain_rows_and_products).prog) (w := w) (base := base) T R_check_deeds D_is_whole_from
    have D_taken_row := d_taken_row (P := (PySem.Challenge.rw_meankept_k00_plain_rows_and_products).prog) (w := w) (base := base) T R_taken_row D_is_letter_row D_plain_letters
    have D_is_row := d_is_row (P := (PySem.Challenge.rw_meankept_k00_plain_rows_and_products).prog) (w := w) (base := base) T R_is_row D_check_deeds D_is_letter_row
    have D_plain := d_plain (P := (PySem.Challenge.rw_meankept_k00_plain_rows_and_products).prog) (w := w) (base := base) T R_plain D_check_deeds D_taken_row
    have D_undone := d_undone (P := (PySem.Challenge.rw_meankept_k00_plain_rows_and_products).prog) (w := w) (base := base) T R_undone D_check_deeds D_taken_row D_undone_letters
    have D_beside := d_beside (P := (PySem.Challenge.rw_meankept_k00_plain_rows_and_products).prog) (w := w) (base := base) T R_beside D_check_deeds D_taken_row D_plain_letters
    have D_times_row := d_times_row (P := (PySem.Challenge.rw_meankept_k00_plain_rows_and_products).prog) (w := w) (base := base) T R_times_row D_check_deeds D_taken_row D_is_whole_from D_plain_letters D_undone_letters
    have D_sums := d_sums (P := (PySem.Challenge.rw_meankept_k00_plain_rows_and_products).prog) (w := w) (base := base) T R_sums D_check_deeds D_taken_row
    have D__law_begun := d__law_begun (P := (PySem.Challenge.rw_meankept_k00_plain_rows_and_products).prog) (w := w) (base := base) T R__law_begun
    have D__law_blended := d__law_blended (P := (PySem.Challenge.rw_meankept_k00_plain_rows_and_products).prog) (w := w) (base := base) T R__law_blended
    have D__law_draw := d__law_draw (P := (PySem.Challenge.rw_meankept_k00_plain_rows_and_products).prog) (w := w) (base := base) T R__law_draw D__law_blended
    have D__law_pick := d__law_pick (P := (PySem.Challenge.rw_meankept_k00_plain_rows_and_products).prog) (w := w) (base := base) T R__law_pick D__law_draw
    have D__law_mk_plain := d__law_mk_plain (P := (PySem.Challenge.rw_meankept_k00_plain_rows_and_products).prog) (w := w) (base := base) T R__law_mk_plain
    have D__law_mk_undone := d__law_mk_undone (P := (PySem.Challenge.rw_meankept_k00_plain_rows_and_products).prog) (w := w) (base := base) T R__law_mk_undone
    have D__law_mk_letters := d__law_mk_letters (P := (PySem.Challenge.rw_meankept_k00_plain_rows_and_products).prog) (w := w) (base := base) T R__law_mk_letters
    have D__law_mk_row := d__law_mk_row (P := (PySem.Challenge.rw_meankept_k00_plain_rows_and_products).prog) (w := w) (base := base) T R__law_mk_row D__law_draw D__law_pick D__law_mk_letters
    have D__law_mk_raw := d__law_mk_raw (P := (PySem.Challenge.rw_meankept_k00_plain_rows_and_products).prog) (w := w) (base := base) T R__law_mk_raw D__law_draw D__law_pick D__law_mk_letters
    have D__law_mk_bad_deeds := d__law_mk_bad_deeds (P := (PySem.Challenge.rw_meankept_k00_plain_rows_and_products).prog) (w := w) (base := base) T R__law_mk_bad_deeds D__law_pick
    have D__law_mk_bad_row := d__law_mk_bad_row (P := (PySem.Challenge.rw_meankept_k00_plain_rows_and_products).prog) (w := w) (base := base) T R__law_mk_bad_row D__law_pick
    have D__law_mr_whole := d__law_mr_whole (P := (PySem.Challenge.rw_meankept_k00_plain_rows_and_products).prog) (w := w) (base := base) T R__law_mr_whole
    have D__law_mr_same := d__law_mr_same (P := (PySem.Challenge.rw_meankept_k00_plain_rows_and_products).prog) (w := w) (base := base) T R__law_mr_same D__law_mr_whole
    have D__law_mr_times := d__law_mr_times (P := (PySem.Challenge.rw_meankept_k00_plain_rows_and_products).prog) (w := w) (base := base) T R__law_mr_times D__law_mk_plain D__law_mk_undone
    have D__law_mr_turned := d__law_mr_turned (P := (PySem.Challenge.rw_meankept_k00_plain_rows_and_products).prog) (w := w) (base := base) T R__law_mr_turned D__law_mk_plain D__law_mk_undone
    have D__law_mr_row := d__law_mr_row (P := (PySem.Challenge.rw_meankept_k00_plain_rows_and_products).prog) (w := w) (base := base) T R__law_mr_row D__law_draw D__law_mk_row D__law_mk_raw D__law_mr_times D__law_mr_turned
    have D__law_mr_long := d__law_mr_long (P := (PySem.Challenge.rw_meankept_k00_plain_rows_and_products).prog) (w := w) (base := base) T R__law_mr_long D__law_mk_row
    have D__law_mr_faults := d__law_mr_faults (P := (PySem.Challenge.rw_meankept_k00_plain_rows_and_products).prog) (w := w) (base := base) T Ec TB R__law_mr_faults R__law_caught D__law_pick D__law_mk_bad_deeds D__law_mk_bad_row D__law_mr_row D_is_row D_plain D_undone D_beside D_times_row D_sums
    exact ok_law T F_law D__law_begun D__law_draw D__law_mk_plain D__law_mk_undone D__law_mk_bad_row D__law_mr_row D__law_mr_long D__law_mr_same D__law_mr_times D__law_mr_faults D_is_row D_plain D_undone D_beside D_times_row D_sums
end
end KP
open PySem PySem.W PySem.Calls PyProof.Rows
theorem PySem.Challenge.cw_meankept_k00_plain_rows_and_products_holds : PySem.Challenge.rw_meankept_k00_plain_rows_and_products.Holds := by
  w_on; o_law
  refine HandSHeadRun.head_any (r := OpenLaw.row PySem.Challenge.rw_meankept_k00_plain_rows_and_products) (q := view (OpenLaw.row PySem.Challenge.rw_meankept_k00_plain_rows_and_products).prog [46]) (H := KP.hk) (ob := KP.hob) (M := 2600) (loose := KP.hloose) (d := HandSHeadRun.topDef (OpenLaw.row PySem.Challenge.rw_meankept_k00_plain_rows_and_products).prog 46) (kwd := []) KP.hob_eq
    (by kernel_rfl) (fun s => by kernel_rfl) KP.hrun (by kernel_rfl) (by kernel_rfl) (by kernel_rfl) (by rfl) (by first | assumption | decide +kernel) (by decide +kernel) ⟨rfl, rfl, rfl, rfl, rfl, by decide +kernel⟩ ?hw ?hc
  case hw => w_witness2
  case hc =>
    refine LamX.walk_ofTsE (l := PySem.Challenge.rw_meankept_k00_plain_rows_and_products) (n := 63) (k := 12) (x := "script") (CX := fun _ => L2.CX0) rfl (by decide) (by kernel_rfl) ⟨rfl, by decide, by decide⟩ ?F (fun _ _ _ _ _ z => z)
    intro w mg fa h Y G hmg0
    obtain ⟨K, KX, c⟩ := Y
    have hmg : mg ("law" : PySem.Str) = some (.ref fa) := by
      have e : (HandSHeadRun.topDef (OpenLaw.row PySem.Challenge.rw_meankept_k00_plain_rows_and_products).prog 46).name = ("law" : PySem.Str) := by kernel_rfl
      rw [← e]
      exact hmg0
    exact ⟨K, KX, KP.lawAt KX G hmg c⟩
