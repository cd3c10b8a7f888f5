import PyProof.Rows.All
import Wide.All
import OpenK.AllK
import Wide.FinOn
import HandS.Base
import HandS.Call
import HandS.CallLocal
import HandS.Conv
import HandS.Defaults
import HandS.EndTab
import HandS.Ends
import HandS.ExcIs
import HandS.ExcValue
import HandS.FStr
import HandS.ForExc
import HandS.ForMost
import HandS.Gcd
import HandS.Head0
import HandS.Head1
import HandS.Head2
import HandS.HeadEnd
import HandS.HeadHook1
import HandS.HeadHook2
import HandS.HeadHook3
import HandS.HeadHook4
import HandS.HeadWalk
import HandS.IsInst
import HandS.Lambda
import HandS.LawCells
import HandS.More
import HandS.RaiseMore
import HandS.Rev
import HandS.SetFor
import HandS.Small
import HandS.Style
import HandS.TryOnly
import HandS.TupAny
import HandS.TupMul
import HandS.Walk
import HandS.Wide
import HandS.Words
import HandS.WordsExc
import PyProof.EqAt
import PyProof.FactsAll.tuple_2
import PyProof.ListMulRoad
import PyProof.P3Eq
import PySem.Challenge.RW_meankept_k01_rings_and_turned_rows
set_option Elab.async false
set_option linter.all false
set_option maxRecDepth 100000
set_option maxHeartbeats 4000000
/-! XA: tuple * int in all cases, tuple.count, unions of operators by kind. -/
namespace XA
open PySem PySem.Spec PyProof.Rows L2
theorem tuple_mul1 (l : Addr) (items : Array Value) (n : Nat) (dd : Option Addr) (sl : Array (Option Value)) (x : Int) (u : Tok) (c0 : (decide (x < -(2 ^ 63)) || decide (x ≥ 2 ^ 63)) = false) (c1 : (items.isEmpty || x == 1) = true) :
    Meets (Builtin.«tuple.__mul__» ⟨[.ref l, .int x u], []⟩) (fun _ R s => s.heap.get? l = some { cls := .type "tuple", dict := dd, data := .seq items n, slots := sl } ∧
      R (.ok (.ret (Value.ref l))) s) :=
  .of_wp fun prog w A R s h => by
    obtain ⟨hp, g, d, tk, os⟩ := s
    obtain ⟨hl, h⟩ := h
    have f1 := AutoSeq1.idx_int
    wp_walk using wpAny_loadPart' hl
    repeat (first
      | (refine wpAny_ite_false (decide_eq_false (by rw [c0]; exact Bool.false_ne_true)) ?_; wp_walk using wpAny_loadPart' hl)
      | (refine wpAny_ite_true (decide_eq_true (by rw [c1])) ?_; wp_walk using wpAny_loadPart' hl))
    all_goals first | exact ⟨_, rfl, h⟩ | exact h | skip
theorem tuple_mul0 (l : Addr) (items : Array Value) (n : Nat) (dd : Option Addr) (sl : Array (Option Value)) (x : Int) (u : Tok) (c0 : (decide (x < -(2 ^ 63)) || decide (x ≥ 2 ^ 63)) = false) (c1 : (items.isEmpty || x == 1) = false) (c2 : (decide (x ≤ 0) || items.isEmpty) = true) :
    Meets (Builtin.«tuple.__mul__» ⟨[.ref l, .int x u], []⟩) (fun _ R s => s.heap.get? l = some { cls := .type "tuple", dict := dd, data := .seq items n, slots := sl } ∧
      R (.ok (.ret (Value.ref s.heap.objs.size))) { s with heap := s.heap.push { cls := Value.type "tuple", data := Data.seq #[] }, toks := s.toks }) :=
  .of_wp fun prog w A R s h => by
    obtain ⟨hp, g, d, tk, os⟩ := s
    obtain ⟨hl, h⟩ := h
    have f1 := AutoSeq1.idx_int
    wp_walk using wpAny_loadPart' hl
    repeat (first
      | (refine wpAny_ite_false (decide_eq_false (by rw [c0]; exact Bool.false_ne_true)) ?_; wp_walk using wpAny_loadPart' hl)
      | (refine wpAny_ite_false (decide_eq_false (by rw [c1]; exact Bool.false_ne_true)) ?_; wp_walk using wpAny_loadPart' hl)
      | (refine wpAny_ite_true (decide_eq_true (by rw [c2])) ?_; wp_walk using wpAny_loadPart' hl))
    all_goals first | exact ⟨_, rfl, h⟩ | exact h | skip
/-- tuple * int: the same tuple, or a new one -/
def rRepA (K : PySem.W.Frag) : R2 := fun x y H Q => ∃ l k xs, x = .ref l ∧ y = .int k ∧ SqT K H l xs ∧ -1000 ≤ k ∧ k ≤ 1000 ∧ xs.length ≤ 1000 ∧
  ((xs = [] ∨ k = 1) → Q (.ref l) H) ∧ (¬ (xs = [] ∨ k = 1) → ∀ p, H p = none → Q (.ref p) (upd H p (.tup (List.replicate k.toNat xs).flatten)))
section
variable {X : Cx}
theorem op_repA : OpR X (binaryOp .Mult) (rRepA X.K) := by
  intro pins s σ H x y v u Q I rx ry h
  obtain ⟨l, k, xs, rfl, rfl, hT, h1, h2, hz, q1, q2⟩ := h
  by_cases hc : xs = [] ∨ k = 1
  · have q := q1 hc
    cases rx
    obtain ⟨t, rfl⟩ := ry
    obtain ⟨its, r, ⟨⟨cls, dd, data, sl⟩, ho, hcl, n, hd⟩, hs⟩ := I.tuple hT
    simp only at hcl hd
    subst hcl hd
    have c0 : (decide (k < -(2 ^ 63)) || decide (k ≥ 2 ^ 63)) = false := by
      rw [decide_eq_false (by omega), decide_eq_false (by omega)] <;> rfl
    have c1 : (its.toArray.isEmpty || k == 1) = true := by
      rcases hc with e | e
      · subst e
        cases r
        rfl
      · subst e
        simp
    exact wpAny_binaryOp_repeat_ref (T := "tuple") (U := "int") (by decide) ⟨_, ho, rfl⟩ (fun s' => typeIs_int s' k t) noFill_tuple_mul F.fills_int_mul F.slot_int_rmul repeat_tuple F.slot_int_index.lookup
      (call_meets F.slot_int_rmul (typeIs_int s k t) F.entry_int_rmul (F.args_int_rmul_2 _ _) (int_rmul_tuple k t l its.toArray n dd sl)
        ⟨ho, rfl, ⟨_, ho, rfl⟩, call_meets F.slot_tuple_mul ⟨_, ho, rfl⟩ F.entry_tuple_mul (F.args_tuple_mul_2 _ _) (tuple_mul1 l its.toArray n dd sl k t c0 c1) ⟨ho, ⟨.ref l, H, I, rfl, q⟩⟩⟩)
  · have q := q2 hc
    have hne : xs ≠ [] := fun e => hc (.inl e)
    have hk1 : k ≠ 1 := fun e => hc (.inr e)
    by_cases hk : k ≤ 0
    · have e0 : (List.replicate k.toNat xs).flatten = [] := by
        rw [show k.toNat = 0 by omega] <;> rfl
      rw [e0] at q
      cases rx
      obtain ⟨t, rfl⟩ := ry
      obtain ⟨its, r, ⟨⟨cls, dd, data, sl⟩, ho, hcl, n, hd⟩, hs⟩ := I.tuple hT
      simp only at hcl hd
      subst hcl hd
      have c0 : (decide (k < -(2 ^ 63)) || decide (k ≥ 2 ^ 63)) = false := by
        rw [decide_eq_false (by omega), decide_eq_false (by omega)] <;> rfl
      have hi : its.toArray.isEmpty = false := by
        cases r with
        | nil => exact absurd rfl hne
        | cons a b => rfl
      have c1 : (its.toArray.isEmpty || k == 1) = false := by
        rw [hi, Bool.false_or]
        exact beq_eq_false_iff_ne.mpr hk1
      have c2 : (decide (k ≤ 0) || its.toArray.isEmpty) = true := by
        rw [decide_eq_true hk] <;> rfl
      refine wpAny_binaryOp_repeat_ref (T := "tuple") (U := "int") (by decide) ⟨_, ho, rfl⟩ (fun s' => typeIs_int s' k t) noFill_tuple_mul F.fills_int_mul F.slot_int_rmul repeat_tuple F.slot_int_index.lookup
        (call_meets F.slot_int_rmul (typeIs_int s k t) F.entry_int_rmul (F.args_int_rmul_2 _ _) (int_rmul_tuple k t l its.toArray n dd sl)
          ⟨ho, rfl, ⟨_, ho, rfl⟩, call_meets F.slot_tuple_mul ⟨_, ho, rfl⟩ F.entry_tuple_mul (F.args_tuple_mul_2 _ _) (tuple_mul0 l its.toArray n dd sl k t c0 c1 c2) ⟨ho, ?_⟩⟩)
      refine ⟨.ref s.heap.objs.size, _, I.laid (t' := s.toks) (o := .tup []) (fun b ob q => Heap.get?_push_of_some _ q) (Nat.le_refl _) ?_, rfl, q _ (I.hok.fresh (Nat.le_refl _))⟩
      exact ⟨Nat.zero_le _, [], .nil, IsTup.new _ _⟩
    · exact op_repT pins s σ H _ _ v u Q I rx ry ⟨l, k, xs, rfl, rfl, hT, hne, by omega, h2, hz, q⟩
end
/-! ### tuples whose object is known: no dict of their own -/
def Tp (H : Hp) (p : Addr) (xs : List V) : Prop := ∃ o, H p = some (.frz o (.tup xs)) ∧ o.cls = .type "tuple" ∧ o.dict = none
theorem Tp.sqT {K : PySem.W.Frag} {H : Hp} {p : Addr} {xs : List V} (t : Tp H p xs) : SqT K H p xs := by
  obtain ⟨o, h, _⟩ := t
  exact .inl (.inr ⟨o, h⟩)
theorem Tp.same {H H' : Hp} {p : Addr} {xs : List V} (t : Tp H p xs) (k : Same H H') : Tp H' p xs := by
  obtain ⟨o, h, a, b⟩ := t
  exact ⟨o, k _ _ h, a, b⟩
/-- a new such tuple -/
def NewT (H : Hp) (xs : List V) (Q : VK) : Prop := ∀ p o, H p = none → o.cls = .type "tuple" → o.dict = none → Q (.ref p) (upd H p (.frz o (.tup xs)))
section
variable {X : Cx} {pins : List (Addr × Obj)} {σ : L2.St} {H : Hp} {s : Shared}
theorem newT_laid {h' : Heap} {tk : Nat} {xs : List V} {its : List Value} {Q : VK} (I : Inv X pins σ H { s with heap := h', toks := tk }) (hz : xs.length ≤ sizeLine) (r : Vals xs its) (q : NewT H xs Q) :
    EP X pins σ Q (.ref h'.objs.size) { s with heap := h'.push { cls := .type "tuple", data := .seq its.toArray }, toks := tk } :=
  ⟨.ref h'.objs.size, _, I.laid (t' := tk) (o := .frz { cls := .type "tuple", data := .seq its.toArray } (.tup xs)) (fun b ob e => Heap.get?_push_of_some _ e) (Nat.le_refl _)
    ⟨Heap.get?_push_size _ rfl, hz, its, r, IsTup.new _ _⟩, rfl, q _ _ (I.hok.fresh (Nat.le_refl _)) rfl rfl⟩
end
section
variable {X : Cx}
/-- tuple(xs), a list: a new one; a tuple: itself -/
def rTupOf (K : PySem.W.Frag) : List V → Hp → VK → Prop := fun xs H Q => ∃ p ys, xs = [.ref p] ∧ ((SqL K H p ys ∧ NewT H ys Q) ∨ (SqT K H p ys ∧ Q (.ref p) H))
theorem call_tupN : CallR X (.type "tuple") (rTupOf X.K) := by
  intro pins s σ H xs us Q I r h
  obtain ⟨p, ys, rfl, h⟩ := h
  obtain ⟨u, rfl, rx⟩ := vals1 r
  cases rx
  rcases h with ⟨hq, q⟩ | ⟨hq, q⟩
  · obtain ⟨its, r', pl, hz⟩ := I.list hq
    have hlen := r'.length
    refine call_tuple_list pl.isList (fun h' kp => ?_) (by simp only [List.size_toArray] <;> omega)
    have I1 : Inv X pins σ H { s with heap := h', toks := s.toks } := I.kept (t' := s.toks) kp
    exact newT_laid I1 hz r' q
  · obtain ⟨its, r', pl, hz⟩ := I.tuple hq
    exact call_tuple_same pl ⟨.ref p, H, I, rfl, q⟩
/-- t[lo:hi] -/
def rSlN (K : PySem.W.Frag) : V → Option Int → Option Int → Hp → VK → Prop := fun x lo hi H Q => ∃ a xs, x = .ref a ∧ SqT K H a xs ∧
  (HT.sIx xs.length 0 lo = 0 ∧ HT.sIx xs.length xs.length hi = xs.length → Q (.ref a) H) ∧ (¬ (HT.sIx xs.length 0 lo = 0 ∧ HT.sIx xs.length xs.length hi = xs.length) → NewT H (cutV xs lo hi) Q)
theorem sl_tupN : SlR X (rSlN X.K) := by
  intro pins s σ H x v vl vu lo hi sl Q I rx hs pl pu h
  obtain ⟨a, xs, rfl, hx, q1, q2⟩ := h
  by_cases hw : HT.sIx xs.length 0 lo = 0 ∧ HT.sIx xs.length xs.length hi = xs.length
  · exact sl_tupA pins s σ H _ v vl vu lo hi sl Q I rx hs pl pu ⟨a, xs, rfl, hx, q1, fun z => absurd hw z⟩
  · have q := q2 hw
    cases rx
    obtain ⟨its, r, ht, hz⟩ := I.tuple hx
    have hlen : its.toArray.size = xs.length := by rw [List.size_toArray]; exact r.length.symm
    refine ⟨"tuple", _, PyProof.Rows.slot_tuple_getitem.lookup, ht.typeIs, ?_⟩
    refine HT.getItem_tuple_cut ht hs pl pu (by rw [hlen]; exact hw) ?_ (by rw [hlen]; exact hz)
    rw [hlen]
    exact newT_laid (h' := s.heap) (tk := s.toks) I (Nat.le_trans (cutV_length xs lo hi) hz) ((r.drop (HT.sIx xs.length 0 lo)).take (HT.sIx xs.length xs.length hi - HT.sIx xs.length 0 lo)) q
/-- tuple * int -/
def rRepN (K : PySem.W.Frag) : R2 := fun x y H Q => ∃ l k xs, x = .ref l ∧ y = .int k ∧ SqT K H l xs ∧ -1000 ≤ k ∧ k ≤ 1000 ∧ xs.length ≤ 1000 ∧
  ((xs = [] ∨ k = 1) → Q (.ref l) H) ∧ (¬ (xs = [] ∨ k = 1) → NewT H (List.replicate k.toNat xs).flatten Q)
theorem op_repN : OpR X (binaryOp .Mult) (rRepN X.K) := by
  intro pins s σ H x y v u Q I rx ry h
  obtain ⟨l, k, xs, rfl, rfl, hT, h1, h2, hz, q1, q2⟩ := h
  by_cases hc : xs = [] ∨ k = 1
  · exact op_repA pins s σ H _ _ v u Q I rx ry ⟨l, k, xs, rfl, rfl, hT, h1, h2, hz, q1, fun z => absurd hc z⟩
  · have q := q2 hc
    have hne : xs ≠ [] := fun e => hc (.inl e)
    have hk1 : k ≠ 1 := fun e => hc (.inr e)
    cases rx
    obtain ⟨t, rfl⟩ := ry
    obtain ⟨its, r, ⟨⟨cls, dd, data, sl⟩, ho, hcl, n, hd⟩, hs⟩ := I.tuple hT
    simp only at hcl hd
    subst hcl hd
    have hle : its.length = xs.length := r.length.symm
    have c0 : (decide (k < -(2 ^ 63)) || decide (k ≥ 2 ^ 63)) = false := by
      rw [decide_eq_false (by omega), decide_eq_false (by omega)] <;> rfl
    have hi : its.toArray.isEmpty = false := by
      cases r with
      | nil => exact absurd rfl hne
      | cons a b => rfl
    have c1 : (its.toArray.isEmpty || k == 1) = false := by
      rw [hi, Bool.false_or]
      exact beq_eq_false_iff_ne.mpr hk1
    by_cases hk : k ≤ 0
    · have e0 : (List.replicate k.toNat xs).flatten = [] := by
        rw [show k.toNat = 0 by omega] <;> rfl
      rw [e0] at q
      have c2 : (decide (k ≤ 0) || its.toArray.isEmpty) = true := by
        rw [decide_eq_true hk] <;> rfl
      refine wpAny_binaryOp_repeat_ref (T := "tuple") (U := "int") (by decide) ⟨_, ho, rfl⟩ (fun s' => typeIs_int s' k t) noFill_tuple_mul F.fills_int_mul F.slot_int_rmul repeat_tuple F.slot_int_index.lookup
        (call_meets F.slot_int_rmul (typeIs_int s k t) F.entry_int_rmul (F.args_int_rmul_2 _ _) (int_rmul_tuple k t l its.toArray n dd sl)
          ⟨ho, rfl, ⟨_, ho, rfl⟩, call_meets F.slot_tuple_mul ⟨_, ho, rfl⟩ F.entry_tuple_mul (F.args_tuple_mul_2 _ _) (tuple_mul0 l its.toArray n dd sl k t c0 c1 c2) ⟨ho, ?_⟩⟩)
      exact newT_laid (h' := s.heap) (tk := s.toks) (xs := []) (its := []) I (Nat.zero_le _) .nil q
    · have hsz0 : its.toArray.size = xs.length := by rw [List.size_toArray, hle]
      have hm : ((its.toArray.size : Nat) : Int) * k ≤ 1000000 := by
        rw [hsz0]
        have a1 : ((xs.length : Nat) : Int) * k ≤ 1000 * k := Int.mul_le_mul_of_nonneg_right (by omega) (by omega)
        omega
      have flen : (List.replicate k.toNat its).flatten.length ≤ sizeLine := by
        rw [PyProof.Rows.lm_len_rep_flat, hle, sizeLine_eq]
        have a1 : k.toNat * xs.length ≤ 1000 * 1000 := Nat.mul_le_mul (by omega) hz
        omega
      have c2 : (decide (k ≤ 0) || its.toArray.isEmpty) = false := by
        rw [hi, Bool.or_false]
        exact decide_eq_false (by omega)
      have c4 : Builtin.Tuple.tupleTooMany (((its.toArray.size : Nat) : Int) * k) = false := by
        unfold Builtin.Tuple.tupleTooMany
        rw [sizeLine_eq]
        exact decide_eq_false (by omega)
      refine wpAny_binaryOp_repeat_ref (T := "tuple") (U := "int") (by decide) ⟨_, ho, rfl⟩ (fun s' => typeIs_int s' k t) noFill_tuple_mul F.fills_int_mul F.slot_int_rmul repeat_tuple F.slot_int_index.lookup
        (call_meets F.slot_int_rmul (typeIs_int s k t) F.entry_int_rmul (F.args_int_rmul_2 _ _) (int_rmul_tuple k t l its.toArray n dd sl)
          ⟨ho, rfl, ⟨_, ho, rfl⟩, call_meets F.slot_tuple_mul ⟨_, ho, rfl⟩ F.entry_tuple_mul (F.args_tuple_mul_2 _ _) (tuple_mulW l its.toArray n dd sl k t c0 c1 c2 (by omega) c4 (by rw [size_rep, List.size_toArray]; exact flen)) ⟨ho, ?_⟩⟩)
      rw [size_rep]
      refine newT_laid (h' := s.heap) (tk := s.toks) I ?_ (r.rep k.toNat) q
      rw [PyProof.Rows.lm_len_rep_flat, sizeLine_eq]
      have a1 : k.toNat * xs.length ≤ 1000 * 1000 := Nat.mul_le_mul (by omega) hz
      omega
/-! ### t.count(k), whole numbers -/
def tCnt (to te : TE) : TE := fun σ H Q => to σ H fun x H1 => ∃ (p : Addr) (ns : List Int), x = .ref p ∧ Tp H1 p (ns.map V.int) ∧ tCons te tNil σ H1 fun vs H2 => ∃ y, vs = [y] ∧ ∃ k, y = .int k ∧ Tp H2 p (ns.map V.int) ∧ Q (.int (ns.count k : Nat)) H2
variable {o e : Expr} {to te : TE} {apos cpos : Pos}
theorem pe_cnt (ho : PE X o to) (he : PE X e te)
    (hbase : attributeBase o "count" X.env (eval o X.env) = eval o X.env := by rfl)
    (hfew : ((backTo cpos (starEach [e] X.env)).all (fun x => !x.1) && (backToKw cpos (keywordEach [] X.env)).all (fun x => x.1.isSome)
      && decide (([e] : List Expr).length + ([] : List Keyword).length + (if ([] : List Keyword).isEmpty then 0 else 1) < 30)) = true := by rfl)
    (hline : (apos.endLine == cpos.line) = true := by rfl) (hs : starEach [e] X.env = (false, eval e X.env) :: starEach [] X.env := by rfl) (hplain : (backTo cpos (starEach [] X.env)).any (·.1) = false := by rfl) :
    PE X (.Call (.Attribute o "count" apos) [e] [] cpos) (tCnt to te) := by
  refine ⟨fun pins s σ H Q I h => ?_⟩
  refine wpAny_Call_method_late hbase hfew hline rfl (thn (ho.run pins s σ H _ I h) fun v s1 ⟨x, H1, I1, r1, p, ns, ex, hT, q1⟩ => ?_)
  subst ex
  obtain rfl : v = Value.ref p := r1
  obtain ⟨ob, hp, hc, hd⟩ := hT
  obtain ⟨ho', _⟩ := (show ObjOk X.prog X.w H1 s1.heap p (.frz ob (.tup (ns.map V.int))) from I1.hok p _ hp)
  refine ⟨"tuple", "tuple.count", PySem.F.plainAttrs_tuple, PySem.F.slot_tuple_count, PySem.F.type_tuple_count, ⟨ob, ho', hc⟩, fun a ea => by cases ea; exact ⟨ob, ho', hd⟩, ?_⟩
  have hA := (show PA X [e] (tCons te tNil) from pa_cons he pa_nil hs).run cpos pins s1 σ H1 (fun vs H2 => ∃ y, vs = [y] ∧ ∃ k, y = .int k ∧ Tp H2 p (ns.map V.int) ∧ Q (.int (ns.count k : Nat)) H2) I1 q1
  rw [hs] at hA ⊢
  refine Calls.callWith_builtin (by show (false || (backTo cpos (starEach [] X.env)).any (·.1)) = false; rw [hplain] <;> rfl) (Calls.evalArgs_plain ?_)
  refine thn hA fun us s2 ⟨vs, H2, I2, r2, y, ev, k, ey, hT2, q2⟩ => ?_
  subst ev ey
  obtain ⟨u, rfl, t, rfl⟩ := vals1 r2
  obtain ⟨ob2, hp2, hc2, hd2⟩ := hT2
  obtain ⟨ho2, hz, its, rv, ob3, ho3, hc3, n3, hd3⟩ := (show ObjOk X.prog X.w H2 s2.heap p (.frz ob2 (.tup (ns.map V.int))) from I2.hok p _ hp2)
  obtain ⟨oc, od, dt, sl⟩ := ob3
  simp only at hc3 hd3
  subst hc3 hd3
  have hi := ints_of_vals rv
  refine call_meets PySem.F.slot_tuple_count ⟨_, ho3, rfl⟩ PySem.F.entry_tuple_count (PySem.F.args_tuple_count_2 _ _)
    (SeqAt.tuple_countAt p its.toArray n3 od sl (.int k t) (eqk k)) ⟨ho3, fun y hy => (eqk_gives hi y (by simpa using hy)).at _ _, ?_⟩
  have ec : its.toArray.toList.countP (eqk k) = ns.count k := eqk_count hi
  refine ⟨.int (ns.count k : Nat), H2, I2.tok _, ⟨s2.toks, ?_⟩, q2⟩
  show Value.int ((its.toArray.toList.countP (eqk k) : Nat) : Int) s2.toks = Value.int ((ns.count k : Nat) : Int) s2.toks
  rw [ec]
end
end XA

set_option linter.all false
set_option maxRecDepth 100000
set_option maxHeartbeats 4000000
/-! XB: a caught exception kept as a value; isinstance of it. -/
namespace XB
open PySem PySem.Spec PyProof.Rows L2
/-- a caught exception at a -/
def ExV (cls : Value) (d : Option Addr) (a : Addr) : HO := .ext fun h => ∃ (oe : Obj) (vs : Array Value), h.get? a = some oe ∧ Zc cls d oe ∧ oe.data = .fields vs
theorem exV_ok {P : Program} {w : World} {H : Hp} {h : Heap} {a : Addr} {cls : Value} {d : Option Addr} {oe : Obj} {vs : Array Value} (e : h.get? a = some oe) (z : Zc cls d oe) (dd : oe.data = .fields vs) : ObjOk P w H h a (ExV cls d a) :=
  ⟨⟨oe, vs, e, z, dd⟩, ⟨oe, e⟩, fun _ _ ⟨o, v, q, r⟩ k => ⟨o, v, k o q, r⟩⟩
section
variable {X : Cx} {pins : List (Addr × Obj)} {σ : L2.St} {H : Hp} {s : Shared}
theorem track {a : Addr} {oe : Obj} {vs : Array Value} {cls : Value} {d : Option Addr} (I : Inv X ((a, oe) :: pins) σ H s) (n0 : X.s_0.heap.get? a = none) (hz : Zc cls d oe) (hd : oe.data = .fields vs) (hp : ∀ p ∈ X.pn ++ pins, p.1 ≠ a) :
    Inv X pins σ (upd H a (ExV cls d a)) s := by
  obtain ⟨ha, na, nL, nF, hc⟩ := I.pin (a, oe) (List.mem_append_right _ List.mem_cons_self)
  have ne0 : ∀ b o, X.s_0.heap.get? b = some o → b ≠ a := fun b o e z => by
    rw [z, n0] at e
    cases e
  have neS : ∀ b u, H b = some u → b ≠ a := fun b u e => ne_of_none e na
  have neC : ∀ x c, X.env.cells.lookup x = some c → c ≠ a := fun x c e z => by
    obtain ⟨v, o, ho, hd'⟩ := I.cell x c e
    rw [z, ha] at ho
    cases ho
    exact hc v hd'
  refine ⟨I.ok, I.os, I.bare, ⟨I.base.keep, I.base.slot, fun b o e n hx => ?_, I.base.there, fun b xs e => ?_, fun b o u e => ?_, fun b ps e => ?_⟩, I.loc, I.cell, ?_, fun x c e => ?_, fun p hq => ?_, I.hok.laidN (fun _ _ q => q) na (exV_ok ha hz hd), I.len⟩
  · rw [upd_ne (ne0 b o e)]
    exact I.base.free b o e n hx
  · have q := I.base.tups b xs e
    rw [upd_ne (neS b _ q)]
    exact q
  · have q := I.base.frzs b o u e
    rw [upd_ne (neS b _ q)]
    exact q
  · obtain ⟨m, q⟩ := I.base.tbls b ps e
    exact ⟨m, by rw [upd_ne (neS b _ q)]; exact q⟩
  · rw [upd_ne (Ne.symm nL)]
    exact I.free
  · rw [upd_ne (neC x c e)]
    exact I.freeC x c e
  · obtain ⟨e, n, ne, nf, dd⟩ := I.pin p (by
      rcases List.mem_append.mp hq with z | z
      · exact List.mem_append_left _ z
      · exact List.mem_append_right _ (List.mem_cons_of_mem _ z))
    exact ⟨e, by rw [upd_ne (hp p hq)]; exact n, ne, nf, dd⟩
theorem pinned {a : Addr} {oe : Obj} {pn' : List (Addr × Obj)} (I : Inv (X.suite a ((a, oe) :: (X.pn ++ pins))) pn' σ H s) (ok : X.Ok) : Inv X ((a, oe) :: pins) σ H s :=
  ⟨ok, I.os, I.bare, I.base, I.loc, I.cell, I.free, I.freeC, fun p hp => I.pin p (List.mem_append_left _ (by
    rcases List.mem_append.mp hp with z | z
    · exact List.mem_cons_of_mem _ (List.mem_append_left _ z)
    · rcases List.mem_cons.mp z with e | z
      · rw [e]
        exact List.mem_cons_self
      · exact List.mem_cons_of_mem _ (List.mem_append_right _ z))), I.hok, I.len⟩
end
/-- 'except x as n', behind whose suite the exception is kept -/
def wAsV (K : PySem.W.Frag) (c : Value) (i : Nat) (ts : Addr → Value → Option Addr → TS) (Wout : WX) (D : Ends) : WX := fun cls d σ H =>
  ∃ b, PySem.W.exmOne K cls c = some b ∧ (b = true → ∀ a, H a = none → ts a cls d { nx := fun σ' H' => D.nx (σ'.set i none) (upd H' a (ExV cls d a)), rt := fun v H' => D.rt v (upd H' a (ExV cls d a)), bk := fun σ' H' => D.bk (σ'.set i none) (upd H' a (ExV cls d a)), ct := fun σ' H' => D.ct (σ'.set i none) (upd H' a (ExV cls d a)) } (σ.set i (some (.ref a))) H) ∧
    (b = false → Wout cls d σ H)
section
variable {X : Cx} {pins : List (Addr × Obj)} {σ σ1 : L2.St} {H H1 : Hp} {s sI : Shared} {B h3 : Heap} {a : Addr} {cls c : Value} {d : Option Addr} {x n : Str} {i : Nat} {b0 : Stmt} {suite : List Stmt} {np ps1 : Pos} {ts : Addr → Value → Option Addr → TS} {Wout : WX} {D : Ends}
/-- an exception in flight is no frame -/
theorem off_frames {l : List Env} {h : Heap} (fl : HandSPX.FlyingZ B l a (Zc cls d) h) : a ∉ frs l := by
  intro hm
  obtain ⟨oe, vs, e1, _, e2⟩ := fl.there
  obtain ⟨_, o2, e3, e4⟩ := Heap.FunFrames.mem fl.2.2.1 hm
  obtain rfl : oe = o2 := Option.some.inj (e1.symm.trans e3)
  exact e4 _ e2
/-- it wasn't there at the entry, and is no pin -/
theorem was_new (J : Inv X pins σ H sI) (grd : ∀ b o, sI.heap.get? b = some o → b ∉ frs X.stack → B.get? b = some o) (hB : B.get? a = none) (out : a ∉ frs X.stack) (hex : X.ex = []) :
    X.s_0.heap.get? a = none ∧ ∀ p ∈ X.pn ++ pins, p.1 ≠ a := by
  have no : ∀ o, sI.heap.get? a ≠ some o := fun o e => by
    have z := grd a o e out
    rw [hB] at z
    cases z
  constructor
  · cases e : X.s_0.heap.get? a with
    | none => rfl
    | some o =>
      obtain ⟨o2, e2⟩ := J.base.there a o e (fun z => by rw [hex] at z; cases z)
      exact absurd e2 (no o2)
  · intro p hp z
    have e2 := (J.pin p hp).1
    rw [z] at e2
    exact no _ e2
/-- the suite, behind which the name goes and the exception stays known -/
theorem suite_keeps (ok : X.Ok) (hN : X.N.Nodup) (hi : X.N[i]? = some n) (hln : X.env.kindOf n = some .local) (J : Inv X pins σ H { s with heap := h3 }) (fl : HandSPX.FlyingZ B (X.env :: X.outer) a (Zc cls d) h3) (na : H a = none) (nL : a ≠ X.env.locals) (nF : a ∉ X.fs)
    (new : X.s_0.heap.get? a = none ∧ ∀ p ∈ X.pn ++ pins, p.1 ≠ a)
    (hsu : ∀ (a : Addr) (oe : Obj) (cls : Value) (d : Option Addr) (pn : List (Addr × Obj)), Zc cls d oe → (∃ vs, oe.data = .fields vs) → PSs (X.suite a ((a, oe) :: pn)) (b0 :: suite) (ts a cls d))
    (q : ts a cls d { nx := fun σ' H' => D.nx (σ'.set i none) (upd H' a (ExV cls d a)), rt := fun v H' => D.rt v (upd H' a (ExV cls d a)), bk := fun σ' H' => D.bk (σ'.set i none) (upd H' a (ExV cls d a)), ct := fun σ' H' => D.ct (σ'.set i none) (upd H' a (ExV cls d a)) } (σ.set i (some (.ref a))) H) :
    wpAny (model X.prog X.w) (X.A.mark (some (.ref a))) (storeName X.env n (.ref a))
      (fun _ s5 => wpAny (model X.prog X.w) (X.A.mark (some (.ref a))) (execs (b0 :: suite) X.env)
        (fun f s6 => wpAny (model X.prog X.w) X.A (do bindName X.env n .none; unbindBehindTheSuite X.env n ps1) (fun _ s7 => SP X pins D f s7) X.xe s6) (fun _ _ => False) s5) (fun _ _ => False) { s with heap := h3 } := by
  obtain ⟨oe, vs, e1, z1, f1⟩ := fl.there
  refine store_ok (X := X.suite a ((a, oe) :: (X.pn ++ pins))) (v := .ref a) (J.suite e1 f1 na nL nF) hN hi (.inl hln) rfl (fun s5 J5 => ?_) (.inr hln)
  have run := (hsu a oe cls d (X.pn ++ pins) z1 ⟨_, f1⟩).run [] s5 _ H _ J5 q
  refine wpAny_mono run (fun f s6 out => ?_) fun _ _ no => no
  have go : ∀ {σ6 : L2.St} {H6 : Hp} {R : Shared → Prop}, Inv (X.suite a ((a, oe) :: (X.pn ++ pins))) [] σ6 H6 s6 → (∀ s7, Inv X pins (σ6.set i none) (upd H6 a (ExV cls d a)) s7 → R s7) →
      wpAny (model X.prog X.w) X.A (do bindName X.env n .none; unbindBehindTheSuite X.env n ps1) (fun _ s7 => R s7) X.xe s6 := fun J6 k =>
    gone_ok (pinned J6 ok) hN hi hln fun s7 J7 => k s7 (track J7 new.1 z1 f1 new.2)
  match f, out with
  | .next, ⟨_, _, J6, k⟩ => exact go J6 fun _ J7 => ⟨_, _, J7, k⟩
  | .brk, ⟨_, _, J6, k⟩ => exact go J6 fun _ J7 => ⟨_, _, J7, k⟩
  | .cont, ⟨_, _, J6, k⟩ => exact go J6 fun _ J7 => ⟨_, _, J7, k⟩
  | .ret _, ⟨_, _, _, J6, r, k⟩ => exact go J6 fun _ J7 => ⟨_, _, _, J7, r, k⟩
/-- the clause met by an exception that came down onto it -/
theorem clause_ok (hs : X.stack = X.env :: X.outer) (hf : X.env.frame = some X.env.locals) (hex : X.ex = []) (hN : X.N.Nodup) (hi : X.N[i]? = some n) (hln : X.env.kindOf n = some .local) (hc : Names X x c) (tk : Takes X Wout)
    (hsu : ∀ (a : Addr) (oe : Obj) (cls : Value) (d : Option Addr) (pn : List (Addr × Obj)), Zc cls d oe → (∃ vs, oe.data = .fields vs) → PSs (X.suite a ((a, oe) :: pn)) (b0 :: suite) (ts a cls d))
    (J : Inv X pins σ H sI) (grd : ∀ b o, sI.heap.get? b = some o → b ∉ frs X.stack → B.get? b = some o) (up : sI.heap.UpToSlots h3) (os : s.os = sI.os) (ag : AllBare s.gens) (na : H a = none) (fl : HandSPX.FlyingZ B (X.env :: X.outer) a (Zc cls d) h3)
    (wish : wAsV X.K c i ts Wout D cls d σ H) :
    wpAny (model X.prog X.w) X.A (handleBy (.ref a) X.env [.ExceptHandler (some (.Name x np)) (some n) (b0 :: suite) ps1]) (SP X pins D) X.xe { s with heap := h3 } := by
  have ok := J.ok
  have out := off_frames fl
  have out2 : a ∉ frs X.stack := by rw [hs]; exact out
  have nL : a ≠ X.env.locals := fun z => out (by
    unfold frs
    rw [List.filterMap_cons, hf, z]
    exact List.mem_cons_self)
  have nF : a ∉ X.fs := fun z => out (by
    unfold frs
    rw [List.filterMap_cons, hf]
    exact List.mem_cons_of_mem _ z)
  have new := was_new J grd fl.2.1 out2 hex
  have down : ∀ {h : Heap}, HandSPX.FlyingZ B (X.env :: X.outer) a (Zc cls d) h → sI.heap.UpToSlots h → Inv X pins σ H { s with heap := h } := fun f u => J.landed (s' := { s with heap := _ }) grd f.1 u os ag
  obtain ⟨b, m1, yes, no⟩ := wish
  obtain ⟨oe, vs, e1, z1, f1⟩ := fl.there
  have J3 := down fl up
  have J3s := J3.suite e1 f1 na nL nF
  have ty : PySem.W.Looks (model X.prog X.w) h3 (typeOf (.ref a)) cls := fun A Q E s k q => wpAny_typeOf_ref (k _ _ e1) (by rw [z1.1]; exact q)
  have meets := PySem.W.exm_one (M := model X.prog X.w) J3.kIn ty m1
  have named : ∀ {Q : Value → Shared → Prop} {E : Value → Shared → Prop}, Q c { s with heap := h3 } → wpAny (model X.prog X.w) (X.A.mark (some (.ref a))) (eval (.Name x np) X.env) Q E { s with heap := h3 } := fun {Q E} q => by
    obtain ⟨g1, g2, g3 | ⟨g3, g4, g5⟩⟩ := hc
    · exact ld_glob (X := X.suite a ((a, oe) :: (X.pn ++ pins))) J3s g1 g3 q g2
    · exact ld_blt (X := X.suite a ((a, oe) :: (X.pn ++ pins))) J3s g1 g3 g4 q g5 g2
  refine wpAny_handleBy_cons (codeAny_handlers_test (named (meets.here ?_))) (by intro z; cases z)
  cases b with
  | true =>
    refine codeAny_handlers_suite_as (HandSPX.lands_againZ fl fun h4 fl4 up4 => ?_)
    exact wpAny_mono (suite_keeps (ps1 := ps1) ok hN hi hln (down fl4 (up.trans up4)) fl4 na nL nF new hsu (yes rfl a na)) (fun _ s5 h5 => wpAny_mono h5 (fun f s6 h6 => h6) fun _ _ no => no.elim) fun _ _ no => no.elim
  | false =>
    refine wpAny_handleBy_nil ?_
    obtain ⟨_, _, _, oe2, vs2, T, oT, tv, g1, g2, g3, g4, g5⟩ := id fl
    unfold PySem.passOn
    refine wpAny_bind (wpAny_field g1 g3 g4 ?_)
    rw [if_neg (by simp : ¬ ((Value.ref T == Value.none) = true))]
    have last : wpAny (model X.prog X.w) X.A (setFlight (.ref a) X.env.frame) (fun _ s4 => wpAny (model X.prog X.w) X.A (throw (.ref a) : Sem Flow) (SP X pins D) X.xe s4) X.xe { s with heap := h3 } := by
      rw [hf]
      exact HandSPX.setFlight_upZ fl fun h4 held up4 => wpAny_throw (tk _ _ ⟨a, B, sI, pins, σ, H, cls, d, rfl, J, grd, up.trans up4, .inr (.inr (by rw [hs]; exact held)), na, os, ag, no rfl⟩)
    first
      | exact wpAny_bind (wpAny_pure (wpAny_bind last))
      | exact wpAny_bind last
end
section
variable {X : Cx} {x n : Str} {c : Value} {i : Nat} {body suite : List Stmt} {b0 : Stmt} {np ps1 ps2 : Pos} {tb : WX → TS} {ts : Addr → Value → Option Addr → TS} {Wout : WX}
/-- try: body / except x as n: suite; the exception stays known behind it -/
theorem ps_try_asV (hs : X.stack = X.env :: X.outer) (hf : X.env.frame = some X.env.locals) (hex : X.ex = []) (hN : X.N.Nodup) (hi : X.N[i]? = some n) (hln : X.env.kindOf n = some .local) (hc : Names X x c) (tk : Takes X Wout)
    (hb : ∀ (W : WX) (pn : List (Addr × Obj)) (xe : Value → Shared → Prop), Takes (X.tr pn xe) W → PassesOwn (model X.prog X.w) X.A X.env xe → PSs (X.tr pn xe) body (tb W))
    (hsu : ∀ (a : Addr) (oe : Obj) (cls : Value) (d : Option Addr) (pn : List (Addr × Obj)), Zc cls d oe → (∃ vs, oe.data = .fields vs) → PSs (X.suite a ((a, oe) :: pn)) (b0 :: suite) (ts a cls d)) :
    PS X (.Try body [.ExceptHandler (some (.Name x np)) (some n) (b0 :: suite) ps1] [] [] ps2) (fun D σ H => tb (wAsV X.K c i ts Wout D) D σ H) := by
  constructor
  intro pins s σ H D I h
  have ok := I.ok
  refine wpAny_Try_except ?_
  let hd : List ExceptHandler := [.ExceptHandler (some (.Name x np)) (some n) (b0 :: suite) ps1]
  let out : Value → Shared → Prop := fun e s1 => wpAny (model X.prog X.w) X.A (noteFrame e X.env) (fun _ s2 => wpAny (model X.prog X.w) X.A (setFlight e none) (fun _ s3 => wpAny (model X.prog X.w) X.A (handleBy e X.env hd) (SP X pins D) X.xe s3) X.xe s2) X.xe s1
  have caught : Takes (X.tr (X.pn ++ pins) out) (wAsV X.K c i ts Wout D) := by
    rintro u s1 ⟨a, B, sI, pins1, σ1, H1, cls, d, rfl, J, grd, up, sky, na, os, ag, wish⟩
    have sky2 : Sky B (X.env :: X.outer) a (Zc cls d) X.env.locals s1.heap := by
      rw [← hs]
      exact sky
    exact Sky.land Zc.steady (by rw [ok.frames, hs]) hf sky2 fun h3 fl u3 => clause_ok hs hf hex hN hi hln hc tk hsu (J.ofTry ok) grd (up.trans u3) os ag na fl wish
  have run := (hb _ (X.pn ++ pins) out caught PassesOwn.looking).run [] s σ H D (I.toTry _) h
  refine wpAny_mono run (fun f s1 q => ?_) fun e s1 q => q
  match f, q with
  | .next, ⟨_, _, J, k⟩ => exact wpAny_execs_nil ⟨_, _, J.ofTry ok, k⟩
  | .brk, ⟨_, _, J, k⟩ => exact ⟨_, _, J.ofTry ok, k⟩
  | .cont, ⟨_, _, J, k⟩ => exact ⟨_, _, J.ofTry ok, k⟩
  | .ret _, ⟨_, _, _, J, r, k⟩ => exact ⟨_, _, _, J.ofTry ok, r, k⟩
end
/-! ### isinstance of it -/
/-- isinstance(x, c): a plain thing, or a caught exception of the class D -/
def rIsU (K : PySem.W.Frag) : List V → Hp → VK → Prop := fun xs H Q => rIsi K xs H Q ∨ ∃ (a D : Addr) (c : V) (cv : Value) (b : Bool), xs = [.ref a, c] ∧ H a = some (ExV (.ref D) none a) ∧ ExcC K D ∧ ClsV c cv ∧ PySem.W.kitOne K (.ref D) cv = some b ∧ Q (.bl b) H
theorem call_isU {X : Cx} : CallR X (.builtin "isinstance") (rIsU X.K) := by
  intro pins s σ H xs us Q I r h
  rcases h with h | ⟨a, D, c, cv, b, rfl, ha, C, k, e, q⟩
  · exact call_isi pins s σ H xs us Q I r h
  · obtain ⟨u1, u2, rfl, r1, r2⟩ := vals2 r
    cases (show u1 = Value.ref a from r1)
    have e2 := k.eq r2
    subst e2
    obtain ⟨⟨oe, vs, ho, hz, hd⟩, _, _⟩ := (show ObjOk X.prog X.w H s.heap a (ExV (.ref D) none a) from I.hok a _ ha)
    have J : PySem.W.InstAt s.heap a oe D none := by
      obtain ⟨oc, od, oda, osl⟩ := oe
      obtain ⟨h1, h2⟩ := hz
      dsimp only at h1 h2 hd
      subst h1 h2 hd
      exact ⟨ho, rfl, rfl, trivial⟩
    exact PySem.W.kia_one (PySem.W.handS_kitx_exc C.hg C.hk C.hs C.hd C.ha C.hn C.ht C.hm) I.kIn J e (fun z => nomatch z) fun tk => ⟨.bl b, H, I.kept (t' := tk) fun _ _ z => z, rfl, q⟩
end XB

set_option linter.all false
set_option maxRecDepth 100000
set_option maxHeartbeats 4000000
/-! XC: defs bundled under their names, operators by kind, readings from the left. -/
namespace XC
open PySem PySem.Spec PyProof.Rows L2 XA XB
/-! ### defs under their names -/
/-- the def as the top left it -/
def Rw (K : PySem.W.Frag) (mg : Str → Option Value) (x : Str) (st : Stmt) : Prop := ∃ f fd, FunD K x x (defArgs st) (defBody st) (defScope st) [] [] f fd ∧ mg x = some (.ref f)
/-- how the arguments bind -/
def Bnd (st : Stmt) (x : Str) (ps : List Str) : Prop := ∀ (kV doc pm : Value) (an : Option Addr) (cdv ct : Value) (us : List Value), us.length = ps.length → bindArgs (PySem.W.fnOf x x (defArgs st) (defBody st) (defScope st) .none kV doc pm an cdv ct) ⟨us, []⟩ = pure (ps.zip us)
def Bndk (st : Stmt) (x : Str) (ps : List Str) (n : Nat) (ks : List Str) : Prop := ∀ (kV doc pm : Value) (an : Option Addr) (cdv ct : Value) (us ws : List Value), us.length = n → ws.length = ks.length → bindArgs (PySem.W.fnOf x x (defArgs st) (defBody st) (defScope st) .none kV doc pm an cdv ct) ⟨us, ks.zip ws⟩ = pure (ps.zip (us ++ ws))
structure Df (P : Program) (w : World) (K : PySem.W.Frag) (mg : Str → Option Value) (base : Heap) (CX : CXT) (k : Nat) (x : Str) (st : Stmt) (ps : List Str) (sp : Sp) : Prop where
  ex : ∃ f fd, FnOk P w K mg base CX k f fd ps sp ∧ mg x = some (.ref f) ∧ PySem.W.keepIn K (.ref f) = true ∧ Binds K fd ps [] ∧ ∀ n ks, Bndk st x ps n ks → KBn K fd ps n ks (fun us ws => us ++ ws) (fun vs zs => vs ++ zs)
section
variable {P : Program} {w : World} {K : PySem.W.Frag} {mg : Str → Option Value} {base : Heap} {x : Str} {st : Stmt} {N ps : List Str} {k : Nat} {sp : Sp}
theorem kbn_of {f : Addr} {fd : FuncData} (F : FunD K x x (defArgs st) (defBody st) (defScope st) [] [] f fd) (n : Nat) (ks : List Str) (bd : Bndk st x ps n ks) : KBn K fd ps n ks (fun us ws => us ++ ws) (fun vs zs => vs ++ zs) := by
  obtain ⟨oc, od, dV, kV, doc, pm, an, cdv, ct, osl, rfl, lk, hcd, hD, hK⟩ := F.ex
  rcases hD with ⟨_, rfl⟩ | ⟨e, _⟩
  · exact ⟨fun s us ws _ l1 l2 => .of_eq (bd kV doc pm an cdv ct us ws l1 l2), fun r1 r2 => Vals.append r1 r2⟩
  · exact absurd rfl e
theorem mk0 (R : Rw K mg x st) (S : FnScope N ps (defScope st)) (bd : Bnd st x ps) (len : ∀ vs H Q E, sp vs H Q E → vs.length = ps.length)
    (hbody : ∀ (f : Addr) (cdv : Value) (A : Around) (outer : List Env) (s : Shared) (H : Hp) (vs : List V) (Q : VK) (E : XK), Room k (A.deeper (envOfC x (defScope st) s.heap.objs.size f cdv)) → sp vs H Q E →
      ∃ t, PSs (cxOf CX0 P w K mg base N x (defScope st) f cdv A outer s H E).nox (defBody st) t ∧ t { nx := fun _ H' => Q .non H', rt := Q } (L2.start N vs) H) : Df P w K mg base CX0 (k + 1) x st ps sp := by
  obtain ⟨f, fd, F, g⟩ := R
  refine ⟨f, fd, F.ok S len fun cdv A outer s H vs Q E hr h => ?_, g, F.kp, F.bindsN bd, kbn_of F⟩
  obtain ⟨t, a, b⟩ := hbody f cdv A outer s H vs Q E hr h
  exact ⟨t, a.nox, b⟩
theorem mkX (R : Rw K mg x st) (S : FnScope N ps (defScope st)) (bd : Bnd st x ps) (len : ∀ vs H Q E, sp vs H Q E → vs.length = ps.length)
    (hbody : ∀ (f : Addr) (cdv : Value) (A : Around) (outer : List Env) (s : Shared) (H : Hp) (vs : List V) (Q : VK) (E : XK), Room k (A.deeper (envOfC x (defScope st) s.heap.objs.size f cdv)) → sp vs H Q E →
      ∃ t, PSs (cxOf (L2.CX P w) P w K mg base N x (defScope st) f cdv A outer s H E) (defBody st) t ∧ t { nx := fun _ H' => Q .non H', rt := Q } (L2.start N vs) H) : Df P w K mg base (L2.CX P w) (k + 1) x st ps sp := by
  obtain ⟨f, fd, F, g⟩ := R
  exact ⟨f, fd, F.ok S len fun cdv A outer s H vs Q E hr h => hbody f cdv A outer s H vs Q E hr h, g, F.kp, F.bindsN bd, kbn_of F⟩
end
/-! ### calls -/
def tCl (sp : Sp) (E : XK) (t : TA) : TE := fun σ H Q => t σ H fun vs H1 => sp vs H1 Q E
def tCk (sp : Sp) (E : XK) (n m : Nat) (t tk : TA) : TE := fun σ H Q => t σ H fun vs H1 => tk σ H1 fun zs H2 => vs.length = n ∧ zs.length = m ∧ sp (vs ++ zs) H2 Q E
section
variable {X : Cx} {CX : CXT} {j k n : Nat} {x : Str} {st : Stmt} {ps ks : List Str} {sp : Sp} {E : XK} {p pos : Pos} {e : Expr} {es : List Expr} {kws : List Keyword} {t tk : TA}
theorem pe_d (D : Df X.prog X.w X.K X.mg X.base CX k x st ps sp) (hr : Room j X.A) (hk : k ≤ j) (hg : Gl X x) (hx : Passes CX X E) (ha : PA X (e :: es) t) (hdb : (x == ("__debug__" : Str)) = false := by decide)
    (he : starEach (e :: es) X.env = (false, eval e X.env) :: starEach es X.env := by rfl) (hpl : (backTo pos (starEach es X.env)).any (·.1) = false := by rfl) : PE X (.Call (.Name x p) (e :: es) [] pos) (tCl sp E t) := by
  obtain ⟨f, fd, F, g, kp, b, _⟩ := D
  refine ⟨fun pins s σ H Q I h => ?_⟩
  refine (pe_call (E := E) F (hr.mono hk) hg g kp b .nil hx ha hdb he hpl).run pins s σ H Q I ?_
  show t σ H fun vs H1 => sp (vs ++ []) H1 Q E
  simp only [List.append_nil]
  exact h
theorem pe_dk (D : Df X.prog X.w X.K X.mg X.base CX k x st ps sp) (bd : Bndk st x ps n ks) (hr : Room j X.A) (hk : k ≤ j) (hg : Gl X x) (hx : Passes CX X E) (ha : PA X (e :: es) t) (hkw : PK X kws tk)
    (hall : (backToKw pos (keywordEach kws X.env)).all (·.1.isSome) = true := by rfl) (hks : (backToKw pos (keywordEach kws X.env)).filterMap (·.1) = ks := by rfl)
    (hdb : (x == ("__debug__" : Str)) = false := by decide) (he : starEach (e :: es) X.env = (false, eval e X.env) :: starEach es X.env := by rfl)
    (hpl : ((backTo pos (starEach (e :: es) X.env)).any (·.1) || (backToKw pos (keywordEach kws X.env)).any (·.1.isNone)) = false := by rfl) : PE X (.Call (.Name x p) (e :: es) kws pos) (tCk sp E n ks.length t tk) := by
  obtain ⟨f, fd, F, g, kp, _, kb⟩ := D
  exact pe_callN F (hr.mono hk) hg g kp (kb n ks bd) hx ha hkw hall hks hdb he hpl
theorem pe_dk0 (D : Df X.prog X.w X.K X.mg X.base CX k x st ps sp) (bd : Bndk st x ps 0 ks) (hr : Room j X.A) (hk : k ≤ j) (hg : Gl X x) (hx : Passes CX X E) (hkw : PK X kws tk)
    (hall : (backToKw pos (keywordEach kws X.env)).all (·.1.isSome) = true := by rfl) (hks : (backToKw pos (keywordEach kws X.env)).filterMap (·.1) = ks := by rfl)
    (hdb : (x == ("__debug__" : Str)) = false := by decide)
    (hpl : ((backTo pos (starEach [] X.env)).any (·.1) || (backToKw pos (keywordEach kws X.env)).any (·.1.isNone)) = false := by rfl) : PE X (.Call (.Name x p) [] kws pos) (tCk sp E 0 ks.length tNil tk) := by
  obtain ⟨f, fd, F, g, kp, _, kb⟩ := D
  refine ⟨fun pins s σ H Q I h => ?_⟩
  refine wpAny_Call_Name_kw (ld_glob I hg g ?_ hdb)
  refine PySem.W.callWith_KW0 (h₀ := X.base) I.ok.mod.kin kp hall (thn (hkw.run pos pins s σ H _ I h) fun ws s2 ⟨zs, H2, I2, rz, l1, l2, q2⟩ => ⟨I2.kIn, ?_⟩) hpl
  rw [hks]
  exact run_fnN (us := []) (vs := []) F (hr.mono hk) (kb 0 ks bd) hx I2 .nil rz rfl l2 q2
/-- where errors may leave the def -/
theorem passX {P : Program} {w : World} {K : PySem.W.Frag} {mg : Str → Option Value} {base : Heap} {N : List Str} {qual : Str} {scope : Scope} {f : Addr} {cd : Value} {A : Around} {outer : List Env} {s : Shared} {H : Hp} {E : XK} :
    Passes (L2.CX P w) (cxOf (L2.CX P w) P w K mg base N qual scope f cd A outer s H E) E := passes_call (W := fun cls d _ H => E cls d H) (takes_of rfl rfl rfl rfl) fun _ _ _ _ h => h
/-- .. a lambda's body -/
theorem passLam {X : Cx} {A : Around} {outer : List Env} {s : Shared} {H : Hp} {E : XK} {scope : Scope} {f c' : Addr} : Passes (L2.CX X.prog X.w) (LamX.lamCx X A outer s H E scope f c') E := passes_call (W := fun cls d _ H => E cls d H) (takes_of rfl rfl rfl rfl) fun _ _ _ _ h => h
/-- a constant of the module -/
theorem pe_gi {i : Int} (h : ∃ t, X.mg x = some (.int i t)) (hg : Gl X x) (hdb : (x == ("__debug__" : Str)) = false := by decide) : PE X (.Name x p) (tC (.int i)) := by
  obtain ⟨t, h⟩ := h
  exact pe_glob hg h ⟨t, rfl⟩ hdb
/-- a class of the module -/
theorem pe_gc {C : Addr} (h : X.mg x = some (.ref C)) (hg : Gl X x) (hdb : (x == ("__debug__" : Str)) = false := by decide) : PE X (.Name x p) (tC (.ref C)) := pe_glob hg h rfl hdb
end
/-! ### operators by kind -/
def rAddU (K : PySem.W.Frag) : R2 := fun x y H Q => (∃ i j, x = .int i ∧ y = .int j ∧ Q (.int (i + j)) H) ∨ rCatA K x y H Q ∨ rCat x y H Q
def rMulU (K : PySem.W.Frag) : R2 := fun x y H Q => (∃ i j, x = .int i ∧ y = .int j ∧ CMul i j ∧ Q (.int (i * j)) H) ∨ rRepN K x y H Q
def rEqU (K : PySem.W.Frag) : R2 := fun x y H Q => rEq x y H Q ∨ rEqD K x y H Q
def rNeU (K : PySem.W.Frag) : R2 := fun x y H Q => rNe x y H Q ∨ rNeD K x y H Q
def rSlU (K : PySem.W.Frag) : V → Option Int → Option Int → Hp → VK → Prop := fun x lo hi H Q => rSlL K x lo hi H Q ∨ rSlN K x lo hi H Q
def rIsB2 : R2 := fun x y H Q => ∃ a b : Bool, x = .bl a ∧ y = .bl b ∧ Q (.bl (decide (a = b))) H
section
variable {X : Cx}
theorem opr_or {f : Value → Value → Sem Value} {r r' : R2} (a : OpR X f r) (b : OpR X f r') : OpR X f (fun x y H Q => r x y H Q ∨ r' x y H Q) := by
  intro pins s σ H x y v u Q I rx ry h
  rcases h with h | h
  · exact a pins s σ H x y v u Q I rx ry h
  · exact b pins s σ H x y v u Q I rx ry h
theorem op_addU : OpR X (binaryOp .Add) (rAddU X.K) := opr_or op_add (opr_or op_catA op_cat)
theorem op_mulU : OpR X (binaryOp .Mult) (rMulU X.K) := opr_or op_mul op_repN
theorem op_eqU (hu : X.A.units + 64 < cLine) : OpR X (compareOp .Eq) (rEqU X.K) := opr_or op_eq (op_eqD hu)
theorem op_neU (hu : X.A.units + 64 < cLine) : OpR X (compareOp .NotEq) (rNeU X.K) := opr_or op_ne (op_neD hu)
theorem sl_U : SlR X (rSlU X.K) := SlR.or sl_list sl_tupN
end
/-! ### readings, from the left -/
section
variable {K : PySem.W.Frag} {σ : L2.St} {H : Hp} {Q : VK} {v x y z : V} {i : Nat} {ta tb te tc : TE} {t u c : TT} {sp : Sp} {E : XK} {ts us : TS} {D : Ends} {g : TG} {gs : TGs}
theorem rd_var (h : σ[i]? = some (some v)) (q : Q v H) : tVar i σ H Q := ⟨v, h, q⟩
theorem rd_c (q : Q v H) : tC v σ H Q := q
theorem rd_op {r : R2} (h : ta σ H fun x H1 => tb σ H1 fun y H2 => r x y H2 Q) : tOp r ta tb σ H Q := h
theorem rd_un {r : V → Hp → VK → Prop} (h : ta σ H fun x H1 => r x H1 Q) : tUn r ta σ H Q := h
theorem rd_nil {Q : List V → Hp → Prop} (h : Q [] H) : tNil σ H Q := h
theorem rd_cons {tr : TA} {Q : List V → Hp → Prop} (h : ta σ H fun x H1 => tr σ H1 fun xs H2 => Q (x :: xs) H2) : tCons ta tr σ H Q := h
theorem rd_cl {ta : TA} (h : ta σ H fun vs H1 => sp vs H1 Q E) : tCl sp E ta σ H Q := h
theorem rd_ck {ta tk : TA} {n m : Nat} (h : ta σ H fun vs H1 => tk σ H1 fun zs H2 => vs.length = n ∧ zs.length = m ∧ sp (vs ++ zs) H2 Q E) : tCk sp E n m ta tk σ H Q := h
theorem rd_cb {r : List V → Hp → VK → Prop} {ta : TA} (h : ta σ H fun vs H1 => r vs H1 Q) : tCB r ta σ H Q := h
theorem rd_seq (h : ts { D with nx := us D } σ H) : tSeq ts us D σ H := h
theorem rd_next (h : D.nx σ H) : tNext D σ H := h
theorem rd_cont (h : D.ct σ H) : tCont D σ H := h
theorem rd_asg (h : te σ H fun x H1 => g x σ H1 D.nx) : tAsg te g D σ H := h
theorem rd_gn {Q : L2.St → Hp → Prop} (h : Q (σ.set i (some v)) H) : gName i v σ H Q := h
theorem rd_drop (h : te σ H fun _ H1 => D.nx σ H1) : tDrop te D σ H := h
theorem rd_ret (h : te σ H D.rt) : tRet te D σ H := h
theorem rd_ifs (h : c σ H fun b H1 => if b = true then ts D σ H1 else us D σ H1) : tIfS c ts us D σ H := h
theorem rd_if (h : c σ H fun b H1 => if b = true then ta σ H1 Q else tb σ H1 Q) : tIf c ta tb σ H Q := h
theorem rd_test {Q : Bool → Hp → Prop} (h : te σ H fun x H1 => ∃ k, x = .bl k ∧ Q k H1) : tTest te σ H Q := h
theorem rd_tb {Q : Bool → Hp → Prop} (h : te σ H fun x H1 => ∃ k, x = .bl k ∧ Q k H1) : tB te σ H Q := h
theorem rd_and {Q : Bool → Hp → Prop} (h : t σ H fun b H1 => if b = true then u σ H1 Q else Q false H1) : tAnd t u σ H Q := h
theorem rd_or {Q : Bool → Hp → Prop} (h : t σ H fun b H1 => if b = true then Q true H1 else u σ H1 Q) : tOr t u σ H Q := h
theorem rd_not {Q : Bool → Hp → Prop} (h : t σ H fun b H1 => Q (!b) H1) : tNot t σ H Q := h
theorem rd_andV (h : ta σ H fun x H1 => ∃ b, x = .bl b ∧ if b = true then tb σ H1 Q else Q (.bl false) H1) : tAndV ta tb σ H Q := h
theorem rd_orV (h : ta σ H fun x H1 => ∃ b, x = .bl b ∧ if b = true then Q (.bl true) H1 else tb σ H1 Q) : tOrV ta tb σ H Q := h
theorem rd_notV (h : ta σ H fun x H1 => ∃ b, x = .bl b ∧ Q (.bl (!b)) H1) : tNotV ta σ H Q := h
theorem rd_chain {r r' : R2} (h : ta σ H fun x H1 => tb σ H1 fun y H2 => r x y H2 fun z H3 => ∃ k, z = .bl k ∧ (if k = true then tc σ H3 fun w' H4 => r' y w' H4 Q else Q (.bl false) H3)) : tChain r r' ta tb tc σ H Q := h
theorem rd_tup {t : TA} (h : t σ H fun xs H1 => xs.length ≤ sizeLine ∧ ∀ p, H1 p = none → Q (.ref p) (upd H1 p (.tup xs))) : tTup t σ H Q := h
theorem rd_lst {t : TA} (h : t σ H fun xs H1 => xs.length ≤ sizeLine ∧ ∀ p, H1 p = none → Q (.ref p) (upd H1 p (.lst xs))) : tLst t σ H Q := h
theorem rd_bm0 {T : String} {r : V → List V → Hp → VK → Prop} (h : ta σ H fun x H1 => tyV K T x H1 ∧ r x [] H1 Q) : tBM0 K T r ta σ H Q := h
theorem rd_bm {T : String} {r : V → List V → Hp → VK → Prop} {t : TA} (h : ta σ H fun x H1 => tyV K T x H1 ∧ t σ H1 fun xs H2 => r x xs H2 Q) : tBM K T r ta t σ H Q := h
theorem rd_sl {r : V → Option Int → Option Int → Hp → VK → Prop} {tl th : TO} (h : te σ H fun x H1 => tl σ H1 fun l H2 => th σ H2 fun u H3 => r x l u H3 Q) : tSl r te tl th σ H Q := h
theorem rd_part {Q : Option Int → Hp → Prop} (h : te σ H fun x H1 => ∃ i, x = .int i ∧ Q (some i) H1) : tPart te σ H Q := h
theorem rd_nopart {Q : Option Int → Hp → Prop} (h : Q none H) : tNoPart σ H Q := h
theorem rd_dget (h : ta σ H fun x H1 => tb σ H1 fun y H2 => ∃ a v, x = .ref a ∧ DGet H2 a y (some v) ∧ Q v H2) : tDGet ta tb σ H Q := h
theorem rd_dput (h : tc σ H fun v H1 => ta σ H1 fun x H2 => tb σ H2 fun y H3 => ∃ a H4, x = .ref a ∧ DPut H3 a y v H4 ∧ D.nx σ H4) : sDPut ta tb tc D σ H := h
theorem rd_isN (h : ta σ H fun x H1 => Q (.bl (decide (x = .non))) H1) : tIsN ta σ H Q := h
/-- answers -/
theorem rd_bl {b : Bool} {R : Bool → Prop} (h : R b) : ∃ k, V.bl b = .bl k ∧ R k := ⟨b, rfl, h⟩
theorem rd_int {j : Int} {R : Int → Prop} (h : R j) : ∃ k, V.int j = .int k ∧ R k := ⟨j, rfl, h⟩
theorem rd_I0 {f : Int → Int → V} {j k : Int} (h : Q (f j k) H) : rI0 f (.int j) (.int k) H Q := ⟨j, k, rfl, rfl, h⟩
theorem rd_I {C : Int → Int → Prop} {f : Int → Int → V} {j k : Int} (hc : C j k) (h : Q (f j k) H) : rI C f (.int j) (.int k) H Q := ⟨j, k, rfl, rfl, hc, h⟩
theorem rd_U {f : Int → V} {j : Int} (h : Q (f j) H) : rU f (.int j) H Q := ⟨j, rfl, h⟩
theorem rd_addI {j k : Int} (h : Q (.int (j + k)) H) : rAddU K (.int j) (.int k) H Q := .inl ⟨j, k, rfl, rfl, h⟩
theorem rd_mulI {j k : Int} (hc : CMul j k) (h : Q (.int (j * k)) H) : rMulU K (.int j) (.int k) H Q := .inl ⟨j, k, rfl, rfl, hc, h⟩
theorem rd_eqS (h : scal x y = true) (q : Q (.bl (decide (x = y))) H) : rEqU K x y H Q := .inl ⟨h, q⟩
theorem rd_neS (h : scal x y = true) (q : Q (.bl (!decide (x = y))) H) : rNeU K x y H Q := .inl ⟨h, q⟩
theorem rd_eqI {j k : Int} (q : Q (.bl (decide (j = k))) H) : rEqU K (.int j) (.int k) H Q := .inl ⟨rfl, by
  rw [show decide (V.int j = V.int k) = decide (j = k) from by simp]
  exact q⟩
theorem rd_neI {j k : Int} (q : Q (.bl (!decide (j = k))) H) : rNeU K (.int j) (.int k) H Q := .inl ⟨rfl, by
  rw [show decide (V.int j = V.int k) = decide (j = k) from by simp]
  exact q⟩
theorem rd_ite {b : Bool} {A B : Prop} (h1 : b = true → A) (h2 : b = false → B) : if b = true then A else B := by
  cases b with
  | true => exact h1 rfl
  | false => exact h2 rfl
theorem rd_new {o : HO} {R : V → Hp → Prop} (hl : H = H) (h : ∀ p, H p = none → R (.ref p) (upd H p o)) : ∀ p, H p = none → R (.ref p) (upd H p o) := h
theorem rd_lenT {p : Addr} {xs : List V} (h : SqT K H p xs) (q : Q (.int (xs.length : Int)) H) : ∃ x n, [V.ref p] = [x] ∧ LenV K x H n ∧ Q (.int (n : Nat)) H := ⟨_, _, rfl, Or.inr ⟨xs, h, rfl⟩, q⟩
theorem rd_lenL {p : Addr} {xs : List V} (h : SqL K H p xs) (q : Q (.int (xs.length : Int)) H) : ∃ x n, [V.ref p] = [x] ∧ LenV K x H n ∧ Q (.int (n : Nat)) H := ⟨_, _, rfl, Or.inl ⟨xs, h, rfl⟩, q⟩
theorem rd_ixT {p : Addr} {xs : List V} {i : Int} (h : SqT K H p xs) (ha : atI xs i = some v) (q : Q v H) : rIx K (.ref p) (.int i) H Q := .inr (.inl ⟨p, xs, i, v, rfl, rfl, h, ha, q⟩)
theorem rd_ixL {p : Addr} {xs : List V} {i : Int} (h : SqL K H p xs) (ha : atI xs i = some v) (q : Q v H) : rIx K (.ref p) (.int i) H Q := .inl ⟨p, xs, i, v, rfl, rfl, h, ha, q⟩
theorem rd_tupOfL {p : Addr} {xs : List V} (h : SqL K H p xs) (q : NewT H xs Q) : rTupOf K [.ref p] H Q := ⟨p, xs, rfl, .inl ⟨h, q⟩⟩
theorem rd_app {l : Addr} {xs : List V} (h : H l = some (.lst xs)) (hz : xs.length < sizeLine) (q : Q .non (upd H l (.lst (xs ++ [y])))) : tyV K "list" (.ref l) H ∧ rAppend (.ref l) [y] H Q := ⟨.inl ⟨rfl, _, .inl (.inl h)⟩, l, xs, y, rfl, rfl, h, hz, q⟩
theorem tyL {l : Addr} {xs : List V} (h : SqL K H l xs) : tyV K "list" (.ref l) H := .inl ⟨rfl, _, h⟩
end
end XC
namespace XC
open PySem PySem.Spec PyProof.Rows L2 XA XB
section
variable {X : Cx} {tg : Expr}
def iU (K : PySem.W.Frag) (tl : TE) : TI := fun σ H R => iList K tl σ H R ∨ iTup K tl σ H R
theorem pi_U {l : Expr} {tl : TE} (hl : PE X l tl) : PI X tg l (iU X.K tl) :=
  ⟨fun pins s σ H R I h => h.elim (fun h => (pi_list hl).run pins s σ H R I h) fun h => (pi_tup hl).run pins s σ H R I h⟩
end
/-! ### an exception class of the program -/
structure Xc (K : PySem.W.Frag) (mg : Str → Option Value) (x : Str) (C : Addr) : Prop where
  g : mg x = some (.ref C)
  x : PySem.W.excIn K C He.veBase "ValueError.__new__" = true
  k : PySem.W.keepIn K (.ref C) = true
  b : PySem.W.subIn K (.ref C) (.type "BaseException") = some true
  t : PySem.W.typeIn K (.ref C) = some (.type "type")
  c : ExcC K C
theorem pmkx {X : Cx} {C : Addr} {x : Str} {e : Expr} {ta : TE} {p pos : Pos} (T : Xc X.K X.mg x C) (hg : Gl X x) (he : PE X e ta) (hs : starEach [e] X.env = (false, eval e X.env) :: starEach [] X.env := by rfl) (hdb : (x == ("__debug__" : Str)) = false := by decide) :
    PMk X (.Call (.Name x p) [e] [] pos) (fun σ H Q => ta σ H fun _ H1 => Q (.ref C) none H1) := SkE.pmk_own1 PySem.F.excBase_ValueError T.x T.g T.k (raises_own T.b T.t) hg he hs hdb
/-! ### _law_caught -/
/-- what is made of the lambda's reading: None, or the error that it raised -/
def TCaught (K : PySem.W.Frag) (CS : Addr) : (XK → Hp → VK → Prop) → Hp → VK → Prop := fun tl H Q => ∀ (Ech : XK) (Q' : VK),
  (∀ cls d H', PySem.W.exmOne K cls (.ref CS) = some true → (∀ a, H' a = none → Q (.ref a) (upd H' a (ExV cls d a))) → Ech cls d H') → (∀ v H', Q .non H' → Q' v H') → tl Ech H Q'
/-- an expression whose value is dropped, told by its place alone -/
theorem caught_gives {X : Cx} {g CS : Addr} {cdg : Value} {sg : Scope} {q e : Str} {j : Nat} {p1 p2 p3 p4 p5 p6 p7 p8 p9 p10 p11 p12 p13 p14 p15 : Pos} (nd : (["action", "found", "error"] : List Str).Nodup) (hge : sg.names.lookup e = some .globalImplicit) (hme : X.mg e = some (.ref CS)) (hde : (e == ("__debug__" : Str)) = false)
    (hf : sg.names.lookup ("found" : Str) = some .local) (hr : sg.names.lookup ("error" : Str) = some .local) :
    LamX.GivesTo X ["action", "found", "error"] "_law_caught" sg g cdg [.Assign [.Name "found" p1] (.Constant .none j p2) p3,
      .Try [.Expr (.Call (.Name "action" p4) [] [] p5) p6] [.ExceptHandler (some (.Name e p7)) (some "error") [.Assign [.Name "found" p8] (.Name "error" p9) p10] p11] [] [] p12,
      .Return (some (.Name "found" p13)) p14] "action" q (TCaught X.K CS) := by
  intro f c' s H Q tl act hc h
  let Y : Cx := (cxOf C8.CX0 X.prog X.w X.K X.mg X.base ["action", "found", "error"] "_law_caught" sg g cdg X.A X.stack s H C8.E0).nox
  have hgl : Gl Y e := hge
  have body : ∀ (W : WX) (pn : List (Addr × Obj)) (xe : Value → Shared → Prop), Takes (Y.tr pn xe) W → PassesOwn (model Y.prog Y.w) Y.A Y.env xe →
      PSs (Y.tr pn xe) [.Expr (.Call (.Name "action" p4) [] [] p5) p6] (fun D σ H => ∃ Ech : XK, (∀ cls d (σ' : L2.St) H', σ'.length = 3 → Ech cls d H' → W cls d σ' H') ∧ σ[0]? = some (some (.ref f)) ∧ H c' = some (LamX.CodeO c' q) ∧ tl Ech H fun _ H' => D.nx σ H') := by
    intro W pn xe tk hp
    refine ⟨fun pins s1 σ1 H1 D I h1 => ?_⟩
    obtain ⟨Ech, hW, h2, h3, h4⟩ := h1
    have tk2 : Takes (Y.tr pn xe) (fun cls d σ' H' => σ'.length = 3 → W cls d σ' H') := fun u s' ⟨a, B, sI, pins', σ', H', cls, d, e1, I', nb, up, sky, na, os, ag, w⟩ =>
      tk u s' ⟨a, B, sI, pins', σ', H', cls, d, e1, I', nb, up, sky, na, os, ag, w I'.len⟩
    have hp := act (fun cls d σ' H' => σ'.length = 3 → W cls d σ' H') pn xe Ech p4 p5 tk2 fun cls d σ' H' q l => hW cls d σ' H' l q
    exact (pss_one (ps_expr (pos := p6) hp)).run pins s1 σ1 H1 D I ⟨h2, h3, h4⟩
  have suite : ∀ (a : Addr) (oe : Obj) (cls : Value) (d : Option Addr) (pn : List (Addr × Obj)), Zc cls d oe → (∃ vs, oe.data = .fields vs) → PSs (Y.suite a ((a, oe) :: pn)) [.Assign [.Name "found" p8] (.Name "error" p9) p10] (tAsg (tVar 2) (gName 1)) := fun a oe cls d pn _ _ =>
    pss_one (ps_set (X := Y.suite a ((a, oe) :: pn)) (i := 1) nd rfl (.inl hf) (pe_var (X := Y.suite a ((a, oe) :: pn)) (i := 2) rfl (.inl hr)) (hf := .inr hf))
  refine ⟨_, pss_cons (ps_set (X := Y) (i := 1) nd rfl (.inl hf) pe_non (hf := .inr hf))
    (pss_cons (ps_try_asV (X := Y) (i := 2) (c := .ref CS) rfl rfl rfl nd rfl hr ⟨hgl, hde, .inl hme⟩ L2.takes0 body suite)
    (pss_one (ps_ret (pe_var (X := Y) (i := 1) rfl (.inl hf))))), ?_⟩
  refine ⟨fun cls d H' => PySem.W.exmOne X.K cls (.ref CS) = some true ∧ ∀ a, H' a = none → Q (.ref a) (upd H' a (ExV cls d a)), fun cls d σ' H' hl w => ?_, rfl, hc, ?_⟩
  · obtain ⟨m, k⟩ := w
    refine ⟨true, m, fun _ a ha => ?_, fun z => nomatch z⟩
    have l2 : 2 < σ'.length := by omega
    refine ⟨.ref a, ?_, ?_⟩
    · rw [List.getElem?_set_self l2]
    · refine ⟨.ref a, ?_, k a ha⟩
      rw [List.getElem?_set_ne (by decide), List.getElem?_set_self (by simp only [List.length_set]; omega)]
  · exact h _ _ (fun cls d H' m k => ⟨m, k⟩) fun v H' q => ⟨.non, rfl, q⟩
end XC

/-! XM: free reduction of lists of whole numbers; core Lean only. -/
namespace XM
/-- a letter comes onto a stack: it goes away with its undo, or lies on top -/
def push : List Int → Int → List Int
  | [], x => [x]
  | y :: r, x => if y = -x then r else x :: y :: r
def stack (st xs : List Int) : List Int := xs.foldl push st
def red (xs : List Int) : List Int := (stack [] xs).reverse
theorem push_c {y x : Int} (r : List Int) (e : y = -x) : push (y :: r) x = r := by
  show (if y = -x then r else x :: y :: r) = r
  rw [if_pos e]
theorem push_n {y x : Int} (r : List Int) (e : ¬ y = -x) : push (y :: r) x = x :: y :: r := by
  show (if y = -x then r else x :: y :: r) = x :: y :: r
  rw [if_neg e]
/-- no neighbours that undo one another -/
def Ok : List Int → Prop
  | [] => True
  | [_] => True
  | y :: z :: r => y ≠ -z ∧ Ok (z :: r)
theorem Ok.tail : ∀ {y : Int} {r : List Int}, Ok (y :: r) → Ok r
  | _, [], _ => trivial
  | _, _ :: _, h => h.2
theorem ok_push {st : List Int} (h : Ok st) (x : Int) : Ok (push st x) := by
  cases st with
  | nil => trivial
  | cons y r =>
    by_cases e : y = -x
    · rw [push_c r e]; exact h.tail
    · rw [push_n r e]; exact ⟨fun z => e (by omega), h⟩
theorem ok_stack : ∀ (xs : List Int) {st : List Int}, Ok st → Ok (stack st xs)
  | [], _, h => h
  | x :: xs, _, h => ok_stack xs (ok_push h x)
theorem push_back {st : List Int} (h : Ok st) (x : Int) : push (push st x) (-x) = st := by
  cases st with
  | nil => exact push_c [] (by omega)
  | cons y r =>
    by_cases e : y = -x
    · rw [push_c r e]
      cases r with
      | nil => rw [e]; rfl
      | cons z r =>
        have hz : ¬ z = - -x := fun q => h.1 (by omega)
        rw [push_n r hz, e]
    · rw [push_n r e]
      exact push_c (y :: r) (by omega)
theorem stack_append (st xs ys : List Int) : stack st (xs ++ ys) = stack (stack st xs) ys := by
  unfold stack; rw [List.foldl_append]
theorem stack_snoc (st xs : List Int) (x : Int) : stack st (xs ++ [x]) = push (stack st xs) x := by
  rw [stack_append]; rfl
/-- the reduced word acts on stacks as the word does -/
theorem stack_red : ∀ (n : Nat) (xs : List Int), xs.length = n → ∀ {st : List Int}, Ok st → stack st (red xs) = stack st xs := by
  intro n
  induction n with
  | zero =>
    intro xs h st _
    have e : xs = [] := List.eq_nil_of_length_eq_zero h
    subst e; rfl
  | succ n ih =>
    intro xs h st hs
    obtain ⟨zs, x, rfl⟩ : ∃ zs x, xs = zs ++ [x] := by
      cases hx : xs.reverse with
      | nil =>
        have : xs = [] := by simpa using hx
        subst this; simp at h
      | cons x r => exact ⟨r.reverse, x, by rw [← List.reverse_reverse xs, hx, List.reverse_cons]⟩
    have hz : zs.length = n := by simpa using h
    have e1 := ih zs hz hs
    rw [stack_snoc, ← e1]
    show stack st (stack [] (zs ++ [x])).reverse = push (stack st (stack [] zs).reverse) x
    rw [stack_snoc]
    cases hk : stack [] zs with
    | nil => rfl
    | cons y r =>
      by_cases e : y = -x
      · rw [push_c r e, List.reverse_cons, stack_snoc, e]
        have hr : Ok (stack st r.reverse) := ok_stack _ hs
        have := push_back hr (-x)
        rw [Int.neg_neg] at this
        exact this.symm
      · rw [push_n r e, List.reverse_cons, stack_snoc]
theorem act (xs : List Int) {st : List Int} (h : Ok st) : stack st (red xs) = stack st xs := stack_red _ xs rfl h
theorem red_red (xs : List Int) : red (red xs) = red xs := by
  show (stack [] (red xs)).reverse = _
  rw [act xs (st := []) True.intro]; rfl
theorem red_left (xs ys : List Int) : red (red xs ++ ys) = red (xs ++ ys) := by
  unfold red
  rw [stack_append, stack_append]
  have := act xs (st := []) True.intro
  unfold red at this
  rw [this]
theorem red_right (xs ys : List Int) : red (xs ++ red ys) = red (xs ++ ys) := by
  show (stack [] (xs ++ red ys)).reverse = (stack [] (xs ++ ys)).reverse
  rw [stack_append, stack_append, act ys (ok_stack xs (st := []) True.intro)]
/-! ### lengths, letters, counts -/
theorem push_len (st : List Int) (x : Int) : (push st x).length ≤ st.length + 1 := by
  cases st with
  | nil => simp [push]
  | cons y r =>
    by_cases e : y = -x
    · rw [push_c r e, List.length_cons]; omega
    · rw [push_n r e, List.length_cons]; omega
theorem stack_len : ∀ (xs st : List Int), (stack st xs).length ≤ st.length + xs.length
  | [], st => by simp [stack]
  | x :: xs, st => by
    have h1 := stack_len xs (push st x)
    have h2 := push_len st x
    show (stack (push st x) xs).length ≤ _
    simp only [List.length_cons]; omega
theorem red_len (xs : List Int) : (red xs).length ≤ xs.length := by
  have := stack_len xs []
  simpa [red] using this
theorem push_mem {st : List Int} {x z : Int} (h : z ∈ push st x) : z ∈ st ∨ z = x := by
  cases st with
  | nil => exact .inr (List.mem_singleton.mp h)
  | cons y r =>
    by_cases e : y = -x
    · rw [push_c r e] at h
      exact .inl (List.mem_cons_of_mem _ h)
    · rw [push_n r e] at h
      rcases List.mem_cons.mp h with e | e
      · exact .inr e
      · exact .inl e
theorem stack_mem : ∀ {xs st : List Int} {z : Int}, z ∈ stack st xs → z ∈ st ∨ z ∈ xs
  | [], _, _, h => .inl h
  | x :: xs, st, z, h => by
    rcases stack_mem (xs := xs) (st := push st x) h with q | q
    · rcases push_mem q with q | q
      · exact .inl q
      · exact .inr (by rw [q]; exact List.mem_cons_self)
    · exact .inr (List.mem_cons_of_mem _ q)
theorem red_mem {xs : List Int} {z : Int} (h : z ∈ red xs) : z ∈ xs := by
  unfold red at h
  rcases stack_mem (List.mem_reverse.mp h) with q | q
  · cases q
  · exact q
/-- how often a letter stands, less how often its undo -/
def bal (d : Int) (xs : List Int) : Int := (xs.count d : Int) - (xs.count (-d) : Int)
theorem bal_cons (d x : Int) (xs : List Int) (hd : d ≠ 0) : bal d (x :: xs) = bal d xs + (if x = d then 1 else if x = -d then -1 else 0) := by
  unfold bal
  rw [List.count_cons, List.count_cons]
  by_cases h1 : x = d
  · subst h1
    have h2 : ¬ x = -x := fun z => hd (by omega)
    simp [h2]; omega
  · by_cases h2 : x = -d
    · have h3 : ¬ (-d = d) := fun z => hd (by omega)
      subst h2
      simp [h3]; omega
    · simp [h1, h2]
theorem bal_push (d : Int) (hd : d ≠ 0) (st : List Int) (x : Int) : bal d (push st x) = bal d st + (if x = d then 1 else if x = -d then -1 else 0) := by
  cases st with
  | nil => exact bal_cons d x [] hd
  | cons y r =>
    by_cases e : y = -x
    · rw [push_c r e, bal_cons d y r hd]
      subst e
      by_cases h1 : x = d
      · subst h1
        have h3 : ¬ (-x = x) := fun z => hd (by omega)
        rw [if_neg h3, if_pos rfl, if_pos rfl]; omega
      · by_cases h2 : x = -d
        · have h3 : -x = d := by omega
          rw [if_pos h3, if_neg h1, if_pos h2]; omega
        · have h3 : ¬ (-x = d) := fun z => h2 (by omega)
          have h4 : ¬ (-x = -d) := fun z => h1 (by omega)
          rw [if_neg h3, if_neg h4, if_neg h1, if_neg h2]; omega
    · rw [push_n r e, bal_cons d x (y :: r) hd]
theorem bal_stack (d : Int) (hd : d ≠ 0) : ∀ (xs st : List Int), bal d (stack st xs) = bal d st + bal d xs
  | [], st => by simp [stack, bal]
  | x :: xs, st => by
    show bal d (stack (push st x) xs) = _
    rw [bal_stack d hd xs (push st x), bal_push d hd, bal_cons d x xs hd]; omega
theorem bal_rev (d : Int) (xs : List Int) : bal d xs.reverse = bal d xs := by
  unfold bal; rw [List.count_reverse, List.count_reverse]
theorem bal_red (d : Int) (hd : d ≠ 0) (xs : List Int) : bal d (red xs) = bal d xs := by
  unfold red
  rw [bal_rev, bal_stack d hd]; simp [bal]
/-- undone -/
def inv (xs : List Int) : List Int := xs.reverse.map fun x => -x
theorem inv_len (xs : List Int) : (inv xs).length = xs.length := by simp [inv]
theorem red_nil : red [] = [] := rfl
end XM

set_option linter.all false
set_option maxRecDepth 100000
set_option maxHeartbeats 4000000
/-! XD: data, comprehensions without side effects, heaps. -/
namespace XD
open PySem PySem.Spec PyProof.Rows L2 XA XB XC
theorem sqT_same {K : PySem.W.Frag} {H H' : Hp} {a : Addr} {xs : List V} (e : Same H H') (h : SqT K H a xs) : SqT K H' a xs := by
  rcases h with (h | ⟨o, h⟩) | h
  · exact .inl (.inl (e _ _ h))
  · exact .inl (.inr ⟨o, e _ _ h⟩)
  · exact .inr h
theorem same_new {H : Hp} {p : Addr} {o : HO} (h : H p = none) : Same H (upd H p o) := fun b u q => by
  rw [upd_ne (ne_of_none q h)]
  exact q
/-- an object that wasn't there ahead may change -/
theorem same_mut {H H' : Hp} {p : Addr} {o : HO} (e : Same H H') (h : H p = none) : Same H (upd H' p o) := fun b u q => by
  rw [upd_ne (ne_of_none q h)]
  exact e _ _ q
theorem lz {n : Nat} (h : n ≤ 100000) : n ≤ sizeLine := Nat.le_trans h (by decide)
theorem lzl {n : Nat} (h : n < 100000) : n < sizeLine := Nat.lt_of_lt_of_le h (by decide)
/-! ### a comprehension whose parts change nothing that was there -/
theorem lc_pure {J : It} {n : Nat} {G : Hp → Prop} {Y : Nat → Hp → V → Hp → Prop} (w : L2.Walk J n G Y) {g : TG} {tt : TT} {te : TE} {vs : List Nat} {σ : L2.St} {H1 : Hp} {D : Addr} {Qd : Hp → Prop} (hD : H1 D = none) (its : List V) (p : V → Bool) (f : V → V)
    (hn : its.length = n) (hz : n < 100000) (hG : ∀ H', Same H1 H' → G H') (hY : ∀ i H x H', i < n → Y i H x H' → H' = H ∧ its[i]? = some x)
    (hs : ∀ x H', x ∈ its → Same H1 H' → ∀ (R : V → Hp → Prop) (R0 : Hp → Prop), (p x = true → ∀ H'', Same H' H'' → R (f x) H'') → (p x = false → ∀ H'', Same H' H'' → R0 H'') →
      g x (wipe σ vs) H' fun σ2 H2 => wipe σ2 vs = wipe σ vs ∧ tt σ2 H2 fun b H3 => if b = true then te σ2 H3 R else R0 H3)
    (hd : ∀ H', Same H1 H' → H' D = some (.lst ((its.filter p).map f)) → Qd H') :
    ∃ W : Nat → Nat → Hp → Prop, (∃ m, W 0 m (upd H1 D (.lst []))) ∧ ∀ i m H, W i m H →
      (J.stop i H ∧ Qd H) ∨ (J.go i H ∧ ∃ Nx : Hp → Prop, (∀ H', Nx H' → ∃ m', m' < m ∧ W (i + 1) m' H') ∧ ∀ x H', J.yld i H x H' → g x (wipe σ vs) H' fun σ2 H2 => wipe σ2 vs = wipe σ vs ∧ tt σ2 H2 fun b H3 =>
        if b = true then te σ2 H3 fun y H4 => ∃ acc, H4 D = some (.lst acc) ∧ acc.length < sizeLine ∧ Nx (upd H4 D (.lst (acc ++ [y]))) else Nx H3) := by
  have hl : ∀ i, ((((its.take i).filter p).map f).length) ≤ n := fun i => by
    rw [List.length_map, ← hn]
    exact Nat.le_trans (List.length_filter_le _ _) (by rw [List.length_take]; omega)
  refine lc_it w (fun i H => Same H1 H ∧ H D = some (.lst (((its.take i).filter p).map f))) ⟨same_new hD, upd_same⟩ (fun i H _ h => hG H h.1) (fun i x H H' hi h y => ?_) fun H h => ?_
  · obtain ⟨rfl, hx⟩ := hY i H x _ hi y
    have et : its.take (i + 1) = its.take i ++ [x] := by rw [List.take_add_one, hx] <;> rfl
    refine hs x _ (List.mem_of_getElem? hx) h.1 _ _ (fun hp H'' e => ⟨_, e _ _ h.2, lzl (Nat.lt_of_le_of_lt (hl i) hz), same_mut (h.1.trans e) hD, ?_⟩) (fun hp H'' e => ⟨h.1.trans e, ?_⟩)
    · rw [upd_same, et, List.filter_append, List.map_append]
      simp [List.filter, hp]
    · rw [e _ _ h.2, et, List.filter_append]
      simp [List.filter, hp]
  · refine hd H h.1 ?_
    rw [h.2, ← hn, List.take_length]
theorem walk_revT {K : PySem.W.Frag} {a : Addr} {xs : List V} : L2.Walk (RT.ItvT K a xs.length) xs.length (fun H => SqT K H a xs) (fun i H x H' => H' = H ∧ xs.reverse[i]? = some x) := by
  refine ⟨fun i _ hi q => ⟨hi, xs, xs[xs.length - 1 - i]'(by omega), q, by simp [show xs.length - 1 - i < xs.length by omega]⟩, fun _ _ => Nat.le_refl _, fun i _ x _ hi q y => ⟨y.1, ?_⟩⟩
  rw [List.getElem?_reverse hi]
  exact y.2 xs q
/-! ### values of any kind -/
inductive Dat where
  | flat (v : V)
  | tup (xs : List V)
  | lst (xs : List V)
  | dct
def plainV : V → Bool
  | .non => true
  | .bl _ => true
  | .int _ => true
  | .str _ => true
  | _ => false
/-- what a tuple holds: plain values, and not too many -/
def okB (xs : List V) : Bool := xs.all plainV && decide (xs.length ≤ 20000)
theorem okB_all {xs : List V} (h : okB xs = true) : xs.all plainV = true := (Bool.and_eq_true_iff.mp h).1
theorem okB_len {xs : List V} (h : okB xs = true) : xs.length ≤ 20000 := of_decide_eq_true (Bool.and_eq_true_iff.mp h).2
theorem okI {xs : List Int} (h : xs.length ≤ 20000) : okB (xs.map V.int) = true := Bool.and_eq_true_iff.mpr ⟨by simp [List.all_map, plainV], decide_eq_true (by rw [List.length_map]; exact h)⟩
def Rp (K : PySem.W.Frag) (H : Hp) (v : V) : Dat → Prop
  | .flat u => v = u ∧ plainV u = true
  | .tup xs => ∃ a, v = .ref a ∧ SqT K H a xs ∧ okB xs = true
  | .lst xs => ∃ a, v = .ref a ∧ SqL K H a xs
  | .dct => ∃ a kvs, v = .ref a ∧ H a = some (.dK kvs) ∧ kvs.length ≤ 1
theorem Rp.same {K : PySem.W.Frag} {H H' : Hp} {v : V} {d : Dat} (h : Rp K H v d) (e : Same H H') : Rp K H' v d := by
  cases d with
  | flat u => exact h
  | tup xs => obtain ⟨a, q, r, z⟩ := h; exact ⟨a, q, sqT_same e r, z⟩
  | lst xs => obtain ⟨a, q, r⟩ := h; exact ⟨a, q, e.seq r⟩
  | dct => obtain ⟨a, kvs, q, r, z⟩ := h; exact ⟨a, kvs, q, e _ _ r, z⟩
def Dat.ty : Dat → String
  | .flat .non => "NoneType"
  | .flat (.bl _) => "bool"
  | .flat (.int _) => "int"
  | .flat (.str _) => "str"
  | .flat _ => "object"
  | .tup _ => "tuple"
  | .lst _ => "list"
  | .dct => "dict"
theorem Rp.ty {K : PySem.W.Frag} {H : Hp} {v : V} {d : Dat} (h : Rp K H v d) : TyX K H v (.type d.ty) := by
  cases d with
  | flat u =>
    obtain ⟨rfl, hp⟩ := h
    cases v with
    | non => exact .base .non
    | bl b => exact .base (.bl b)
    | int i => exact .base (.int i)
    | str x => exact .base (.str x)
    | _ => cases hp
  | tup xs =>
    obtain ⟨a, rfl, (q | ⟨o, q⟩) | q, _⟩ := h
    · exact .base (.tup q)
    · exact .fTuple q
    · obtain ⟨o, its, n, e, c, _⟩ := q
      exact .kTuple e c
  | lst xs =>
    obtain ⟨a, rfl, (q | ⟨o, q⟩) | q⟩ := h
    · exact .base (.lst q)
    · exact .base (.frz q)
    · obtain ⟨o, its, n, e, c, _⟩ := q
      exact .kList e c
  | dct =>
    obtain ⟨a, kvs, rfl, q, _⟩ := h
    exact .base (.dK q)
/-- isinstance(v, T) -/
theorem rd_isT {K : PySem.W.Frag} {H : Hp} {v : V} {d : Dat} {T : String} {b : Bool} {Q : VK} (h : Rp K H v d) (e : kitB d.ty T = some b) (q : Q (.bl b) H) : rIsU K [v, .ty T] H Q :=
  .inl ⟨v, .ty T, .type d.ty, .type T, b, rfl, .ty T, h.ty, kit_ty e, q⟩
def Dat.isI : Dat → Bool
  | .flat (.int _) => true
  | .flat (.bl _) => true
  | _ => false
def Dat.isB : Dat → Bool
  | .flat (.bl _) => true
  | _ => false
def Dat.isT : Dat → Bool
  | .tup _ => true
  | _ => false
theorem kit_int (d : Dat) : kitB d.ty "int" = some d.isI := by
  cases d with
  | flat v => cases v <;> (simp only [Dat.ty, Dat.isI]; decide +kernel)
  | tup xs => simp only [Dat.ty, Dat.isI]; decide +kernel
  | lst xs => simp only [Dat.ty, Dat.isI]; decide +kernel
  | dct => simp only [Dat.ty, Dat.isI]; decide +kernel
theorem kit_bool (d : Dat) : kitB d.ty "bool" = some d.isB := by
  cases d with
  | flat v => cases v <;> (simp only [Dat.ty, Dat.isB]; decide +kernel)
  | tup xs => simp only [Dat.ty, Dat.isB]; decide +kernel
  | lst xs => simp only [Dat.ty, Dat.isB]; decide +kernel
  | dct => simp only [Dat.ty, Dat.isB]; decide +kernel
theorem kit_tuple (d : Dat) : kitB d.ty "tuple" = some d.isT := by
  cases d with
  | flat v => cases v <;> (simp only [Dat.ty, Dat.isT]; decide +kernel)
  | tup xs => simp only [Dat.ty, Dat.isT]; decide +kernel
  | lst xs => simp only [Dat.ty, Dat.isT]; decide +kernel
  | dct => simp only [Dat.ty, Dat.isT]; decide +kernel
/-- a whole number, no truth value -/
def Dat.whole (d : Dat) : Bool := d.isI && !d.isB
theorem Dat.whole_int {d : Dat} (h : d.whole = true) : ∃ i, d = .flat (.int i) := by
  cases d with
  | flat v => cases v <;> first | exact ⟨_, rfl⟩ | (simp [Dat.whole, Dat.isI, Dat.isB] at h)
  | tup xs => simp [Dat.whole, Dat.isI] at h
  | lst xs => simp [Dat.whole, Dat.isI] at h
  | dct => simp [Dat.whole, Dat.isI] at h
/-- a whole from lo to hi -/
def Dat.from (d : Dat) (lo hi : Int) : Bool := match d with
  | .flat (.int i) => decide (lo ≤ i) && decide (i ≤ hi)
  | _ => false
theorem Dat.from_no {d : Dat} {lo hi : Int} (h : d.whole = false) : d.from lo hi = false := by
  cases d with
  | flat v => cases v <;> first | rfl | (simp [Dat.whole, Dat.isI, Dat.isB] at h)
  | tup xs => rfl
  | lst xs => rfl
  | dct => rfl
def letV (n : Int) : V → Bool
  | .int i => decide (-n ≤ i) && decide (i ≤ n) && !decide (i = 0)
  | _ => false
/-- a letter of n deeds -/
def Dat.letter (n : Int) (d : Dat) : Bool := match d with
  | .flat v => letV n v
  | _ => false
theorem Dat.letter_no {n : Int} {d : Dat} (h : d.from (-n) n = false) : d.letter n = false := by
  cases d with
  | flat v =>
    cases v with
    | int i =>
      have h : (decide (-n ≤ i) && decide (i ≤ n)) = false := h
      show (decide (-n ≤ i) && decide (i ≤ n) && !decide (i = 0)) = false
      rw [h] <;> rfl
    | _ => rfl
  | tup xs => rfl
  | lst xs => rfl
  | dct => rfl
theorem Dat.from_int {d : Dat} {lo hi : Int} (h : d.from lo hi = true) : ∃ i, d = .flat (.int i) ∧ lo ≤ i ∧ i ≤ hi := by
  cases d with
  | flat v =>
    cases v with
    | int i =>
      have h : (decide (lo ≤ i) && decide (i ≤ hi)) = true := h
      simp only [Bool.and_eq_true, decide_eq_true_eq] at h
      exact ⟨i, rfl, h⟩
    | _ => cases h
  | tup xs => cases h
  | lst xs => cases h
  | dct => cases h
/-- letters of n deeds alone -/
def Dat.lets (n : Int) (d : Dat) : Bool := match d with
  | .tup xs => xs.all (letV n)
  | _ => false
/-- a row of n deeds -/
def Dat.row (n : Int) (d : Dat) : Bool := match d with
  | .tup xs => decide (xs.length ≤ 200) && xs.all (letV n)
  | _ => false
end XD
namespace XD
open PySem PySem.Spec PyProof.Rows L2 XA XB XC
section
variable {K : PySem.W.Frag} {a : Addr} {xs : List V} {g : TG} {tb : TS} {D : Ends} {σ : L2.St} {H : Hp} {i : Nat}
theorem forT (Pv : Nat → L2.St → Hp → Prop) (hv : σ[i]? = some (some (.ref a))) (hS : SqT K H a xs) (h0 : Pv 0 σ H) (hl : ∀ i σ H, i ≤ xs.length → Pv i σ H → SqT K H a xs)
    (hs : ∀ i x σ H, xs[i]? = some x → Pv i σ H → g x σ H fun σ2 H2 => tb { D with nx := Pv (i + 1), ct := Pv (i + 1), bk := D.nx } σ2 H2) (hd : ∀ σ H, Pv xs.length σ H → D.nx σ H) : tFor (iU K (tVar i)) g tb D σ H :=
  Or.inr ⟨.ref a, hv, a, rfl, ⟨xs, hS⟩, for_tup Pv h0 hl hs hd⟩
theorem forL (Pv : Nat → L2.St → Hp → Prop) (hv : σ[i]? = some (some (.ref a))) (hS : SqL K H a xs) (h0 : Pv 0 σ H) (hl : ∀ i σ H, i ≤ xs.length → Pv i σ H → SqL K H a xs)
    (hs : ∀ i x σ H, xs[i]? = some x → Pv i σ H → g x σ H fun σ2 H2 => tb { D with nx := Pv (i + 1), ct := Pv (i + 1), bk := D.nx } σ2 H2) (hd : ∀ σ H, Pv xs.length σ H → D.nx σ H) : tFor (iU K (tVar i)) g tb D σ H :=
  Or.inl ⟨.ref a, hv, a, rfl, ⟨xs, hS⟩, for_list Pv h0 hl hs hd⟩
end
theorem rd_lc {wi : TI} {g : TG} {tt : TT} {te : TE} {vs : List Nat} {σ : L2.St} {H : Hp} {Q : VK} (h : wi σ H fun J H1 => ∀ D, H1 D = none → ∃ W : Nat → Nat → Hp → Prop, (∃ m, W 0 m (upd H1 D (.lst []))) ∧ ∀ i m H, W i m H →
      (J.stop i H ∧ Q (.ref D) H) ∨ (J.go i H ∧ ∃ Nx : Hp → Prop, (∀ H', Nx H' → ∃ m', m' < m ∧ W (i + 1) m' H') ∧ ∀ x H', J.yld i H x H' → g x (wipe σ vs) H' fun σ2 H2 => wipe σ2 vs = wipe σ vs ∧ tt σ2 H2 fun b H3 =>
        if b = true then te σ2 H3 fun y H4 => ∃ acc, H4 D = some (.lst acc) ∧ acc.length < sizeLine ∧ Nx (upd H4 D (.lst (acc ++ [y]))) else Nx H3)) : tLc wi g tt te vs σ H Q := h
theorem rd_yes {σ : L2.St} {H : Hp} {Q : Bool → Hp → Prop} (h : Q true H) : tYes σ H Q := h
/-- a value's truth as a test -/
def tTru (K : PySem.W.Frag) (te : TE) : TT := fun σ H Q => te σ H fun x H' => ∃ k, TruV K x H' k ∧ Q k H'
theorem pt_tru {X : Cx} {a : Expr} {ta : TE} (ha : PE X a ta) (he : ∀ whole, isTrue a X.env whole = (do let v ← whole; standAt a.pos; holding [v] (truthy v))) : PT X a (tTru X.K ta) := pt_truth ha he
theorem rd_tru {K : PySem.W.Frag} {te : TE} {σ : L2.St} {H : Hp} {Q : Bool → Hp → Prop} (h : te σ H fun x H' => ∃ k, TruV K x H' k ∧ Q k H') : tTru K te σ H Q := h
theorem item_of {ns : List Int} {i : Nat} {y : V} (hi : (ns.map V.int)[i]? = some y) : ∃ z, ns[i]? = some z ∧ y = .int z := by
  rw [List.getElem?_map] at hi
  cases e : ns[i]? with
  | none => rw [e] at hi; cases hi
  | some z => rw [e] at hi; exact ⟨z, rfl, (Option.some.inj hi).symm⟩
theorem take_more {α : Type} {l : List α} {i : Nat} {x : α} (h : l[i]? = some x) : l.take (i + 1) = l.take i ++ [x] := by
  rw [List.take_add_one, h] <;> rfl
/-- truth of a list -/
theorem truL {K : PySem.W.Frag} {H : Hp} {a : Addr} {xs : List V} {R : Bool → Prop} (h : SqL K H a xs) (q : R (!xs.isEmpty)) : ∃ k, TruV K (.ref a) H k ∧ R k := ⟨_, .inl ⟨xs, h, rfl⟩, q⟩
theorem truB {K : PySem.W.Frag} {H : Hp} {b : Bool} {R : Bool → Prop} (q : R b) : ∃ k, TruV K (.bl b) H k ∧ R k := ⟨_, rfl, q⟩
theorem lenT {K : PySem.W.Frag} {H : Hp} {p : Addr} {xs : List V} {R : Nat → Prop} (h : SqT K H p xs) (q : R xs.length) : ∃ x n, [V.ref p] = [x] ∧ LenV K x H n ∧ R n := ⟨_, _, rfl, Or.inr ⟨xs, h, rfl⟩, q⟩
theorem lenL {K : PySem.W.Frag} {H : Hp} {p : Addr} {xs : List V} {R : Nat → Prop} (h : SqL K H p xs) (q : R xs.length) : ∃ x n, [V.ref p] = [x] ∧ LenV K x H n ∧ R n := ⟨_, _, rfl, Or.inl ⟨xs, h, rfl⟩, q⟩
theorem app {l : Addr} {xs : List V} {y : V} {H : Hp} {Q : VK} (h : H l = some (.lst xs)) (hz : xs.length < 100000) (q : Q .non (upd H l (.lst (xs ++ [y])))) : rAppend (.ref l) [y] H Q := ⟨l, xs, y, rfl, rfl, h, lzl hz, q⟩
theorem tyl {K : PySem.W.Frag} {H : Hp} {l : Addr} {xs : List V} (h : H l = some (.lst xs)) : tyV K "list" (.ref l) H := tyL (.inl (.inl h))
theorem atI_last2 {α : Type} {xs : List α} {x : α} (h : xs.getLast? = some x) : atI xs (-1) = some x := by
  obtain ⟨ys, rfl⟩ := List.getLast?_eq_some_iff.mp h
  exact atI_last ys x
end XD

namespace XD
open PySem PySem.Spec PyProof.Rows L2 XA XB XC
/-! ### raise C(f'..') -/
/-- a text of written parts: it changes nothing -/
def Still (ta : TE) : Prop := ∀ (σ : L2.St) (H : Hp) (Q : VK), (∀ x, Q x H) → ta σ H Q
theorem ps_raiseX {X : Cx} {W : WX} {C : Addr} {x : Str} {e : Expr} {ta : TE} {p pos pos2 : Pos} (T : Xc X.K X.mg x C) (hg : Gl X x) (he : PE X e ta) (hst : Still ta) (tk : Takes X W) (hc : X.calm = true := by rfl)
    (hs : starEach [e] X.env = (false, eval e X.env) :: starEach [] X.env := by rfl) (hdb : (x == ("__debug__" : Str)) = false := by decide) :
    PS X (.Raise (some (.Call (.Name x p) [e] [] pos)) none pos2) (fun _ σ H => W (.ref C) none σ H) := by
  refine ⟨fun pins s σ H D I h => ?_⟩
  exact (ps_raise hc tk (pmkx T hg he hs hdb)).run pins s σ H D I (hst σ H _ fun _ => h)
abbrev tJ (ts : List TE) : TE := fun σ H Q => tJs ts Str.empty σ H fun out H1 => Q (.str out) H1
theorem still2 {a : Str} {i : Int} (h1 : (Str.empty ++ a).length ≤ sizeLine) (hi : i.natAbs.log2 < 1920) (h2 : (Str.empty ++ a ++ (toString i : Str)).length ≤ sizeLine) : Still (tJ [tC (.str a), tFmt (tC (.int i))]) :=
  fun _ _ _ q => ⟨a, rfl, h1, .inr ⟨i, rfl, hi, _, rfl, h2, q _⟩⟩
theorem still4 {a b : Str} {i j : Int} (h1 : (Str.empty ++ a).length ≤ sizeLine) (hi : i.natAbs.log2 < 1920) (h2 : (Str.empty ++ a ++ (toString i : Str)).length ≤ sizeLine) (h3 : (Str.empty ++ a ++ (toString i : Str) ++ b).length ≤ sizeLine) (hj : j.natAbs.log2 < 1920)
    (h4 : (Str.empty ++ a ++ (toString i : Str) ++ b ++ (toString j : Str)).length ≤ sizeLine) : Still (tJ [tC (.str a), tFmt (tC (.int i)), tC (.str b), tFmt (tC (.int j))]) :=
  fun _ _ _ q => ⟨a, rfl, h1, .inr ⟨i, rfl, hi, _, rfl, h2, b, rfl, h3, .inr ⟨j, rfl, hj, _, rfl, h4, q _⟩⟩⟩
theorem still3 {a b : Str} {i : Int} (h1 : (Str.empty ++ a).length ≤ sizeLine) (hi : i.natAbs.log2 < 1920) (h2 : (Str.empty ++ a ++ (toString i : Str)).length ≤ sizeLine) (h3 : (Str.empty ++ a ++ (toString i : Str) ++ b).length ≤ sizeLine) : Still (tJ [tC (.str a), tFmt (tC (.int i)), tC (.str b)]) :=
  fun _ _ _ q => ⟨a, rfl, h1, .inr ⟨i, rfl, hi, _, rfl, h2, b, rfl, h3, q _⟩⟩
end XD
namespace XD
open PySem PySem.Spec PyProof.Rows L2 XA XB XC
section
variable {K : PySem.W.Frag} {H : Hp} {a b : Addr} {xs ys : List V} {Q : VK}
theorem flat_same {k : Int} (h : xs = [] ∨ k = 1) : (List.replicate k.toNat xs).flatten = xs := by
  rcases h with e | e
  · subst e
    induction k.toNat with
    | zero => rfl
    | succ n ih => rw [List.replicate_succ, List.flatten_cons, ih] <;> rfl
  · subst e
    simp
theorem rd_rng1 {ta : TA} {σ : L2.St} {R : It → Hp → Prop} (h : ta σ H fun vs H1 => ∃ j : Int, vs = [.int j] ∧ -(2 ^ 62) ≤ j ∧ j < 2 ^ 62 ∧ R (Itr 0 j.toNat) H1) : iRng1 ta σ H R := h
theorem rd_rng2 {ta : TA} {σ : L2.St} {R : It → Hp → Prop} (h : ta σ H fun vs H1 => ∃ i j : Int, vs = [.int i, .int j] ∧ (-(2 ^ 62) ≤ i ∧ i < 2 ^ 62 ∧ -(2 ^ 62) ≤ j ∧ j < 2 ^ 62) ∧ R (Itr i (j - i).toNat) H1) : iRng2 ta σ H R := h
theorem rd_for {wi : TI} {g : TG} {tb : TS} {D : Ends} {σ : L2.St} (h : wi σ H fun J H1 => ∃ W : Nat → Nat → L2.St → Hp → Prop, (∃ m, W 0 m σ H1) ∧ ∀ i m σ H, W i m σ H →
  (J.stop i H ∧ D.nx σ H) ∨ (J.go i H ∧ ∃ N : L2.St → Hp → Prop, (∀ σ' H', N σ' H' → ∃ m', m' < m ∧ W (i + 1) m' σ' H') ∧ ∀ x H', J.yld i H x H' → g x σ H' fun σ2 H2 => tb { D with nx := N, ct := N, bk := D.nx } σ2 H2)) : tFor wi g tb D σ H := h
/-- t.count(k) -/
theorem rd_cntE {to te : TE} {σ : L2.St} (h : to σ H fun x H1 => ∃ (p : Addr) (ns : List Int), x = .ref p ∧ Tp H1 p (ns.map V.int) ∧ tCons te tNil σ H1 fun vs H2 => ∃ y, vs = [y] ∧ ∃ k, y = .int k ∧ Tp H2 p (ns.map V.int) ∧ Q (.int (ns.count k : Nat)) H2) : tCnt to te σ H Q := h
/-- tuple * int -/
theorem repS {k : Int} (h : SqT K H a xs) (h1 : -1000 ≤ k) (h2 : k ≤ 1000) (hz : xs.length ≤ 1000) (q : ∀ p H', Same H H' → SqT K H' p (List.replicate k.toNat xs).flatten → Q (.ref p) H') : rMulU K (.ref a) (.int k) H Q :=
  .inr ⟨a, k, xs, rfl, rfl, h, h1, h2, hz, fun e => q a H (Same.refl _) (by rw [flat_same e]; exact h), fun _ p o hp ho hd => q p _ (same_new hp) (Tp.sqT ⟨o, upd_same, ho, hd⟩)⟩
theorem repT {k : Int} (h : Tp H a xs) (h1 : -1000 ≤ k) (h2 : k ≤ 1000) (hz : xs.length ≤ 1000) (q : ∀ p H', Same H H' → Tp H' p (List.replicate k.toNat xs).flatten → Q (.ref p) H') : rMulU K (.ref a) (.int k) H Q :=
  .inr ⟨a, k, xs, rfl, rfl, h.sqT, h1, h2, hz, fun e => q a H (Same.refl _) (by rw [flat_same e]; exact h), fun _ p o hp ho hd => q p _ (same_new hp) ⟨o, upd_same, ho, hd⟩⟩
/-- tuple + tuple -/
theorem catS (h1 : SqT K H a xs) (h2 : SqT K H b ys) (hz : xs.length + ys.length ≤ 100000) (q : ∀ p H', Same H H' → SqT K H' p (xs ++ ys) → Q (.ref p) H') : rAddU K (.ref a) (.ref b) H Q :=
  .inr (.inl ⟨a, b, xs, ys, rfl, rfl, h1, h2, lz hz, fun e => q b H (Same.refl _) (by rw [e]; exact h2), fun _ e => q a H (Same.refl _) (by rw [e, List.append_nil]; exact h1), fun _ _ p hp => q p _ (same_new hp) (.inl (.inl upd_same))⟩)
/-- list + list -/
theorem catL (h1 : H a = some (.lst xs)) (h2 : H b = some (.lst ys)) (hz : xs.length + ys.length ≤ 100000) (q : ∀ p, H p = none → Q (.ref p) (upd H p (.lst (xs ++ ys)))) : rAddU K (.ref a) (.ref b) H Q :=
  .inr (.inr ⟨a, b, xs, ys, rfl, rfl, h1, h2, lz hz, q⟩)
theorem cut_whole {lo hi : Option Int} (h : HT.sIx xs.length 0 lo = 0 ∧ HT.sIx xs.length xs.length hi = xs.length) : cutV xs lo hi = xs := by
  unfold cutV
  rw [h.1, h.2, Nat.sub_zero, List.drop_zero, List.take_length]
/-- t[lo:hi] -/
theorem slS {lo hi : Option Int} (h : SqT K H a xs) (q : ∀ p H', Same H H' → SqT K H' p (cutV xs lo hi) → Q (.ref p) H') : rSlU K (.ref a) lo hi H Q :=
  .inr ⟨a, xs, rfl, h, fun e => q a H (Same.refl _) (by rw [cut_whole e]; exact h), fun _ p o hp ho hd => q p _ (same_new hp) (Tp.sqT ⟨o, upd_same, ho, hd⟩)⟩
theorem slT {lo hi : Option Int} (h : Tp H a xs) (q : ∀ p H', Same H H' → Tp H' p (cutV xs lo hi) → Q (.ref p) H') : rSlU K (.ref a) lo hi H Q :=
  .inr ⟨a, xs, rfl, h.sqT, fun e => q a H (Same.refl _) (by rw [cut_whole e]; exact h), fun _ p o hp ho hd => q p _ (same_new hp) ⟨o, upd_same, ho, hd⟩⟩
/-- xs[lo:hi] -/
theorem slL {lo hi : Option Int} (h : SqL K H a xs) (q : ∀ p, H p = none → Q (.ref p) (upd H p (.lst (cutV xs lo hi)))) : rSlU K (.ref a) lo hi H Q := .inl ⟨a, xs, rfl, h, q⟩
end
theorem flat_map {α β : Type} (f : α → β) (n : Nat) (xs : List α) : (List.replicate n (xs.map f)).flatten = ((List.replicate n xs).flatten).map f := by
  induction n with
  | zero => rfl
  | succ n ih => rw [List.replicate_succ, List.replicate_succ, List.flatten_cons, List.flatten_cons, ih, List.map_append]
theorem flat_len {α : Type} (n : Nat) (xs : List α) : ((List.replicate n xs).flatten).length = n * xs.length := by
  induction n with
  | zero => simp
  | succ n ih => rw [List.replicate_succ, List.flatten_cons, List.length_append, ih, Nat.succ_mul]; omega
/-- whole numbers in a row: range -/
theorem rng_ok {n : Nat} (h : n < 1000000) (m : Int) (h0 : -1000000 ≤ m) (h1 : m ≤ 1000000) : -(2 ^ 62) ≤ m ∧ m < 2 ^ 62 := ⟨by omega, by omega⟩
end XD

set_option linter.all false
set_option maxRecDepth 100000
set_option maxHeartbeats 4000000
/-! XE: comparisons of data, the law's draws. -/
namespace XE
open PySem PySem.Spec PyProof.Rows L2 XA XB XC XD
abbrev dI (xs : List Int) : List PyData := xs.map PyData.int
theorem can_dI : ∀ xs : List Int, PyData.canLayAll0 (dI xs) = true
  | [] => by simp [dI, PyData.canLayAll0]
  | x :: xs => by
    have := can_dI xs
    simp only [dI, List.map_cons, PyData.canLayAll0, PyData.canLay0, Bool.true_and] at this ⊢
    exact this
theorem dep_dI : ∀ xs : List Int, PyData.depthAll (dI xs) ≤ 1
  | [] => by simp [dI, PyData.depthAll]
  | x :: xs => by
    have := dep_dI xs
    simp only [dI, List.map_cons, PyData.depthAll, PyData.depth] at this ⊢
    omega
theorem eqv_dI : ∀ xs ys : List Int, PyData.eqvAll (dI xs) (dI ys) = decide (xs = ys)
  | [], [] => by simp [dI, PyData.eqvAll]
  | [], y :: ys => by simp [dI, PyData.eqvAll]
  | x :: xs, [] => by simp [dI, PyData.eqvAll]
  | x :: xs, y :: ys => by
    have := eqv_dI xs ys
    simp only [dI] at this
    simp only [dI, List.map_cons, PyData.eqvAll, PyData.eqv, this, List.cons.injEq]
    by_cases h : x = y <;> by_cases h2 : xs = ys <;> simp [h, h2]
theorem sh_t (xs : List Int) : SeqAt.shaped (.tuple (dI xs)) = true := by
  have h := dep_dI xs
  have e : PyData.depth (.tuple (dI xs)) ≤ 64 := by
    rw [PyData.depth]
    omega
  have e2 : PyData.canLay0 (.tuple (dI xs)) = true := by
    rw [PyData.canLay0]
    exact can_dI xs
  unfold SeqAt.shaped
  rw [e2, decide_eq_true e] <;> rfl
theorem sh_l (xs : List Int) : SeqAt.shaped (.list (dI xs)) = true := by
  have h := dep_dI xs
  have e : PyData.depth (.list (dI xs)) ≤ 64 := by
    rw [PyData.depth]
    omega
  have e2 : PyData.canLay0 (.list (dI xs)) = true := by
    rw [PyData.canLay0]
    exact can_dI xs
  unfold SeqAt.shaped
  rw [e2, decide_eq_true e] <;> rfl
section
variable {K : PySem.W.Frag} {H : Hp} {a b : Addr} {xs ys : List Int} {Q : VK}
theorem dp_all : ∀ xs : List Int, DpAll K H (xs.map V.int) (dI xs)
  | [] => .nil
  | x :: xs => .cons (.int x) (dp_all xs)
theorem dpT (h : SqT K H a (xs.map V.int)) : Dp K H (.ref a) (.tuple (dI xs)) := .tup h (dp_all xs)
theorem dpL (h : SqL K H a (xs.map V.int)) : Dp K H (.ref a) (.list (dI xs)) := .lst h (dp_all xs)
theorem eqT (h1 : SqT K H a (xs.map V.int)) (h2 : SqT K H b (ys.map V.int)) (q : Q (.bl (decide (xs = ys))) H) : rEqU K (.ref a) (.ref b) H Q :=
  .inr ⟨_, _, dpT h1, dpT h2, sh_t xs, sh_t ys, by
    rw [show PyData.eqv (.tuple (dI xs)) (.tuple (dI ys)) = decide (xs = ys) from by rw [PyData.eqv]; exact eqv_dI xs ys]
    exact q⟩
theorem neT (h1 : SqT K H a (xs.map V.int)) (h2 : SqT K H b (ys.map V.int)) (q : Q (.bl (!decide (xs = ys))) H) : rNeU K (.ref a) (.ref b) H Q :=
  .inr ⟨_, _, dpT h1, dpT h2, sh_t xs, sh_t ys, by
    rw [show PyData.eqv (.tuple (dI xs)) (.tuple (dI ys)) = decide (xs = ys) from by rw [PyData.eqv]; exact eqv_dI xs ys]
    exact q⟩
theorem eqL (h1 : SqL K H a (xs.map V.int)) (h2 : SqL K H b (ys.map V.int)) (q : Q (.bl (decide (xs = ys))) H) : rEqU K (.ref a) (.ref b) H Q :=
  .inr ⟨_, _, dpL h1, dpL h2, sh_l xs, sh_l ys, by
    rw [show PyData.eqv (.list (dI xs)) (.list (dI ys)) = decide (xs = ys) from by rw [PyData.eqv]; exact eqv_dI xs ys]
    exact q⟩
theorem neL (h1 : SqL K H a (xs.map V.int)) (h2 : SqL K H b (ys.map V.int)) (q : Q (.bl (!decide (xs = ys))) H) : rNeU K (.ref a) (.ref b) H Q :=
  .inr ⟨_, _, dpL h1, dpL h2, sh_l xs, sh_l ys, by
    rw [show PyData.eqv (.list (dI xs)) (.list (dI ys)) = decide (xs = ys) from by rw [PyData.eqv]; exact eqv_dI xs ys]
    exact q⟩
end
/-! ### the state of the draws -/
abbrev kG : Key := Sum.inr "great"
abbrev kC : Key := Sum.inr "cells"
abbrev kR : Key := Sum.inr "rest"
abbrev kT : Key := Sum.inr "turn"
def stD (g c : Addr) (r t : Int) : List (Key × V) := [(kG, .ref g), (kC, .ref c), (kR, .int r), (kT, .int t)]
/-- the state stands at s, its great numbers at g; it has been drawn from at most n times anew -/
def StAt (n : Nat) (H : Hp) (s g c : Addr) : Prop := ∃ (r t : Int) (gs cs : List Int), H s = some (.dK (stD g c r t)) ∧ H g = some (.lst (gs.map V.int)) ∧ H c = some (.lst (cs.map V.int)) ∧ c ≠ g ∧ cs.length ≤ 1000 ∧ gs.length ≤ 1000 ∧ 0 ≤ t ∧ t ≤ (n : Int)
/-- all but the state is as it was -/
def Kept (s g : Addr) (H H' : Hp) : Prop := ∀ b o, H b = some o → b ≠ s → b ≠ g → H' b = some o
theorem Kept.refl {s g : Addr} {H : Hp} : Kept s g H H := fun _ _ h _ _ => h
theorem Kept.trans {s g : Addr} {H H1 H2 : Hp} (a : Kept s g H H1) (b : Kept s g H1 H2) : Kept s g H H2 := fun c o h n m => b c o (a c o h n m) n m
theorem Kept.of {s g : Addr} {H H' : Hp} (e : Same H H') : Kept s g H H' := fun b o h _ _ => e b o h
section
variable {K : PySem.W.Frag} {H H' : Hp} {s g c a : Addr} {xs : List V} {n m : Nat} {v : V} {d : Dat}
theorem StAt.same (h : StAt n H s g c) (e : Same H H') : StAt n H' s g c := by
  obtain ⟨r, t, gs, cs, h1, h2, h3, h4⟩ := h
  exact ⟨r, t, gs, cs, e _ _ h1, e _ _ h2, e _ _ h3, h4⟩
theorem StAt.mono (h : StAt n H s g c) (l : n ≤ m) : StAt m H s g c := by
  obtain ⟨r, t, gs, cs, h1, h2, h3, h4, h5, h6, h7, h8⟩ := h
  exact ⟨r, t, gs, cs, h1, h2, h3, h4, h5, h6, h7, by omega⟩
theorem StAt.gs (h : StAt n H s g c) : ∃ o, H g = some o := by
  obtain ⟨r, t, gs, cs, h1, h2, _⟩ := h
  exact ⟨_, h2⟩
theorem StAt.ne_n (h : StAt n H s g c) (e : H a = none) : a ≠ g := by
  obtain ⟨o, q⟩ := h.gs
  intro z
  rw [z, q] at e
  cases e
theorem StAt.ne_s (h : StAt n H s g c) {o : HO} (ho : H a = some o) (hn : ∀ kvs, o ≠ .dK kvs) : a ≠ s := by
  obtain ⟨r, t, gs, cs, h1, _⟩ := h
  exact ne_of ho h1 (hn _)
theorem StAt.ne_g (h : StAt n H s g c) {o : HO} (ho : H a = some o) (hn : ∀ xs, o ≠ .lst xs) : a ≠ g := by
  obtain ⟨r, t, gs, cs, _, h2, _⟩ := h
  exact ne_of ho h2 (hn _)
theorem Kept.sqT (k : Kept s g H H') (h : StAt n H s g c) (q : SqT K H a xs) : SqT K H' a xs := by
  rcases q with (q | ⟨o, q⟩) | q
  · exact .inl (.inl (k _ _ q (h.ne_s q (by intro _ z; cases z)) (h.ne_g q (by intro _ z; cases z))))
  · exact .inl (.inr ⟨o, k _ _ q (h.ne_s q (by intro _ z; cases z)) (h.ne_g q (by intro _ z; cases z))⟩)
  · exact .inr q
theorem Kept.sqL (k : Kept s g H H') (h : StAt n H s g c) (q : SqL K H a xs) (e : a ≠ g) : SqL K H' a xs := by
  rcases q with (q | ⟨o, q⟩) | q
  · exact .inl (.inl (k _ _ q (h.ne_s q (by intro _ z; cases z)) e))
  · exact .inl (.inr ⟨o, k _ _ q (h.ne_s q (by intro _ z; cases z)) e⟩)
  · exact .inr q
theorem Kept.tp (k : Kept s g H H') (h : StAt n H s g c) (q : Tp H a xs) : Tp H' a xs := by
  obtain ⟨o, q, r⟩ := q
  exact ⟨o, k _ _ q (h.ne_s q (by intro _ z; cases z)) (h.ne_g q (by intro _ z; cases z)), r⟩
theorem Kept.lst (k : Kept s g H H') (h : StAt n H s g c) (q : H a = some (.lst xs)) (e : a ≠ g) : H' a = some (.lst xs) := k _ _ q (h.ne_s q (by intro _ z; cases z)) e
theorem Kept.rp (k : Kept s g H H') (h : StAt n H s g c) (q : Rp K H v d) (e : v ≠ .ref g) : Rp K H' v d := by
  cases d with
  | flat u => exact q
  | tup xs => obtain ⟨a, z, r, y⟩ := q; exact ⟨a, z, k.sqT h r, y⟩
  | lst xs => obtain ⟨a, z, r⟩ := q; exact ⟨a, z, k.sqL h r (fun y => e (by rw [z, y]))⟩
  | dct =>
    obtain ⟨a, kvs, z, r, l⟩ := q
    obtain ⟨r0, t0, gs0, cs0, a1, _⟩ := h
    exact ⟨a, kvs, z, k _ _ r (ne_of r a1 (by intro y; cases y; simp [stD] at l)) (fun y => e (by rw [z, y])), l⟩
theorem StAt.mut {H0 : Hp} {k : Addr} {o : HO} (h0 : StAt m H0 s g c) (hk : H0 k = none) (h : StAt n H s g c) : StAt n (upd H k o) s g c := by
  obtain ⟨r0, t0, gs0, cs0, a1, a2, a3, _⟩ := h0
  obtain ⟨r, t, gs, cs, h1, h2, h3, h4⟩ := h
  exact ⟨r, t, gs, cs, by rw [upd_ne (ne_of_none a1 hk)]; exact h1, by rw [upd_ne (ne_of_none a2 hk)]; exact h2, by rw [upd_ne (ne_of_none a3 hk)]; exact h3, h4⟩
theorem Kept.mut {k : Addr} {o : HO} (e : Kept s g H H') (hk : H k = none) : Kept s g H (upd H' k o) := fun b u q x y => by
  rw [upd_ne (ne_of_none q hk)]
  exact e b u q x y
theorem Kept.none (k : Kept s g H H') (h : StAt n H' s g c) (e : H' a = none) : H a = none := by
  obtain ⟨r, t, gs, cs, h1, h2, _⟩ := h
  cases q : H a with
  | none => rfl
  | some o => rw [k a o q (Ne.symm (ne_of_none h1 e)) (Ne.symm (ne_of_none h2 e))] at e; cases e
end
end XE

set_option linter.all false
set_option maxRecDepth 100000
set_option maxHeartbeats 4000000
/-! XF: t[::-1] of a tuple, a few more rules. -/
namespace XF
open PySem PySem.Spec PyProof.Rows L2 XA XB XC XD XE HT
section
variable {prog : Program} {w : World} {A : Around} {E : Value → Shared → Prop} {s : Shared}
theorem back_bounds (n : Nat) : Builtin.Slice.sliceAdjust none none (-1) (n : Int) = ((n : Int) - 1, -1) := by
  unfold Builtin.Slice.sliceAdjust
  simp
theorem back_places (n : Nat) : Builtin.Slice.slicePlaces ((n : Int) - 1) (-1) (-1) = n := by
  unfold Builtin.Slice.slicePlaces
  simp
  omega
theorem back_applied {sl : Addr} {n : Nat} {tk : Tok} {Q : Int × Int × Nat → Shared → Prop} (hs : s.heap.IsSliceOf sl .none .none (.int (-1) tk)) (h : Q ((n : Int) - 1, -1, n) s) :
    wpAny (model prog w) A (Builtin.Slice.sliceApplied (.ref sl) (pure (n : Int))) Q E s := by
  obtain ⟨os, hos, hcs, hds⟩ := id hs
  unfold Builtin.Slice.sliceApplied Builtin.Slice.sliceFields
  refine wpAny_bind (wpAny_bind (wpAny_field hos hds (x := .none) rfl (wpAny_bind (wpAny_field hos hds (x := .none) rfl (wpAny_bind (wpAny_field hos hds (x := .int (-1) tk) rfl (wpAny_pure ?_)))))))
  refine wpAny_bind (slicePart_int ?_)
  show wpAny _ _ (if ((-1 : Int) == 0) = true then _ else _) _ _ s
  rw [if_neg (by decide)]
  refine wpAny_bind (slicePart_none (wpAny_bind (slicePart_none (wpAny_bind (wpAny_pure ?_)))))
  show wpAny _ _ (match Builtin.Slice.sliceAdjust none none (-1) (n : Int) with | (lo, hi) => pure (lo, (-1 : Int), Builtin.Slice.slicePlaces lo hi (-1))) _ _ s
  rw [back_bounds n]
  show wpAny _ _ (pure ((n : Int) - 1, (-1 : Int), Builtin.Slice.slicePlaces ((n : Int) - 1) (-1) (-1))) _ _ s
  rw [back_places]
  exact wpAny_pure h
theorem fm_map {α β : Type} {f : α → Option β} {g : α → β} : ∀ {l : List α}, (∀ x ∈ l, f x = some (g x)) → l.filterMap f = l.map g
  | [], _ => rfl
  | x :: l, h => by
    rw [List.filterMap_cons, h x List.mem_cons_self, List.map_cons, fm_map fun y hy => h y (List.mem_cons_of_mem _ hy)]
theorem back_pick (xs : Array Value) : ((List.range xs.size).filterMap fun (m : Nat) => xs[(((xs.size : Nat) : Int) - 1 + (m : Int) * -1).toNat]?).toArray = xs.toList.reverse.toArray := by
  congr 1
  obtain ⟨l⟩ := xs
  simp only [List.size_toArray, List.getElem?_toArray]
  apply List.ext_getElem?
  intro i
  have e : (List.range l.length).filterMap (fun (m : Nat) => l[(((l.length : Nat) : Int) - 1 + (m : Int) * -1).toNat]?) = (List.range l.length).map (fun m => l.reverse.getD m Value.none) := by
    refine fm_map fun m hm => ?_
    have hm := List.mem_range.mp hm
    have e1 : (((l.length : Nat) : Int) - 1 + (m : Int) * -1).toNat = l.length - 1 - m := by omega
    rw [e1, List.getD_eq_getElem?_getD, List.getElem?_reverse hm, List.getElem?_eq_getElem (by omega)]
    rfl
  rw [e]
  by_cases hi : i < l.length
  · rw [List.getElem?_map, List.getElem?_range hi, Option.map_some, List.getD_eq_getElem?_getD, List.getElem?_eq_getElem (by simpa using hi)]
    rfl
  · rw [List.getElem?_eq_none (by simpa using hi), List.getElem?_eq_none (by simpa using hi)]
theorem getItem_tuple_back {t sl : Addr} {items : Array Value} {tk : Tok} {Q : Value → Shared → Prop} (ht : IsTup s.heap t items) (hs : s.heap.IsSliceOf sl .none .none (.int (-1) tk))
    (h : Q (.ref s.heap.objs.size) { s with heap := s.heap.push { cls := .type "tuple", data := .seq items.toList.reverse.toArray } }) (hsz : items.size ≤ sizeLine) : wpAny (model prog w) A (getItem (.ref t) (.ref sl)) Q E s := by
  have ok : sizeOk (.seq items.toList.reverse.toArray) := by
    show items.toList.reverse.toArray.size ≤ sizeLine
    simpa using hsz
  obtain ⟨os, hos, hcs, hds⟩ := id hs
  have hTs : s.TypeIs (.ref sl) "slice" := ⟨os, hos, hcs⟩
  unfold getItem
  try with_reducible refine wpAny_holding ?_
  first | refine wpAny_bind (wpAny_pure ?_) | skip
  refine wpAny_bind (wpAny_sequenceKey ht.typeIs (by decide) (wpAny_bind (wpAny_callSpecial?_slot (name := Str.ofString "__getitem__") ht.typeIs PyProof.Rows.slot_tuple_getitem
    (wpAny_call_entry PyProof.Rows.slot_tuple_getitem ht.typeIs entry_tuple_getitem ?_ (args_tuple_getitem _ _)))))
  show wpAny _ _ (Builtin.Tuple.tupleItemsOf (.ref t) >>= _) _ _ s
  refine wpAny_bind (tupleItemsOf_ ht (wpAny_bind (wpAny_typeOf hTs ?_)))
  rw [if_pos (by decide)]
  refine wpAny_bind (back_applied hs ?_)
  show wpAny _ _ (if (((items.size : Nat) : Int) - 1 == 0 && (-1 : Int) == 1 && items.size == items.size) = true then _ else _) _ _ s
  rw [if_neg (by rw [show ((-1 : Int) == 1) = false from rfl, Bool.and_false, Bool.false_and]; exact Bool.false_ne_true), back_pick]
  first
    | exact wpAny_bind (m := Builtin.Tuple.tupleExact _) (wpAny_newObj_type (wpAny_pure ⟨_, rfl, wpAny_pure h⟩) ok)
    | exact wpAny_bind (m := Builtin.Tuple.tupleExact _) (wpAny_newObj_type (wpAny_bind (wpAny_pure (wpAny_pure ⟨_, rfl, wpAny_pure h⟩))) ok)
end
section
variable {X : Cx}
/-- t[::-1] -/
def tBack (K : PySem.W.Frag) (te : TE) : TE := fun σ H Q => te σ H fun x H1 => ∃ a xs, x = .ref a ∧ SqT K H1 a xs ∧ NewT H1 xs.reverse Q
theorem pe_back {e : Expr} {te : TE} {k : Nat} {p1 p2 p3 pos : Pos} (he : PE X e te) : PE X (.Subscript e (.Slice none none (some (.UnaryOp .USub (.Constant (.int 1) k p1) p2)) p3) pos) (tBack X.K te) := by
  refine ⟨fun pins s σ H Q I h => ?_⟩
  refine Subscript_ (thn (he.run pins s σ H _ I h) fun v s1 ⟨x, H1, I1, r1, a, xs, ex, hx, q⟩ => ?_)
  subst ex
  cases r1
  have step : PO X (some (.UnaryOp .USub (.Constant (.int 1) k p1) p2)) (tPart (tUn (rU fun i => .int (-i)) (tC (.int 1)))) := po_some (pe_un un_neg pe_int)
  refine wpAny_Slice (thn (po_none.run pins s1 σ H1 (fun o H2 => o = none ∧ H2 = H1) I1 ⟨rfl, rfl⟩) fun vl s2 ⟨l, H2, I2, pl, el, e2⟩ => ?_)
  subst el e2
  refine thn (po_none.run pins s2 σ H2 (fun o H3 => o = none ∧ H3 = H2) I2 ⟨rfl, rfl⟩) fun vu s3 ⟨u, H3, I3, pu, eu, e3⟩ => ?_
  subst eu e3
  refine thn (step.run pins s3 σ H3 (fun o H4 => o = some (-1) ∧ H4 = H3) I3 ⟨1, rfl, -1, rfl, rfl, rfl⟩) fun vs s4 ⟨o, H4, I4, ps, eo, e4⟩ => ?_
  subst eo e4
  have I5 : Inv X pins σ H4 { s4 with heap := s4.heap.push { cls := .type "slice", data := .fields #[vl, vu, vs] } } := I4.kept (t' := s4.toks) fun b ob q => Heap.get?_push_of_some _ q
  obtain ⟨its, r, ht, hz⟩ := I5.tuple hx
  have hlen := r.length
  cases pl
  cases pu
  cases ps
  refine tail_any (ops := [.ref a, .ref s4.heap.objs.size]) ht.typeIs PyProof.Rows.slot_tuple_getitem.lookup ?_ (by with_unfolding_all rfl)
  refine getItem_tuple_back ht (Heap.IsSliceOf.new _ _ _ _) ?_ (by rw [List.size_toArray]; omega)
  exact newT_laid (h' := s4.heap.push _) (tk := s4.toks) I5 (by rw [List.length_reverse]; exact hz) r.reverse q
end
end XF

namespace XF
open PySem PySem.Spec PyProof.Rows L2 XA XB XC XD XE
section
variable {K : PySem.W.Frag} {σ : L2.St} {H : Hp} {Q : VK} {te ta tb : TE} {D : Ends} {i j l : Nat}
theorem rd_lrg {t : L2.St → Hp → (Int → Int → Hp → Prop) → Prop} (h : t σ H fun a b H1 => RgOk a b ∧ ∀ q, H1 q = none → Q (.ref q) (upd H1 q (.lst (rgV a b)))) : tLstRg t σ H Q := h
theorem rd_rg2 {Q : Int → Int → Hp → Prop} (h : ta σ H fun x H1 => tb σ H1 fun y H2 => ∃ i j, x = .int i ∧ y = .int j ∧ Q i j H2) : tRg2 ta tb σ H Q := h
theorem rd_back (h : te σ H fun x H1 => ∃ a xs, x = .ref a ∧ SqT K H1 a xs ∧ NewT H1 xs.reverse Q) : tBack K te σ H Q := h
theorem rd_disp {trs : List (TE × TE)} (h : ∀ p, H p = none → tPairs trs σ (upd H p (.dK [])) fun ps H2 => H2 p = some (.dK []) ∧ ∃ kvs : List (Key × V), ps = kvs.map (fun kv => (kV kv.1, kv.2)) ∧ kvs.length ≤ 15 ∧ Q (.ref p) (upd H2 p (.dK (mergeK [] kvs)))) : tDisp trs σ H Q := h
theorem rd_prN {Q : List (V × V) → Hp → Prop} (h : Q [] H) : tPairs [] σ H Q := h
theorem rd_prC {tk tv : TE} {r : List (TE × TE)} {Q : List (V × V) → Hp → Prop} (h : tk σ H fun x H1 => tv σ H1 fun y H2 => tPairs r σ H2 fun ps H3 => Q ((x, y) :: ps) H3) : tPairs ((tk, tv) :: r) σ H Q := h
theorem rd_par {ta : TA} (h : ta σ H fun vs H1 => ∃ v w, vs = [v, w] ∧ D.nx ((σ.set i (some v)).set j (some w)) H1) : tPar i j ta D σ H := h
theorem rd_par3 {ta : TA} (h : ta σ H fun vs H1 => ∃ u v w, vs = [u, v, w] ∧ D.nx (((σ.set i (some u)).set j (some v)).set l (some w)) H1) : tPar3 i j l ta D σ H := h
theorem rd_two {x y : V} {R : V → V → Prop} (h : R x y) : ∃ v w, [x, y] = [v, w] ∧ R v w := ⟨x, y, rfl, h⟩
theorem rd_three {x y z : V} {R : V → V → V → Prop} (h : R x y z) : ∃ u v w, [x, y, z] = [u, v, w] ∧ R u v w := ⟨x, y, z, rfl, h⟩
theorem rd_one {x : V} {R : V → Prop} (h : R x) : ∃ v, [x] = [v] ∧ R v := ⟨x, rfl, h⟩
theorem rd_onei {k : Int} {R : Int → Prop} (h : R k) : ∃ i, [V.int k] = [.int i] ∧ R i := ⟨k, rfl, h⟩
theorem rd_iL {R : It → Hp → Prop} (h : te σ H fun x H1 => ∃ a, x = .ref a ∧ (∃ xs, SqL K H1 a xs) ∧ R (Itl K a) H1) : iList K te σ H R := h
theorem rd_iT {R : It → Hp → Prop} (h : te σ H fun x H1 => ∃ a, x = .ref a ∧ (∃ xs, SqT K H1 a xs) ∧ R (Itt K a) H1) : iTup K te σ H R := h
end
theorem intsOf : ∀ (l : List V), (∀ x ∈ l, ∃ i, x = .int i) → ∃ gs : List Int, l = gs.map V.int
  | [], _ => ⟨[], rfl⟩
  | x :: r, h => by
    obtain ⟨i, e⟩ := h x List.mem_cons_self
    obtain ⟨gs, e2⟩ := intsOf r fun y hy => h y (List.mem_cons_of_mem _ hy)
    exact ⟨i :: gs, by rw [e, e2] <;> rfl⟩
/-! ### looking up and storing in the state -/
theorem gc : ¬ (kG = kC) := by decide +kernel
theorem gr : ¬ (kG = kR) := by decide +kernel
theorem gt : ¬ (kG = kT) := by decide +kernel
theorem cr : ¬ (kC = kR) := by decide +kernel
theorem ct : ¬ (kC = kT) := by decide +kernel
theorem rt : ¬ (kR = kT) := by decide +kernel
section
variable {g c : Addr} {r t : Int}
theorem at_G : valV (stD g c r t) kG = some (.ref g) := by simp [valV, stD]
theorem at_C : valV (stD g c r t) kC = some (.ref c) := by
  have h : decide (kG = kC) = false := decide_eq_false gc
  simp only [valV, stD, List.find?_cons, h]
  simp
theorem at_R : valV (stD g c r t) kR = some (.int r) := by
  have h1 : decide (kG = kR) = false := decide_eq_false gr
  have h2 : decide (kC = kR) = false := decide_eq_false cr
  simp only [valV, stD, List.find?_cons, h1, h2]
  simp
theorem at_T : valV (stD g c r t) kT = some (.int t) := by
  have h1 : decide (kG = kT) = false := decide_eq_false gt
  have h2 : decide (kC = kT) = false := decide_eq_false ct
  have h3 : decide (kR = kT) = false := decide_eq_false rt
  simp only [valV, stD, List.find?_cons, h1, h2, h3]
  simp
theorem put_T {u : Int} : putK (stD g c r t) kT (.int u) = stD g c r u := by
  have h1 : decide (kG = kT) = false := decide_eq_false gt
  have h2 : decide (kC = kT) = false := decide_eq_false ct
  have h3 : decide (kR = kT) = false := decide_eq_false rt
  simp only [putK, stD, List.any_cons, List.any_nil, h1, h2, h3, List.map_cons, List.map_nil, if_neg gt, if_neg ct, if_neg rt]
  simp
theorem put_R {u : Int} : putK (stD g c r t) kR (.int u) = stD g c u t := by
  have h1 : decide (kG = kR) = false := decide_eq_false gr
  have h2 : decide (kC = kR) = false := decide_eq_false cr
  have h3 : ¬ (kT = kR) := fun z => rt z.symm
  simp only [putK, stD, List.any_cons, List.any_nil, h1, h2, List.map_cons, List.map_nil, if_neg gr, if_neg cr, if_neg h3]
  simp
theorem putK_new {kvs : List (Key × V)} {k : Key} {v : V} (h : (kvs.any fun kv => decide (kv.1 = k)) = false) : putK kvs k v = kvs ++ [(k, v)] := by
  unfold putK
  rw [h] <;> rfl
/-- the state as it is made -/
theorem st_new : mergeK [] [(kG, .ref g), (kC, .ref c), (kR, .int 0), (kT, .int 0)] = stD g c 0 0 := by
  have h1 : decide (kG = kC) = false := decide_eq_false gc
  have h2 : decide (kG = kR) = false := decide_eq_false gr
  have h3 : decide (kG = kT) = false := decide_eq_false gt
  have h4 : decide (kC = kR) = false := decide_eq_false cr
  have h5 : decide (kC = kT) = false := decide_eq_false ct
  have h6 : decide (kR = kT) = false := decide_eq_false rt
  show putK (putK (putK (putK [] kG (.ref g)) kC (.ref c)) kR (.int 0)) kT (.int 0) = _
  rw [putK_new (kvs := []) rfl, List.nil_append, putK_new (kvs := [(kG, .ref g)]) (by simp only [List.any_cons, List.any_nil, h1, Bool.or_false]), List.singleton_append,
    putK_new (kvs := [(kG, .ref g), (kC, .ref c)]) (by simp only [List.any_cons, List.any_nil, h2, h4, Bool.or_false]), List.cons_append, List.singleton_append,
    putK_new (kvs := [(kG, .ref g), (kC, .ref c), (kR, .int 0)]) (by simp only [List.any_cons, List.any_nil, h3, h5, h6, Bool.or_false])]
  rfl
end
theorem pow18 : CPow 10 18 := ⟨by decide, by decide, by decide⟩
theorem none_of {H H' : Hp} {p : Addr} (e : Same H H') (h : H' p = none) : H p = none := by
  cases q : H p with
  | none => rfl
  | some o => rw [e _ _ q] at h; cases h
theorem lt1 {a b : Nat} (h : a + 64 < b) : a + 1 < b := by omega
section
variable {K : PySem.W.Frag} {H : Hp} {p : Addr} {xs : List V} {i : Int}
theorem rd_itl {R : It → Hp → Prop} (h : SqL K H p xs) (q : R (Itl K p) H) : ∃ a, V.ref p = .ref a ∧ (∃ xs, SqL K H a xs) ∧ R (Itl K a) H := ⟨p, rfl, ⟨xs, h⟩, q⟩
theorem rd_itt {R : It → Hp → Prop} (h : SqT K H p xs) (q : R (Itt K p) H) : ∃ a, V.ref p = .ref a ∧ (∃ xs, SqT K H a xs) ∧ R (Itt K a) H := ⟨p, rfl, ⟨xs, h⟩, q⟩
theorem rd_intc {Q : VK} (q : Q (.int i) H) : (∃ j, [V.int i] = [.int j] ∧ Q (.int j) H) ∨ ∃ k, [V.int i] = [.bl k] ∧ Q (.int (if k = true then 1 else 0)) H := .inl ⟨i, rfl, q⟩
end
/-- both ways of a branch lead to one rest -/
theorem rd_join {b : Bool} {ts us : TS} {D : Ends} {σ : L2.St} {H : Hp} (C : Hp → Prop) (key : ∀ H1, C H1 → D.nx σ H1) (h : (∀ H1, C H1 → D.nx σ H1) → if b = true then ts D σ H else us D σ H) : if b = true then ts D σ H else us D σ H := h key
theorem cut_lo {xs : List V} {k : Nat} (h : k ≤ xs.length) : cutV xs none (some (k : Int)) = xs.take k := by
  unfold cutV
  rw [HT.sIx_none, HT.sIx_nat, List.drop_zero, Nat.sub_zero, Nat.min_eq_left h]
theorem cut_hi {xs : List V} {k : Nat} (h : k ≤ xs.length) : cutV xs (some (k : Int)) none = xs.drop k := by
  unfold cutV
  rw [HT.sIx_none, HT.sIx_nat, Nat.min_eq_left h, List.take_of_length_le (by rw [List.length_drop]; omega)]
theorem new_at {H : Hp} {p : Addr} {o : HO} (h : H p = none) : Same H (upd H p o) ∧ upd H p o p = some o := ⟨same_new h, upd_same⟩
/-- tuple * int, a new one -/
theorem repN {K : PySem.W.Frag} {H : Hp} {a : Addr} {xs : List V} {Q : VK} {k : Int} (h : SqT K H a xs) (h1 : -1000 ≤ k) (h2 : k ≤ 1000) (hz : xs.length ≤ 1000) (hn : ¬ (xs = [] ∨ k = 1)) (q : ∀ p H', H p = none → Same H H' → Tp H' p (List.replicate k.toNat xs).flatten → Q (.ref p) H') : rMulU K (.ref a) (.int k) H Q :=
  .inr ⟨a, k, xs, rfl, rfl, h, h1, h2, hz, fun e => absurd e hn, fun _ p o hp ho hd => q p _ hp (same_new hp) ⟨o, upd_same, ho, hd⟩⟩
theorem rd_joinS {b : Bool} {ts us : TS} {D : Ends} {σ : L2.St} {H : Hp} (C : L2.St → Hp → Prop) (key : ∀ σ1 H1, C σ1 H1 → D.nx σ1 H1) (h : (∀ σ1 H1, C σ1 H1 → D.nx σ1 H1) → if b = true then ts D σ H else us D σ H) : if b = true then ts D σ H else us D σ H := h key
end XF

set_option linter.all false
set_option maxRecDepth 100000
set_option maxHeartbeats 4000000
/-! XG: a law's lambdas, tables. -/
namespace XG
open PySem PySem.Spec PyProof.Rows L2 XA XB XC XD XE XF LamX
section
variable {P : Program} {w : World} {K : PySem.W.Frag} {mg : Str → Option Value} {base : Heap} {x : Str} {st : Stmt} {N ps : List Str} {k : Nat} {sp : Sp}
/-- .. its code object at c -/
def RwC (K : PySem.W.Frag) (mg : Str → Option Value) (x : Str) (st : Stmt) (c : Addr) : Prop := ∃ f fd, FunD K x x (defArgs st) (defBody st) (defScope st) [] [] f fd ∧ mg x = some (.ref f) ∧ fd.code = .ref c
theorem mk0C {c : Addr} (R : RwC K mg x st c) (S : FnScope N ps (defScope st)) (bd : Bnd st x ps) (len : ∀ vs H Q E, sp vs H Q E → vs.length = ps.length)
    (hbody : ∀ (f : Addr) (A : Around) (outer : List Env) (s : Shared) (H : Hp) (vs : List V) (Q : VK) (E : XK), Room k (A.deeper (envOfC x (defScope st) s.heap.objs.size f (.ref c))) → sp vs H Q E →
      ∃ t, PSs (cxOf CX0 P w K mg base N x (defScope st) f (.ref c) A outer s H E).nox (defBody st) t ∧ t { nx := fun _ H' => Q .non H', rt := Q } (L2.start N vs) H) : Df P w K mg base CX0 (k + 1) x st ps sp := by
  obtain ⟨f, fd, F, g, hc⟩ := R
  refine ⟨f, fd, ?_, g, F.kp, F.bindsN bd, kbn_of F⟩
  obtain ⟨oc, od, dV, kV, doc, pm, an, cdv, ct, osl, e, lk, hcd, _, _⟩ := F.ex
  subst e
  have e2 : cdv = .ref c := hc
  subst e2
  exact fn_of lk hcd S len fun A outer s H vs Q E hr h => by
    obtain ⟨t, a, b⟩ := hbody f A outer s H vs Q E hr h
    exact ⟨t, a.nox, b⟩
end
section
variable {T : List (Addr × Str)} {K : PySem.W.Frag} {H H' : Hp} {s g c a : Addr} {xs : List V} {n m : Nat} {v : V} {d : Dat}
theorem ext_at {o : HO} (e : ExtN H H') (h : H a = some o) (hn : ∀ ps, o ≠ .tbl ps) : H' a = some o := e _ _ h hn
theorem tabs_kept (t : Tabs T H) (k : XE.Kept s g H H') (h : StAt n H s g c) : Tabs T H' := fun p hp => by
  obtain ⟨ps, h1, h2, h3⟩ := t p hp
  refine ⟨ps, k _ _ h1 (h.ne_s h1 (by intro _ z; cases z)) (h.ne_g h1 (by intro _ z; cases z)), h2, fun pos cv hc => ?_⟩
  obtain ⟨c', e1, e2⟩ := h3 pos cv hc
  exact ⟨c', e1, k _ _ e2 (h.ne_s e2 (by intro _ z; cases z)) (h.ne_g e2 (by intro _ z; cases z))⟩
theorem ext_sqT (e : ExtN H H') (h : SqT K H a xs) : SqT K H' a xs := by
  rcases h with (h | ⟨o, h⟩) | h
  · exact .inl (.inl (e _ _ h (by intro _ z; cases z)))
  · exact .inl (.inr ⟨o, e _ _ h (by intro _ z; cases z)⟩)
  · exact .inr h
theorem ext_sqL (e : ExtN H H') (h : SqL K H a xs) : SqL K H' a xs := by
  rcases h with (h | ⟨o, h⟩) | h
  · exact .inl (.inl (e _ _ h (by intro _ z; cases z)))
  · exact .inl (.inr ⟨o, e _ _ h (by intro _ z; cases z)⟩)
  · exact .inr h
theorem ext_tp (e : ExtN H H') (h : Tp H a xs) : Tp H' a xs := by
  obtain ⟨o, h, r⟩ := h
  exact ⟨o, e _ _ h (by intro _ z; cases z), r⟩
theorem ext_rp (e : ExtN H H') (q : Rp K H v d) : Rp K H' v d := by
  cases d with
  | flat u => exact q
  | tup xs => obtain ⟨a, z, r, y⟩ := q; exact ⟨a, z, ext_sqT e r, y⟩
  | lst xs => obtain ⟨a, z, r⟩ := q; exact ⟨a, z, ext_sqL e r⟩
  | dct => obtain ⟨a, kvs, z, r, l⟩ := q; exact ⟨a, kvs, z, e _ _ r (by intro _ z; cases z), l⟩
theorem ext_st (e : ExtN H H') (h : StAt n H s g c) : StAt n H' s g c := by
  obtain ⟨r, t, gs, cs, h1, h2, h3, h4⟩ := h
  exact ⟨r, t, gs, cs, e _ _ h1 (by intro _ z; cases z), e _ _ h2 (by intro _ z; cases z), e _ _ h3 (by intro _ z; cases z), h4⟩
theorem tabs_same (t : Tabs T H) (e : Same H H') : Tabs T H' := t.ext e
end
/-- what is caught: an error of the class at D, told at a -/
def Err (D : Addr) (H : Hp) (v : V) : Prop := ∃ a, v = .ref a ∧ H a = some (ExV (.ref D) none a)
theorem Err.same {D : Addr} {H H' : Hp} {v : V} (h : Err D H v) (e : Same H H') : Err D H' v := by
  obtain ⟨a, q, r⟩ := h
  exact ⟨a, q, e _ _ r⟩
theorem Err.ext {D : Addr} {H H' : Hp} {v : V} (h : Err D H v) (e : ExtN H H') : Err D H' v := by
  obtain ⟨a, q, r⟩ := h
  exact ⟨a, q, e _ _ r (by intro _ z; cases z)⟩
/-- _law_caught(lambda: ..): the body raises an error of the class at D -/
theorem rd_caught {T : List (Addr × Str)} {K : PySem.W.Frag} {CS D : Addr} {t : XK → TE} {σ : L2.St} {H : Hp} {Q : VK} (hT : Tabs T H) (hx : PySem.W.exmOne K (.ref D) (.ref CS) = some true)
    (h : ∀ H1 (Ech : XK) (Q' : VK), ExtN H H1 → Tabs T H1 → (∀ H2, (∀ v H3, Same H2 H3 → Err D H3 v → Q v H3) → Ech (.ref D) none H2) → t Ech σ H1 Q') : tLam T (TCaught K CS) t σ H Q :=
  ⟨hT, fun H1 e1 T1 Ech Q' he _ => h H1 Ech Q' e1 T1 fun H2 q => he _ _ _ hx fun a ha => q _ _ (same_new ha) ⟨a, rfl, upd_same⟩⟩
/-- isinstance(e, C) of a caught error -/
theorem rd_isErr {K : PySem.W.Frag} {D C : Addr} {H : Hp} {v : V} {b : Bool} {Q : VK} (h : Err D H v) (hc : ExcC K D) (hC : ClsV (.ref C) (.ref C)) (e : PySem.W.kitOne K (.ref D) (.ref C) = some b) (q : Q (.bl b) H) : rIsU K [v, .ref C] H Q := by
  obtain ⟨a, rfl, r⟩ := h
  exact .inr ⟨a, D, .ref C, .ref C, b, rfl, r, hc, hC, e, q⟩
def tIfT (t u v : TT) : TT := fun σ H Q => t σ H fun c H1 => if c = true then u σ H1 Q else v σ H1 Q
theorem pt_ifT {X : Cx} {a b c : Expr} {pos : Pos} {t u v : TT} (ha : PT X a t) (hb : PT X b u) (hc : PT X c v) : PT X (.IfExp a b c pos) (tIfT t u v) := by
  refine ⟨fun pins s σ H Q I h => ?_⟩
  show wpAny _ _ (do if ← isTrue a X.env (eval a X.env) then isTrue b X.env (eval b X.env) else isTrue c X.env (eval c X.env)) _ _ s
  refine wpAny_bind (wpAny_mono (ha.run pins s σ H _ I h) (fun d s1 e => ?_) fun _ _ x => x)
  obtain ⟨H1, I1, q⟩ := e
  cases d with
  | true => exact hb.run pins s1 σ H1 Q I1 q
  | false => exact hc.run pins s1 σ H1 Q I1 q
theorem rd_ifT {t u v : TT} {σ : L2.St} {H : Hp} {Q : Bool → Hp → Prop} (h : t σ H fun c H1 => if c = true then u σ H1 Q else v σ H1 Q) : tIfT t u v σ H Q := h
theorem ext_mut {H0 H : Hp} {k : Addr} {o : HO} (e : ExtN H0 H) (hk : H0 k = none) : ExtN H0 (upd H k o) := fun b u q n => by
  rw [upd_ne (ne_of_none q hk)]
  exact e b u q n
theorem ext_same {H0 H H1 : Hp} (e : ExtN H0 H) (s : Same H H1) : ExtN H0 H1 := fun b o q n => s _ _ (e b o q n)
theorem ext_none {H H' : Hp} {p : Addr} (e : ExtN H H') (h : H' p = none) (hn : ∀ ps, H p ≠ some (.tbl ps)) : H p = none := by
  cases q : H p with
  | none => rfl
  | some o => rw [e _ _ q (fun ps z => hn ps (by rw [q, z]))] at h; cases h
theorem tabs_mut {T : List (Addr × Str)} {H : Hp} {k : Addr} {xs : List V} {o : HO} (t : Tabs T H) (hk : H k = some (.lst xs)) : Tabs T (upd H k o) := fun p hp => by
  obtain ⟨ps, h1, h2, h3⟩ := t p hp
  refine ⟨ps, by rw [upd_ne (ne_of h1 hk (by intro z; cases z))]; exact h1, h2, fun pos cv hc => ?_⟩
  obtain ⟨c', e1, e2⟩ := h3 pos cv hc
  exact ⟨c', e1, by rw [upd_ne (ne_of e2 hk (by intro z; cases z))]; exact e2⟩
section
variable {σ : L2.St} {H : Hp} {Q : L2.St → Hp → Prop} {t : TG} {u : TGs} {v : V} {r : List V}
theorem rd_gcons (h : t v σ H fun σ' H' => u r σ' H' Q) : gCons t u (v :: r) σ H Q := ⟨v, r, rfl, h⟩
theorem rd_gnil (h : Q σ H) : gNil [] σ H Q := ⟨rfl, h⟩
end
theorem Err.mut {D k : Addr} {H : Hp} {v : V} {xs : List V} {o : HO} (h : Err D H v) (hk : H k = some (.lst xs)) : Err D (upd H k o) v := by
  obtain ⟨a, q, r⟩ := h
  exact ⟨a, q, by rw [upd_ne (ne_of r hk (by intro z; cases z))]; exact r⟩
theorem mk0F {P : Program} {w : World} {K : PySem.W.Frag} {mg : Str → Option Value} {base : Heap} {x : Str} {st : Stmt} {N ps : List Str} {k : Nat} {sp : Sp} {f : Addr} {fd : FuncData} (F : FunD K x x (defArgs st) (defBody st) (defScope st) [] [] f fd) (S : FnScope N ps (defScope st)) (len : ∀ vs H Q E, sp vs H Q E → vs.length = ps.length)
    (hbody : ∀ (cdv : Value) (A : Around) (outer : List Env) (s : Shared) (H : Hp) (vs : List V) (Q : VK) (E : XK), Room k (A.deeper (envOfC x (defScope st) s.heap.objs.size f cdv)) → sp vs H Q E →
      ∃ t, PSs (cxOf CX0 P w K mg base N x (defScope st) f cdv A outer s H E).nox (defBody st) t ∧ t { nx := fun _ H' => Q .non H', rt := Q } (L2.start N vs) H) : FnOk P w K mg base CX0 (k + 1) f fd ps sp :=
  F.ok S len fun cdv A outer s H vs Q E hr h => by
    obtain ⟨t, a, b⟩ := hbody cdv A outer s H vs Q E hr h
    exact ⟨t, a.nox, b⟩
theorem rd_aug {i : Nat} {te : TE} {D : Ends} {σ : L2.St} {H : Hp} {j : Int} (h : σ[i]? = some (some (.int j))) (q : te σ H fun y H1 => ∃ k, y = .int k ∧ D.nx (σ.set i (some (.int (j + k)))) H1) : tAug i te (ipI fun i j => i + j) D σ H :=
  ⟨.int j, h, by
    have e : (fun y H1 => ipI (fun i j => i + j) (.int j) y H1 fun z H2 => D.nx (σ.set i (some z)) H2) = fun y H1 => ∃ k, y = .int k ∧ D.nx (σ.set i (some (.int (j + k)))) H1 := by
      funext y H1
      refine propext ⟨fun ⟨a, b, e1, e2, q⟩ => ?_, fun ⟨k, e, q⟩ => ⟨j, k, rfl, e, q⟩⟩
      cases e1
      exact ⟨b, e2, q⟩
    rw [e]
    exact q⟩
/-- a while's test of two parts: where it ends is told once -/
theorem rd_exit {c : Bool} {t : TT} {σ : L2.St} {H : Hp} {A B : Hp → Prop} (P : Prop) (ex : P → B H) (h : (P → B H) → if c = true then t σ H (fun b H1 => if b = true then A H1 else B H1) else if false = true then A H else B H) :
    if c = true then t σ H (fun b H1 => if b = true then A H1 else B H1) else if false = true then A H else B H := h ex
theorem rd_exitH {c : Bool} {t : TT} {σ : L2.St} {H : Hp} {A B : Hp → Prop} (C : Hp → Prop) (ex : ∀ H1, C H1 → B H1) (h : (∀ H1, C H1 → B H1) → if c = true then t σ H (fun b H1 => if b = true then A H1 else B H1) else if false = true then A H else B H) :
    if c = true then t σ H (fun b H1 => if b = true then A H1 else B H1) else if false = true then A H else B H := h ex
theorem mk0FC {P : Program} {w : World} {K : PySem.W.Frag} {mg : Str → Option Value} {base : Heap} {x : Str} {st : Stmt} {N ps : List Str} {k : Nat} {sp : Sp} {f c : Addr} {fd : FuncData} (F : FunD K x x (defArgs st) (defBody st) (defScope st) [] [] f fd) (hc : fd.code = .ref c) (S : FnScope N ps (defScope st)) (len : ∀ vs H Q E, sp vs H Q E → vs.length = ps.length)
    (hbody : ∀ (A : Around) (outer : List Env) (s : Shared) (H : Hp) (vs : List V) (Q : VK) (E : XK), Room k (A.deeper (envOfC x (defScope st) s.heap.objs.size f (.ref c))) → sp vs H Q E →
      ∃ t, PSs (cxOf CX0 P w K mg base N x (defScope st) f (.ref c) A outer s H E).nox (defBody st) t ∧ t { nx := fun _ H' => Q .non H', rt := Q } (L2.start N vs) H) : FnOk P w K mg base CX0 (k + 1) f fd ps sp := by
  obtain ⟨oc, od, dV, kV, doc, pm, an, cdv, ct, osl, e, lk, hcd, _, _⟩ := F.ex
  subst e
  have e2 : cdv = .ref c := hc
  subst e2
  exact fn_of lk hcd S len fun A outer s H vs Q E hr h => by
    obtain ⟨t, a, b⟩ := hbody A outer s H vs Q E hr h
    exact ⟨t, a.nox, b⟩
end XG

/-! XN: the first of all turns of a ring, by two runners; core Lean only. -/
namespace XN
/-- f comes ahead of g, as rows of n -/
def Lt (n : Nat) (f g : Nat → Int) : Prop := ∃ s, s < n ∧ (∀ t, t < s → f t = g t) ∧ f s < g s
theorem Lt.irrefl {n : Nat} {f : Nat → Int} (h : Lt n f f) : False := by
  obtain ⟨s, _, _, h⟩ := h
  omega
theorem Lt.trans {n : Nat} {f g k : Nat → Int} (h1 : Lt n f g) (h2 : Lt n g k) : Lt n f k := by
  obtain ⟨s, a1, a2, a3⟩ := h1
  obtain ⟨u, b1, b2, b3⟩ := h2
  rcases Nat.lt_trichotomy s u with h | h | h
  · exact ⟨s, a1, fun t ht => (a2 t ht).trans (b2 t (by omega)), by rw [← b2 s h]; exact a3⟩
  · subst h
    exact ⟨s, a1, fun t ht => (a2 t ht).trans (b2 t ht), by omega⟩
  · exact ⟨u, b1, fun t ht => (a2 t (by omega)).trans (b2 t ht), by rw [a2 u h]; exact b3⟩
theorem eq_of_not_lt {n : Nat} {f g : Nat → Int} (h1 : ¬ Lt n f g) (h2 : ¬ Lt n g f) : ∀ t, t < n → f t = g t := by
  intro t
  induction t using Nat.strongRecOn with
  | ind t ih =>
    intro ht
    have he : ∀ u, u < t → f u = g u := fun u hu => ih u hu (by omega)
    rcases Int.lt_trichotomy (f t) (g t) with h | h | h
    · exact absurd ⟨t, ht, he, h⟩ h1
    · exact h
    · exact absurd ⟨t, ht, fun u hu => (he u hu).symm, h⟩ h2
theorem Lt.congr {n : Nat} {f g f' g' : Nat → Int} (h : Lt n f g) (e1 : ∀ t, t < n → f t = f' t) (e2 : ∀ t, t < n → g t = g' t) : Lt n f' g' := by
  obtain ⟨s, a1, a2, a3⟩ := h
  exact ⟨s, a1, fun t ht => by rw [← e1 t (by omega), ← e2 t (by omega)]; exact a2 t ht, by rw [← e1 s a1, ← e2 s a1]; exact a3⟩
section
variable {n : Nat} {a : Nat → Int}
/-- the turn by k -/
def turn (a : Nat → Int) (k : Nat) : Nat → Int := fun u => a (k + u)
/-- some turn comes ahead of the one by k -/
def NL (n : Nat) (a : Nat → Int) (k : Nat) : Prop := ∃ j, Lt n (turn a j) (turn a k)
theorem NL.congr {k l : Nat} (h : NL n a k) (e : ∀ t, t < n → a (k + t) = a (l + t)) : NL n a l := by
  obtain ⟨j, h⟩ := h
  exact ⟨j, h.congr (fun _ _ => rfl) e⟩
/-- who loses is passed by, with all between -/
theorem passed {b r s t : Nat} (he : ∀ u, u < s → a (b + u) = a (r + u)) (hl : a (b + s) < a (r + s)) (hs : s < n) (ht : t ≤ s) : NL n a (r + t) := by
  refine ⟨b + t, s - t, by omega, fun u hu => ?_, ?_⟩
  · show a (b + t + u) = a (r + t + u)
    have := he (t + u) (by omega)
    rw [show b + t + u = b + (t + u) by omega, show r + t + u = r + (t + u) by omega]
    exact this
  · show a (b + t + (s - t)) < a (r + t + (s - t))
    rw [show b + t + (s - t) = b + s by omega, show r + t + (s - t) = r + s by omega]
    exact hl
theorem least_of (m : Nat) (hm : 0 < m) : ∃ k, k < m ∧ ∀ j, j < m → ¬ Lt n (turn a j) (turn a k) := by
  induction m with
  | zero => omega
  | succ m ih =>
    by_cases h0 : m = 0
    · subst h0
      refine ⟨0, by omega, fun j hj h => ?_⟩
      have : j = 0 := by omega
      subst this
      exact h.irrefl
    · obtain ⟨k, hk, hl⟩ := ih (by omega)
      by_cases h : Lt n (turn a m) (turn a k)
      · refine ⟨m, by omega, fun j hj h2 => ?_⟩
        by_cases e : j = m
        · subst e
          exact h2.irrefl
        · exact hl j (by omega) (h2.trans h)
      · refine ⟨k, by omega, fun j hj h2 => ?_⟩
        by_cases e : j = m
        · subst e
          exact h h2
        · exact hl j (by omega) h2
theorem mod_turn (hp : ∀ i, a (i + n) = a i) (i : Nat) : a (i % n) = a i := by
  have key : ∀ q r, a (r + n * q) = a r := by
    intro q
    induction q with
    | zero => intro r; rw [Nat.mul_zero, Nat.add_zero]
    | succ q ih => intro r; rw [Nat.mul_succ, ← Nat.add_assoc, hp]; exact ih r
  have := key (i / n) (i % n)
  rw [Nat.mod_add_div] at this
  exact this.symm
/-- one of the first n turns is ahead of none -/
theorem least (hn : 0 < n) (hp : ∀ i, a (i + n) = a i) : ∃ k, k < n ∧ ¬ NL n a k := by
  obtain ⟨k, hk, hl⟩ := least_of (n := n) (a := a) n hn
  refine ⟨k, hk, fun ⟨j, hj⟩ => hl (j % n) (Nat.mod_lt _ hn) (hj.congr (fun t _ => ?_) fun _ _ => rfl)⟩
  show a (j + t) = a (j % n + t)
  rw [← mod_turn hp (j + t), ← mod_turn hp (j % n + t), Nat.add_mod, Nat.add_mod (j % n) t, Nat.mod_mod]
/-! ### the two runners -/
structure Run (n : Nat) (a : Nat → Int) (best rival same : Nat) : Prop where
  ne : best ≠ rival
  eq : ∀ t, t < same → a (best + t) = a (rival + t)
  nl : ∀ k, k < best ∨ k < rival → k ≠ best → k ≠ rival → NL n a k
theorem run_start : Run n a 0 1 0 := ⟨by omega, fun t ht => by omega, fun k h h1 h2 => by omega⟩
theorem run_same {best rival same : Nat} (h : Run n a best rival same) (e : a (best + same) = a (rival + same)) : Run n a best rival (same + 1) :=
  ⟨h.ne, fun t ht => by
    by_cases z : t = same
    · rw [z]; exact e
    · exact h.eq t (by omega), h.nl⟩
theorem run_rival {best rival same : Nat} (h : Run n a best rival same) (hs : same < n) (l : a (best + same) < a (rival + same)) : ∀ k, k < best ∨ k < rival + same + 1 → k ≠ best → NL n a k := fun k hk h1 => by
  by_cases z : k < best ∨ k < rival
  · by_cases z2 : k = rival
    · rw [z2]
      exact passed h.eq l hs (t := 0) (by omega)
    · exact h.nl k z h1 z2
  · have e : k = rival + (k - rival) := by omega
    rw [e]
    exact passed h.eq l hs (by omega)
theorem Run.swap {best rival same : Nat} (h : Run n a best rival same) : Run n a rival best same :=
  ⟨Ne.symm h.ne, fun t ht => (h.eq t ht).symm, fun k hk h1 h2 => h.nl k (hk.symm) h2 h1⟩
/-- behind a step: rival has lost -/
theorem run_next {best rival same : Nat} (h : Run n a best rival same) (hs : same < n) (l : a (best + same) < a (rival + same)) : Run n a best (if best = rival + same + 1 then rival + same + 1 + 1 else rival + same + 1) 0 := by
  have k1 := run_rival h hs l
  split
  · next e => exact ⟨by omega, fun t ht => by omega, fun k hk h1 h2 => k1 k (by omega) h1⟩
  · next e => exact ⟨e, fun t ht => by omega, fun k hk h1 h2 => k1 k (by omega) h1⟩
/-- behind a step: best has lost -/
theorem run_next2 {best rival same : Nat} (h : Run n a best rival same) (hs : same < n) (l : a (rival + same) < a (best + same)) : Run n a (best + same + 1) (if best + same + 1 = rival then rival + 1 else rival) 0 := by
  have k1 := run_rival h.swap hs l
  split
  · next e => exact ⟨by omega, fun t ht => by omega, fun k hk h1 h2 => k1 k (by omega) (by omega)⟩
  · next e => exact ⟨e, fun t ht => by omega, fun k hk h1 h2 => k1 k (by omega) h2⟩
theorem all_eq (hn : 0 < n) (hp : ∀ i, a (i + n) = a i) {b r : Nat} (h : ∀ t, t < n → a (b + t) = a (r + t)) : ∀ t, a (b + t) = a (r + t) := fun t => by
  have := h (t % n) (Nat.mod_lt _ hn)
  rw [← mod_turn hp (b + t), ← mod_turn hp (r + t), Nat.add_mod, Nat.add_mod r t, ← Nat.mod_mod t n, ← Nat.add_mod, ← Nat.add_mod, mod_turn hp, mod_turn hp]
  exact this
theorem end_eq (hn : 0 < n) (hp : ∀ i, a (i + n) = a i) {b r : Nat} (hbr : b < r) (he : ∀ t, t < n → a (b + t) = a (r + t)) (hl : ∀ k, k < r → k ≠ b → NL n a k) : ¬ NL n a b := by
  obtain ⟨k0, h0, hk⟩ := least hn hp
  have ha := all_eq hn hp he
  by_cases z : k0 < r
  · by_cases z2 : k0 = b
    · rw [← z2]; exact hk
    · exact absurd (hl k0 z z2) hk
  · -- goes down by r - b
    have down : ∀ q j, b ≤ j → a (j + (r - b) * q) = a j := by
      intro q
      induction q with
      | zero => intro j _; rw [Nat.mul_zero, Nat.add_zero]
      | succ q ih =>
        intro j hj
        rw [Nat.mul_succ, ← Nat.add_assoc]
        have h1 := ha (j + (r - b) * q - b)
        rw [show b + (j + (r - b) * q - b) = j + (r - b) * q by omega, show r + (j + (r - b) * q - b) = j + (r - b) * q + (r - b) by omega] at h1
        rw [← h1]
        exact ih j hj
    have hd : 0 < r - b := by omega
    have hm := Nat.mod_add_div (k0 - b) (r - b)
    have hlt := Nat.mod_lt (k0 - b) hd
    have key : ∀ t, a (b + (k0 - b) % (r - b) + t) = a (k0 + t) := fun t => by
      have := down ((k0 - b) / (r - b)) (b + (k0 - b) % (r - b) + t) (by omega)
      rw [← this]
      congr 1
      omega
    have hn1 : ¬ NL n a (b + (k0 - b) % (r - b)) := fun q => hk (q.congr fun t _ => key t)
    by_cases z2 : (k0 - b) % (r - b) = 0
    · rw [z2, Nat.add_zero] at hn1
      exact hn1
    · exact absurd (hl _ (by omega) (by omega)) hn1
/-- where the runners stop -/
theorem run_end (hn : 0 < n) (hp : ∀ i, a (i + n) = a i) {best rival same : Nat} (h : Run n a best rival same) (he : ¬ (best < n ∧ rival < n ∧ same < n)) : min best rival < n ∧ ¬ NL n a (min best rival) ∨ (n ≤ best ∧ n ≤ rival) := by
  obtain ⟨k0, h0, hk⟩ := least hn hp
  by_cases z1 : best < n
  · by_cases z2 : rival < n
    · have hs : n ≤ same := by omega
      refine .inl ⟨by omega, ?_⟩
      rcases Nat.lt_or_gt_of_ne h.ne with l | l
      · rw [Nat.min_eq_left (by omega)]
        exact end_eq hn hp l (fun t ht => h.eq t (by omega)) fun k h1 h2 => h.nl k (by omega) h2 (by omega)
      · rw [Nat.min_eq_right (by omega)]
        exact end_eq hn hp l (fun t ht => (h.eq t (by omega)).symm) fun k h1 h2 => h.nl k (by omega) (by omega) h2
    · refine .inl ⟨by omega, ?_⟩
      rw [Nat.min_eq_left (by omega)]
      by_cases z : k0 = best
      · rw [← z]; exact hk
      · exact absurd (h.nl k0 (by omega) z (by omega)) hk
  · by_cases z2 : rival < n
    · refine .inl ⟨by omega, ?_⟩
      rw [Nat.min_eq_right (by omega)]
      by_cases z : k0 = rival
      · rw [← z]; exact hk
      · exact absurd (h.nl k0 (by omega) (by omega) z) hk
    · exact .inr ⟨by omega, by omega⟩
end
end XN

set_option linter.all false
set_option maxRecDepth 100000
set_option maxHeartbeats 4000000
/-! XT: min of a list of tuples of whole numbers. -/
namespace XT
open PySem PySem.Spec PyProof.Rows L2 XA XB XC XD XE XF XG
/-- what stood in g stands, but for the walker's own and the pair at S -/
def Over (g : Heap) (wr : List Addr) (S : Addr) (h : Heap) : Prop := ∀ b o, b ∉ wr → b ≠ S → g.get? b = some o → h.get? b = some o
/-- items are compared over g -/
def Asks (prog : Program) (w : World) (A : Around) (g : Heap) (wr : List Addr) (S : Addr) (P : Nat → Value → Prop) (bt : Nat → Nat → Bool) : Prop :=
  ∀ i j u v (s : Shared) (Q : Value → Shared → Prop) (E : Value → Shared → Prop), Over g wr S s.heap → P i u → P j v → Q (.bool (bt i j)) s → wpAny (model prog w) A (richCompare .Lt u v) Q E s
section
variable {prog : Program} {w : World} {A : Around} {R : Result → Shared → Prop} {I S : Addr} {fp wr : List Addr} {n : Nat} {P : Nat → Value → Prop} {St : Nat → Heap → Prop} {bt : Nat → Nat → Bool} {g : Heap}
theorem loop_nm : (toString "min" ++ toString ".loop" : String) = "min.loop" := by decide
theorem min_go (W : Walks prog w A.in1 I fp wr n P St) (ask : Asks prog w A.in1 g wr S P bt) (out : S ∉ fp) : ∀ (left i : Nat) (s : Shared) (best : Value) (cap : Nat), n - (i + 1) = left → i + 1 ≤ n → St (i + 1) s.heap → P (argBest bt i) best → Over g wr S s.heap →
    s.heap.get? S = some { cls := .type "list", dict := none, data := .seq #[best, best] cap, slots := #[] } →
    (∀ v h' tk, P (argBest bt (n - 1)) v → Over s.heap wr S h' → R (.ok (.ret v)) { s with heap := h', toks := tk }) → codeAny (model prog w) A (.builtin "min.loop" ⟨[.ref I, .none, .ref S], []⟩) R s := by
  have off : S ∉ wr := fun z => out (W.sub _ z)
  intro left
  induction left with
  | zero =>
    intro i s best cap e1 e2 st pb ov pair fin
    have e3 : i + 1 = n := by omega
    refine codeAny_builtin F.entry_min_loop ?_
    rw [Around.under_plainId F.plain_min_loop _]
    refine wpAny_bind (m := seqItems? (.ref S)) (wpAny_seqItems pair rfl ?_)
    refine wpAny_bind (m := tryCatch (pyNext (.ref I)) _) (wpAny_tryCatch (W.done s _ _ (e3 ▸ st) fun h1 tk keep => ?_))
    refine wpAny_bind (m := updateSeq S fun _ => #[]) (wpAny_updateSeq (keep S _ off pair) rfl (wpAny_bind (wpAny_letGo (wpAny_pure ?_))))
    exact fin best _ tk (by rw [← e3]; exact pb) fun b o z1 z2 z3 => (Heap.get?_update_other _ _ (Ne.symm z2)).trans (keep b o z1 z3)
  | succ left more =>
    intro i s best cap e1 e2 st pb ov pair fin
    have e3 : i + 1 < n := by omega
    refine codeAny_builtin F.entry_min_loop ?_
    rw [Around.under_plainId F.plain_min_loop _]
    refine wpAny_bind (m := seqItems? (.ref S)) (wpAny_seqItems pair rfl ?_)
    refine wpAny_bind (m := tryCatch (pyNext (.ref I)) _) (wpAny_tryCatch (W.item (i + 1) s _ _ e3 st fun v h1 tk pv st1 keep => ?_))
    have pair1 := keep S _ off pair
    have ov1 : Over g wr S h1 := fun b o z1 z2 z3 => keep b o z1 (ov b o z1 z2 z3)
    refine wpAny_bind (m := tryCatch (holding [v, v] (richCompare .Lt v best >>= _)) _) (wpAny_tryCatch (wpAny_holding (wpAny_bind (ask (i + 1) (argBest bt i) v best _ _ _ ov1 pv pb ?_))))
    refine wpAny_bind (wpAny_holding (wpAny_truthy_bool (wpAny_bind (wpAny_letGo (wpAny_pure ?_)))))
    cases q : bt (i + 1) (argBest bt i) with
    | true =>
      simp only [if_true]
      refine wpAny_bind (wpAny_updateSeq pair1 rfl (wpAny_bind (wpAny_letGo ?_)))
      rw [loop_nm]
      have kept2 : ∀ (f : Obj → Obj) b o, b ≠ S → h1.get? b = some o → (h1.update S f).get? b = some o := fun f b o z e => (Heap.get?_update_other _ f (Ne.symm z)).trans e
      refine wpAny_pure ⟨plainId_quiet F.plain_min_loop _, more (i + 1) _ v _ (by omega) e3 (W.frame _ _ _ st1 fun b z o e => kept2 _ b o (fun y => out (y ▸ z)) e) (by simp only [argBest, q, if_true]; exact pv)
        (fun b o z1 z2 z3 => kept2 _ b o z2 (ov1 b o z1 z2 z3)) (Heap.get?_update_self _ pair1 rfl) fun u h2 tk2 pu keep2 => ?_⟩
      exact fin u h2 tk2 pu fun b o z1 z2 z3 => keep2 b o z1 z2 (kept2 _ b o z2 (keep b o z1 z3))
    | false =>
      simp only [Bool.false_eq_true, if_false]
      refine wpAny_bind (wpAny_letGo ?_)
      rw [loop_nm]
      refine wpAny_pure ⟨plainId_quiet F.plain_min_loop _, more (i + 1) _ best cap (by omega) e3 st1 (by simp only [argBest, q, Bool.false_eq_true, if_false]; exact pb) ov1 pair1 fun u h2 tk2 pu keep2 => ?_⟩
      exact fin u h2 tk2 pu fun b o z1 z2 z3 => keep2 b o z1 z2 (keep b o z1 z3)
theorem min_first (W : Walks prog w A.in1 I fp wr n P St) (ask : Asks prog w A.in1 g wr S P bt) (out : S ∉ fp) (pos : 0 < n) {s : Shared} {cap : Nat} (st : St 0 s.heap) (ov : Over g wr S s.heap) (pair : s.heap.get? S = some { cls := .type "list", dict := none, data := .seq #[] cap, slots := #[] })
    (fin : ∀ v h' tk, P (argBest bt (n - 1)) v → Over s.heap wr S h' → R (.ok (.ret v)) { s with heap := h', toks := tk }) : codeAny (model prog w) A (.builtin "min.loop" ⟨[.ref I, .none, .ref S], []⟩) R s := by
  have off : S ∉ wr := fun z => out (W.sub _ z)
  refine codeAny_builtin F.entry_min_loop ?_
  rw [Around.under_plainId F.plain_min_loop _]
  refine wpAny_bind (m := seqItems? (.ref S)) (wpAny_seqItems pair rfl ?_)
  refine wpAny_bind (m := tryCatch (pyNext (.ref I)) _) (wpAny_tryCatch (W.item 0 s _ _ pos st fun v h1 tk pv st1 keep => ?_))
  have pair1 := keep S _ off pair
  refine wpAny_bind (m := updateSeq S fun _ => #[v, v]) (wpAny_updateSeq pair1 rfl ?_)
  rw [loop_nm]
  have kept2 : ∀ (f : Obj → Obj) b o, b ≠ S → h1.get? b = some o → (h1.update S f).get? b = some o := fun f b o z e => (Heap.get?_update_other _ f (Ne.symm z)).trans e
  refine wpAny_pure ⟨plainId_quiet F.plain_min_loop _, min_go W ask out _ 0 _ v _ rfl pos (W.frame _ _ _ st1 fun b z o e => kept2 _ b o (fun y => out (y ▸ z)) e) pv (fun b o z1 z2 z3 => kept2 _ b o z2 (keep b o z1 (ov b o z1 z2 z3))) (Heap.get?_update_self _ pair1 rfl)
    fun u h2 tk2 pu keep2 => ?_⟩
  exact fin u h2 tk2 pu fun b o z1 z2 z3 => keep2 b o z1 z2 (kept2 _ b o z2 (keep b o z1 z3))
end
section
variable {prog : Program} {w : World} {A : Around} {E : Value → Shared → Prop} {s : Shared}
/-- min(xs), xs a list, its items compared over the heap as it is -/
theorem min_over {l : Addr} {items : Array Value} {bt : Nat → Nat → Bool} {Q : Value → Shared → Prop} (hh : A.handled = none) (hl : s.heap.IsList l items) (pos : 0 < items.size)
    (ask : ∀ i j u v (s' : Shared) (Q' : Value → Shared → Prop) (E' : Value → Shared → Prop), (∀ b o, s.heap.get? b = some o → s'.heap.get? b = some o) → items[i]? = some u → items[j]? = some v → Q' (.bool (bt i j)) s' → wpAny (model prog w) A.in1 (richCompare .Lt u v) Q' E' s')
    (h : ∀ v h' tk, items[argBest bt (items.size - 1)]? = some v → (∀ b o, s.heap.get? b = some o → h'.get? b = some o) → Q v { s with heap := h', toks := tk }) : wpAny (model prog w) A (call (.builtin "min") [.ref l]) Q E s := by
  have hlt : l < s.heap.objs.size := by
    obtain ⟨_, e, _⟩ := hl
    exact Heap.lt_size e
  refine call_function_tree F.kind_min F.plain_min F.entry_min (F.args_min1 _) ?_
  have none2 : Builtin.Builtins.bindParams "min" ["key", "default"] 0 ⟨[], []⟩ = pure [none, none] := rfl
  refine wpAny_bind (m := Builtin.Builtins.bindParams "min" ["key", "default"] 0 ⟨[], []⟩) (wpAny_of_eq none2 ?_)
  refine wpAny_bind (wpAny_pure ?_)
  refine wpAny_bind (wpAny_pyIter_list hl ?_)
  refine wpAny_bind (wpAny_newObj_type ?_)
  rw [loop_nm]
  have ne : l ≠ s.heap.objs.size := Nat.ne_of_lt hlt
  have k1 : ∀ b o, s.heap.get? b = some o → (s.heap.push { cls := .type "list_iterator", data := .fields #[.ref l, .int 0 0] }).get? b = some o := fun b o e => Heap.get?_push_of_some _ e
  have W := Walks.list (prog := prog) (w := w) (A := A.in1) hh s.heap.objs.size l ne items
  refine wpAny_pure ⟨plainId_quiet F.plain_min_loop _, min_first (g := s.heap) W (bt := bt) (fun i j u v s' Q' E' ov hu hv q => ?_) ?_ pos ⟨?_, ?_⟩ ?_ (Heap.get?_push_size _ rfl) fun v h' tk hv ov => ?_⟩
  · refine ask i j u v s' Q' E' (fun b o e => ov b o (fun z => ?_) (fun z => ?_) e) hu hv q
    · have z := List.mem_singleton.mp z
      rw [z] at e
      exact Nat.lt_irrefl _ (Heap.lt_size e)
    · have e2 := Heap.lt_size e
      rw [z] at e2
      have e3 : (s.heap.push { cls := .type "list_iterator", data := .fields #[.ref l, .int 0 0] }).objs.size = s.heap.objs.size + 1 := Heap.size_push _ _
      have e4 : (s.heap.push { cls := .type "list_iterator", data := .fields #[.ref l, .int 0 0] }).objs.size < s.heap.objs.size := e2
      omega
  · intro z
    have e3 : (s.heap.push { cls := .type "list_iterator", data := .fields #[.ref l, .int 0 0] }).objs.size = s.heap.objs.size + 1 := Heap.size_push _ _
    rcases List.mem_cons.mp z with z | z
    · have z2 : (s.heap.push { cls := .type "list_iterator", data := .fields #[.ref l, .int 0 0] }).objs.size = s.heap.objs.size := z
      omega
    · have z2 : (s.heap.push { cls := .type "list_iterator", data := .fields #[.ref l, .int 0 0] }).objs.size = l := List.mem_singleton.mp z
      have z3 : l = s.heap.objs.size + 1 := z2.symm.trans e3
      rw [z3] at hlt
      exact Nat.lt_irrefl _ (Nat.lt_of_succ_lt hlt)
  · exact ⟨_, Heap.get?_push_of_some _ (Heap.get?_push_size _ rfl), rfl, rfl⟩
  · exact (hl.push _).push _
  · exact fun b o _ _ e => Heap.get?_push_of_some _ (k1 b o e)
  · refine h v h' tk hv fun b o e => ov b o (fun z => ?_) (fun z => ?_) (Heap.get?_push_of_some _ (k1 b o e))
    · have z := List.mem_singleton.mp z
      rw [z] at e
      exact Nat.lt_irrefl _ (Heap.lt_size e)
    · have e2 := Heap.lt_size e
      rw [z] at e2
      have e3 : (s.heap.push { cls := .type "list_iterator", data := .fields #[.ref l, .int 0 0] }).objs.size = s.heap.objs.size + 1 := Heap.size_push _ _
      have e4 : (s.heap.push { cls := .type "list_iterator", data := .fields #[.ref l, .int 0 0] }).objs.size < s.heap.objs.size := e2
      omega
end
/-! ### the least of a list of tuples of whole numbers -/
theorem lex_irrefl : ∀ x : List Int, HT.lexLt x x = false
  | [] => rfl
  | a :: x => by rw [HT.lexLt_cons, if_pos rfl, lex_irrefl x]
theorem lex_trans : ∀ {x y z : List Int}, HT.lexLt x y = true → HT.lexLt y z = true → HT.lexLt x z = true
  | [], [], _, h, _ => by cases h
  | [], _ :: _, [], _, h => by cases h
  | [], _ :: _, _ :: _, _, _ => rfl
  | _ :: _, [], _, h, _ => by cases h
  | _ :: _, _ :: _, [], _, h => by cases h
  | a :: x, b :: y, c :: z, h1, h2 => by
    rw [HT.lexLt_cons] at h1 h2 ⊢
    by_cases e1 : a = b
    · rw [if_pos e1] at h1
      by_cases e2 : b = c
      · rw [if_pos e2] at h2
        rw [if_pos (e1.trans e2)]
        exact lex_trans h1 h2
      · rw [if_neg e2] at h2
        rw [if_neg (by omega), e1]
        exact h2
    · rw [if_neg e1] at h1
      have h1 := of_decide_eq_true h1
      by_cases e2 : b = c
      · rw [if_neg (by omega)]
        exact decide_eq_true (by omega)
      · rw [if_neg e2] at h2
        have h2 := of_decide_eq_true h2
        rw [if_neg (by omega)]
        exact decide_eq_true (by omega)
theorem best_least (xss : List (List Int)) : ∀ k, k < xss.length → argBest (fun i j => HT.lexLt (xss.getD i []) (xss.getD j [])) k < xss.length ∧ ∀ i, i ≤ k → HT.lexLt (xss.getD i []) (xss.getD (argBest (fun i j => HT.lexLt (xss.getD i []) (xss.getD j [])) k) []) = false
  | 0, h => ⟨h, fun i hi => by
    have : i = 0 := by omega
    subst this
    exact lex_irrefl _⟩
  | k + 1, h => by
    obtain ⟨h1, h2⟩ := best_least xss k (by omega)
    simp only [argBest]
    by_cases q : HT.lexLt (xss.getD (k + 1) []) (xss.getD (argBest (fun i j => HT.lexLt (xss.getD i []) (xss.getD j [])) k) []) = true
    · rw [if_pos q]
      refine ⟨h, fun i hi => ?_⟩
      by_cases e : i = k + 1
      · rw [e]; exact lex_irrefl _
      · cases r : HT.lexLt (xss.getD i []) (xss.getD (k + 1) []) with
        | false => rfl
        | true =>
          have := lex_trans r q
          rw [h2 i (by omega)] at this
          cases this
    · rw [if_neg q]
      refine ⟨h1, fun i hi => ?_⟩
      by_cases e : i = k + 1
      · rw [e]
        exact Bool.eq_false_iff.mpr q
      · exact h2 i (by omega)
/-- min(xs), xs a list of tuples of whole numbers -/
def rMinT (K : PySem.W.Frag) : List V → Hp → VK → Prop := fun vs H Q => ∃ (a : Addr) (ps : List Addr) (xss : List (List Int)), vs = [V.ref a] ∧ SqL K H a (ps.map V.ref) ∧ ps.length = xss.length ∧ 0 < xss.length ∧ (∀ (i : Nat) (p : Addr) (xs : List Int), ps[i]? = some p → xss[i]? = some xs → SqT K H p (xs.map V.int)) ∧
  ∀ (i : Nat) (p : Addr) (xs : List Int), ps[i]? = some p → xss[i]? = some xs → (∀ ys ∈ xss, HT.lexLt ys xs = false) → Q (.ref p) H
theorem call_minT {X : Cx} (hc : X.calm = true) (hu : X.A.units + 64 < cLine) : CallR X (.builtin "min") (rMinT X.K) := by
  intro pins s σ H vs us Q I r h
  obtain ⟨a, ps, xss, rfl, hs, hl, hp, ht, q⟩ := h
  obtain ⟨its, rv, hL, hz⟩ := I.list hs
  rw [Vals.ref1 r]
  have el : its.length = xss.length := by
    have := rv.length
    rw [List.length_map] at this
    omega
  have item : ∀ (i : Nat) (u : Value), its.toArray[i]? = some u → ∃ p xs, ps[i]? = some p ∧ xss[i]? = some xs ∧ u = .ref p := fun i u hi => by
    have hi : its[i]? = some u := by simpa using hi
    have hi2 : i < xss.length := by
      have := (List.getElem?_eq_some_iff.mp hi).1
      omega
    obtain ⟨p, hp2⟩ : ∃ p, ps[i]? = some p := ⟨_, List.getElem?_eq_getElem (by omega)⟩
    obtain ⟨u2, e2, r2⟩ := rv.get (i := i) (x := V.ref p) (by rw [List.getElem?_map, hp2] <;> rfl)
    rw [hi] at e2
    cases e2
    exact ⟨p, _, hp2, List.getElem?_eq_getElem hi2, r2⟩
  have getD_of : ∀ {i : Nat} {xs : List Int}, xss[i]? = some xs → xss.getD i [] = xs := fun {i xs} e => by rw [List.getD_eq_getElem?_getD, e] <;> rfl
  have tup : ∀ {i : Nat} {p : Addr} {xs : List Int} {h' : Heap}, ps[i]? = some p → xss[i]? = some xs → (∀ b o, s.heap.get? b = some o → h'.get? b = some o) → ∃ its : List Value, IsTup h' p its.toArray ∧ IntsAre its.toArray.toList xs := fun {i p xs h'} e1 e2 kp => by
    obtain ⟨its, r1, ⟨o, ho, hT⟩, _⟩ := I.tuple (ht i p xs e1 e2)
    exact ⟨its, ⟨o, kp _ _ ho, hT⟩, r1.ints⟩
  refine min_over (bt := fun i j => HT.lexLt (xss.getD i []) (xss.getD j [])) (I.ok.hd hc) hL.isList (by simpa [el] using hp) (fun i j u v s' Q' E' kp hu1 hv1 q1 => ?_) fun v h' tk hv kp => ?_
  · obtain ⟨p1, x1, a1, a2, rfl⟩ := item i u hu1
    obtain ⟨p2, x2, b1, b2, rfl⟩ := item j v hv1
    obtain ⟨i1, t1, n1⟩ := tup a1 a2 kp
    obtain ⟨i2, t2, n2⟩ := tup b1 b2 kp
    rw [getD_of a2, getD_of b2] at q1
    exact HT.lt_tupInts t1 t2 n1 n2 (by show X.A.units + 1 < cLine; omega) q1
  · obtain ⟨p1, x1, a1, a2, rfl⟩ := item _ v hv
    obtain ⟨c1, c2⟩ := best_least xss (its.toArray.size - 1) (by simp [el]; omega)
    refine ⟨.ref p1, H, I.kept kp, rfl, q _ p1 x1 a1 a2 fun ys hys => ?_⟩
    obtain ⟨k, hk, e⟩ := List.mem_iff_getElem.mp hys
    have := c2 k (by simp [el]; omega)
    rw [getD_of a2, getD_of (List.getElem?_eq_getElem hk), e] at this
    exact this
end XT

set_option linter.all false
set_option maxRecDepth 100000
/-! XP0: words up to turning: cancelling. -/
namespace XP
open XM
theorem mid {b b' : List Int} (h : red b = red b') (a c : List Int) : red (a ++ b ++ c) = red (a ++ b' ++ c) := by
  rw [← red_left (a ++ b), ← red_right a b, h, red_right, red_left]
theorem inv_app (a b : List Int) : inv (a ++ b) = inv b ++ inv a := by simp [inv]
theorem inv_inv (a : List Int) : inv (inv a) = a := by simp [inv, List.map_reverse, Function.comp_def]
theorem cancel : ∀ x : List Int, red (x ++ inv x) = []
  | [] => rfl
  | y :: x => by
    have e : y :: x ++ inv (y :: x) = [y] ++ (x ++ inv x) ++ [-y] := by simp [inv]
    rw [e, mid (b' := []) (by rw [cancel x] <;> rfl)]
    show (stack [] [y, -y]).reverse = []
    have : push [y] (-y) = [] := push_c [] (by omega)
    show (push (push [] y) (-y)).reverse = []
    rw [show push [] y = [y] from rfl, this] <;> rfl
theorem cancel2 (x : List Int) : red (inv x ++ x) = [] := by
  have := cancel (inv x)
  rw [inv_inv] at this
  exact this
theorem gone (a x c : List Int) : red (a ++ (inv x ++ x) ++ c) = red (a ++ c) := by
  have := mid (b := inv x ++ x) (b' := []) (by rw [cancel2] <;> rfl) a c
  rw [List.append_nil] at this
  exact this
theorem gone2 (a x c : List Int) : red (a ++ (x ++ inv x) ++ c) = red (a ++ c) := by
  have := mid (b := x ++ inv x) (b' := []) (by rw [cancel] <;> rfl) a c
  rw [List.append_nil] at this
  exact this
theorem red_inv (x : List Int) : red (inv (red x)) = red (inv x) := by
  have h1 := gone2 (inv (red x)) x []
  rw [List.append_nil, List.append_nil] at h1
  rw [← h1, ← List.append_assoc]
  have h2 := mid (b := inv (red x) ++ x) (b' := []) (by rw [← red_right, cancel2] <;> rfl) [] (inv x)
  simpa using h2
end XP

set_option linter.all false
set_option maxRecDepth 100000
/-! XP: words up to turning: cancelling, tails, rings. -/
namespace XP
open XM
/-- what turns one into the other one, if both are one ring turned -/
theorem turn_of {w v g one other : List Int} (h1 : one = red (w ++ g ++ inv w)) (h2 : other = red (v ++ g ++ inv v)) : red (red (v ++ inv w) ++ one ++ inv (red (v ++ inv w))) = other := by
  rw [← red_right, red_inv, red_right, inv_app, inv_inv, List.append_assoc, red_left, h1, ← List.append_assoc, mid (red_red _), h2]
  have e : v ++ inv w ++ (w ++ g ++ inv w) ++ (w ++ inv v) = v ++ (inv w ++ w) ++ (g ++ (inv w ++ w) ++ inv v) := by simp
  rw [e, gone]
  have e2 : v ++ (g ++ (inv w ++ w) ++ inv v) = (v ++ g) ++ (inv w ++ w) ++ inv v := by simp
  rw [e2, gone]
/-! ### tails -/
def Cx (w : List Int) (i : Nat) : Prop := i < w.length - 1 - i ∧ w.getD i 0 = - w.getD (w.length - 1 - i) 0
def IsOff (w : List Int) (k : Nat) : Prop := (∀ i, i < k → Cx w i) ∧ ¬ Cx w k
theorem off_one {w : List Int} {k l : Nat} (h1 : IsOff w k) (h2 : IsOff w l) : k = l := by
  rcases Nat.lt_trichotomy k l with h | h | h
  · exact absurd (h2.1 k h) h1.2
  · exact h
  · exact absurd (h1.1 l h) h2.2
def core (w : List Int) (k : Nat) : List Int := (w.take (w.length - k)).drop k
def rot (xs : List Int) (k : Nat) : List Int := xs.drop k ++ xs.take k
theorem off_le {w : List Int} {k : Nat} (h : ∀ i, i < k → Cx w i) : k + k ≤ w.length := by
  cases k with
  | zero => omega
  | succ k =>
    have := (h k (by omega)).1
    omega
theorem tail_of {w : List Int} {k : Nat} (h : ∀ i, i < k → Cx w i) : w.drop (w.length - k) = inv (w.take k) := by
  have hk := off_le h
  apply List.ext_getElem?
  intro i
  unfold inv
  by_cases hi : i < k
  · rw [List.getElem?_drop, List.getElem?_map, List.getElem?_reverse (by rw [List.length_take]; omega), List.length_take, List.getElem?_take_of_lt (by omega), Nat.min_eq_left (by omega)]
    have h1 := (h (k - 1 - i) (by omega)).2
    rw [show w.length - 1 - (k - 1 - i) = w.length - k + i by omega, List.getD_eq_getElem?_getD, List.getD_eq_getElem?_getD, List.getElem?_eq_getElem (show k - 1 - i < w.length by omega), List.getElem?_eq_getElem (show w.length - k + i < w.length by omega)] at h1
    rw [List.getElem?_eq_getElem (show k - 1 - i < w.length by omega), List.getElem?_eq_getElem (show w.length - k + i < w.length by omega)]
    simp only [Option.getD_some, Option.map_some] at h1 ⊢
    rw [h1, Int.neg_neg]
  · rw [List.getElem?_eq_none (by rw [List.length_drop]; omega), List.getElem?_eq_none (by rw [List.length_map, List.length_reverse, List.length_take]; omega)]
theorem word_of {w : List Int} {k : Nat} (h : ∀ i, i < k → Cx w i) : w = w.take k ++ core w k ++ inv (w.take k) := by
  have hk := off_le h
  rw [← tail_of h]
  unfold core
  have e1 : w.take k = (w.take (w.length - k)).take k := by rw [List.take_take, Nat.min_eq_left (by omega)]
  rw [e1, List.take_append_drop, List.take_append_drop]
theorem way_of {w : List Int} {k s : Nat} (h : ∀ i, i < k → Cx w i) : red (w.take k ++ (core w k).take s ++ rot (core w k) s ++ inv (w.take k ++ (core w k).take s)) = red w := by
  rw [inv_app]
  have hc := List.take_append_drop s (core w k)
  unfold rot
  generalize hT : (core w k).take s = T at hc ⊢
  generalize hD : (core w k).drop s = D at hc ⊢
  have e : w.take k ++ T ++ (D ++ T) ++ (inv T ++ inv (w.take k)) = (w.take k ++ (T ++ D)) ++ (T ++ inv T) ++ inv (w.take k) := by simp
  rw [e, gone2, hc]
  conv => rhs; rw [word_of h]
/-! ### rings -/
open XN
theorem lex_lt : ∀ {xs ys : List Int} {f g : Nat → Int}, xs.length = ys.length → (∀ i x, xs[i]? = some x → f i = x) → (∀ i x, ys[i]? = some x → g i = x) → HT.lexLt xs ys = true → Lt xs.length f g
  | [], [], _, _, _, _, _, h => by cases h
  | [], _ :: _, _, _, h, _, _, _ => by simp at h
  | _ :: _, [], _, _, h, _, _, _ => by simp at h
  | x :: xs, y :: ys, f, g, hl, hf, hg, h => by
    rw [HT.lexLt_cons] at h
    have f0 : f 0 = x := hf 0 x rfl
    have g0 : g 0 = y := hg 0 y rfl
    by_cases e : x = y
    · rw [if_pos e] at h
      obtain ⟨s, a1, a2, a3⟩ := lex_lt (f := fun i => f (i + 1)) (g := fun i => g (i + 1)) (by simpa using hl) (fun i z hz => hf (i + 1) z (by simpa using hz)) (fun i z hz => hg (i + 1) z (by simpa using hz)) h
      refine ⟨s + 1, by simp only [List.length_cons]; omega, fun t ht => ?_, a3⟩
      cases t with
      | zero => rw [f0, g0, e]
      | succ t => exact a2 t (by omega)
    · rw [if_neg e] at h
      have h := of_decide_eq_true h
      exact ⟨0, by simp, fun t ht => by omega, by rw [f0, g0]; exact h⟩
theorem lex_total : ∀ {x y : List Int}, HT.lexLt x y = false → HT.lexLt y x = false → x = y
  | [], [], _, _ => rfl
  | [], _ :: _, h, _ => by cases h
  | _ :: _, [], _, h => by cases h
  | a :: x, b :: y, h1, h2 => by
    rw [HT.lexLt_cons] at h1 h2
    by_cases e : a = b
    · rw [if_pos e] at h1
      rw [if_pos e.symm] at h2
      rw [e, lex_total h1 h2]
    · rw [if_neg e] at h1
      rw [if_neg (Ne.symm e)] at h2
      have h1 := of_decide_eq_false h1
      have h2 := of_decide_eq_false h2
      omega
/-- the letters of m, again and again -/
def seq (m : List Int) (i : Nat) : Int := m.getD (i % m.length) 0
theorem seq_per (m : List Int) (i : Nat) : seq m (i + m.length) = seq m i := by
  unfold seq
  rw [Nat.add_mod_right]
theorem rot_len {m : List Int} {k : Nat} (h : k ≤ m.length) : (rot m k).length = m.length := by
  unfold rot
  rw [List.length_append, List.length_drop, List.length_take]
  omega
theorem rot_at {m : List Int} {k i : Nat} {x : Int} (hk : k < m.length) (h : (rot m k)[i]? = some x) : turn (seq m) k i = x := by
  have hi : i < m.length := by
    have := (List.getElem?_eq_some_iff.mp h).1
    rw [rot_len (by omega)] at this
    exact this
  unfold rot at h
  show m.getD ((k + i) % m.length) 0 = x
  by_cases z : k + i < m.length
  · rw [Nat.mod_eq_of_lt z, List.getD_eq_getElem?_getD]
    rw [List.getElem?_append_left (by rw [List.length_drop]; omega), List.getElem?_drop] at h
    rw [h] <;> rfl
  · rw [Nat.mod_eq_sub_mod (by omega), Nat.mod_eq_of_lt (by omega), List.getD_eq_getElem?_getD]
    rw [List.getElem?_append_right (by rw [List.length_drop]; omega), List.length_drop, List.getElem?_take_of_lt (by omega), show i - (m.length - k) = k + i - m.length by omega] at h
    rw [h] <;> rfl
/-- where no turn is ahead, no turn comes first -/
theorem rot_least {m : List Int} {k j : Nat} (hk : k < m.length) (hn : ¬ NL m.length (seq m) k) (hj : j < m.length) : HT.lexLt (rot m j) (rot m k) = false := by
  cases e : HT.lexLt (rot m j) (rot m k) with
  | false => rfl
  | true =>
    have := lex_lt (f := turn (seq m) j) (g := turn (seq m) k) (by rw [rot_len (by omega), rot_len (by omega)]) (fun i x h => rot_at hj h) (fun i x h => rot_at hk h) e
    rw [rot_len (by omega)] at this
    exact absurd ⟨j, this⟩ hn
/-- the ring of a plain word -/
def IsRing (w r : List Int) : Prop := ∃ off, IsOff w off ∧ ((core w off = [] ∧ r = []) ∨ ∃ k, k < (core w off).length ∧ r = rot (core w off) k ∧ ∀ j, j < (core w off).length → HT.lexLt (rot (core w off) j) r = false)
theorem ring_one {w r r' : List Int} (h1 : IsRing w r) (h2 : IsRing w r') : r = r' := by
  obtain ⟨o1, a1, b1⟩ := h1
  obtain ⟨o2, a2, b2⟩ := h2
  obtain rfl := off_one a1 a2
  rcases b1 with ⟨c1, d1⟩ | ⟨k, c1, d1, e1⟩
  · rcases b2 with ⟨c2, d2⟩ | ⟨l, c2, d2, e2⟩
    · rw [d1, d2]
    · rw [c1] at c2
      exact absurd c2 (by simp)
  · rcases b2 with ⟨c2, d2⟩ | ⟨l, c2, d2, e2⟩
    · rw [c2] at c1
      exact absurd c1 (by simp)
    · refine lex_total ?_ ?_
      · have := e2 k c1
        rw [← d1] at this
        exact this
      · have := e1 l c2
        rw [← d2] at this
        exact this
/-- the first of the turns that come first -/
def IsTurn (m : List Int) (k : Nat) : Prop := (m = [] ∧ k = 0) ∨ (k < m.length ∧ ¬ NL m.length (seq m) k ∧ ∀ j, j < k → NL m.length (seq m) j)
theorem turn_one {m : List Int} {k l : Nat} (h1 : IsTurn m k) (h2 : IsTurn m l) : k = l := by
  rcases h1 with ⟨a1, a2⟩ | ⟨a1, a2, a3⟩
  · rcases h2 with ⟨b1, b2⟩ | ⟨b1, b2, b3⟩
    · omega
    · rw [a1] at b1
      exact absurd b1 (by simp)
  · rcases h2 with ⟨b1, b2⟩ | ⟨b1, b2, b3⟩
    · rw [b1] at a1
      exact absurd a1 (by simp)
    · rcases Nat.lt_trichotomy k l with h | h | h
      · exact absurd (b3 k h) a2
      · exact h
      · exact absurd (a3 l h) b2
def IsWay (w v : List Int) : Prop := ∃ off k, IsOff w off ∧ IsTurn (core w off) k ∧ v = w.take (off + k)
theorem way_one {w v v' : List Int} (h1 : IsWay w v) (h2 : IsWay w v') : v = v' := by
  obtain ⟨o1, k1, a1, a2, a3⟩ := h1
  obtain ⟨o2, k2, b1, b2, b3⟩ := h2
  obtain rfl := off_one a1 b1
  obtain rfl := turn_one a2 b2
  rw [a3, b3]
end XP

set_option linter.all false
set_option maxRecDepth 100000
set_option maxHeartbeats 4000000
namespace KP
open PySem PySem.Spec PyProof.Rows L2 XA XB XC XD XM XE XF XG
def top (i : Nat) : Stmt := PySem.Challenge.pw_meankept_k01_rings_and_turned_rows.main.body.getD i (.Pass ⟨0, 0, 0, 0⟩)
/-- what the top holds: built-ins by their own names, constants, error classes -/
structure Bs (K : PySem.W.Frag) (mg : Str → Option Value) : Prop where
  n_isinstance : mg "isinstance" = none
  n_int : mg "int" = none
  n_bool : mg "bool" = none
  n_tuple : mg "tuple" = none
  n_list : mg "list" = none
  n_len : mg "len" = none
  n_all : mg "all" = none
  n_abs : mg "abs" = none
  n_min : mg "min" = none
  n_range : mg "range" = none
  n_reversed : mg "reversed" = none
  n_str : mg "str" = none
  c_MOST_DEEDS : ∃ t, mg "MOST_DEEDS" = some (.int 4 t)
  c_MOST_LETTERS : ∃ t, mg "MOST_LETTERS" = some (.int 200 t)
  x_KeepError : Xc K mg "KeepError" (He.ga K "KeepError")
  x_BadDeeds : Xc K mg "BadDeeds" (He.ga K "BadDeeds")
  x_BadRow : Xc K mg "BadRow" (He.ga K "BadRow")
local macro_rules | `(tactic| walk_at "rd") => `(tactic| repeat (first
  | (with_reducible refine rd_seq ?_) | (with_reducible refine rd_asg ?_) | ((with_reducible refine' rd_var ?hv ?_); (case hv => exact rfl)) | (with_reducible refine rd_c ?_) | (with_reducible refine rd_gn ?_)
  | (with_reducible refine rd_op ?_) | (with_reducible refine rd_un ?_) | (with_reducible refine rd_cons ?_) | (with_reducible refine rd_nil ?_) | (with_reducible refine rd_cl ?_) | (with_reducible refine rd_ck ?_) | (with_reducible refine rd_cb ?_)
  | (with_reducible refine rd_ret ?_) | (with_reducible refine rd_drop ?_) | (with_reducible refine rd_ifs ?_) | (with_reducible refine rd_if ?_) | (with_reducible refine rd_test ?_) | (with_reducible refine rd_tb ?_) | (with_reducible refine rd_and ?_) | (with_reducible refine rd_or ?_)
  | (with_reducible refine rd_not ?_) | (with_reducible refine rd_andV ?_) | (with_reducible refine rd_orV ?_) | (with_reducible refine rd_notV ?_) | (with_reducible refine rd_chain ?_) | (with_reducible refine rd_tup ?_) | (with_reducible refine rd_lst ?_)
  | (with_reducible refine rd_bm0 ?_) | (with_reducible refine rd_bm ?_) | (with_reducible refine rd_sl ?_) | (with_reducible refine rd_part ?_) | (with_reducible refine rd_nopart ?_) | (with_reducible refine rd_dget ?_) | (with_reducible refine rd_dput ?_)
  | (with_reducible refine rd_next ?_) | (with_reducible refine rd_lc ?_) | ((with_reducible refine' rd_aug ?hv ?_); (case hv => exact rfl)) | (with_reducible refine rd_cont ?_) | (with_reducible refine rd_gcons ?_) | (with_reducible refine rd_gnil ?_) | (with_reducible refine rd_ifT ?_) | (with_reducible refine rd_yes ?_) | (with_reducible refine rd_tru ?_) | (with_reducible refine rd_cntE ?_) | (with_reducible refine rd_rng1 ?_) | (with_reducible refine rd_lrg ?_) | (with_reducible refine rd_rg2 ?_) | (with_reducible refine rd_back ?_) | (with_reducible refine rd_disp ?_) | (with_reducible refine rd_prN ?_) | (with_reducible refine rd_prC ?_) | (with_reducible refine rd_par ?_) | (with_reducible refine rd_par3 ?_) | (with_reducible refine rd_two ?_) | (with_reducible refine rd_three ?_) | (with_reducible refine rd_one ?_) | (with_reducible refine rd_onei ?_) | (with_reducible refine rd_iL ?_) | (with_reducible refine rd_iT ?_) | (with_reducible refine rd_rng2 ?_) | (with_reducible refine rd_bl ?_) | (with_reducible refine rd_int ?_) | (with_reducible refine rd_I0 ?_) | (with_reducible refine rd_U ?_) | (with_reducible refine rd_din ?_) | (with_reducible refine rd_dnin ?_) | (with_reducible refine rd_dnew ?_) | (with_reducible refine rd_lset ?_) | (with_reducible refine rd_enT ?_) | (with_reducible refine rd_idx ?_) | (with_reducible refine rd_rg1 ?_) | (with_reducible refine rd_tupRg ?_)))

section
variable {P : Program} {w : World} {K : PySem.W.Frag} {mg : Str → Option Value} {base : Heap}
/-! ### plain_letters -/
def spPlain (K : PySem.W.Frag) : Sp := fun vs H Q _ => ∃ (a : Addr) (xs : List Int), vs = [.ref a] ∧ SqT K H a (xs.map V.int) ∧ xs.length ≤ 10000 ∧ ∀ p H', Same H H' → Tp H' p ((red xs).map V.int) → Q (.ref p) H'
abbrev s_plain_letters : Stmt := top 5
abbrev N_plain_letters : List Str := ["letters", "kept", "letter"]
theorem sc_plain_letters : FnScope ["letters", "kept", "letter"] ["letters"] (defScope s_plain_letters) := ⟨rfl, rfl, rfl, by decide +kernel, rfl, by decide +kernel, by decide +kernel⟩
theorem bd_plain_letters : Bnd s_plain_letters "plain_letters" ["letters"] := fun _ _ _ _ _ _ us hl => match us, hl with | [_], _ => rfl

theorem d_plain_letters (T : Bs K mg) (R : Rw K mg "plain_letters" s_plain_letters) : Df P w K mg base CX0 1 "plain_letters" s_plain_letters ["letters"] (spPlain K) := by
  refine mk0 R sc_plain_letters bd_plain_letters (fun vs H Q E h => ?_) fun f cdv A outer s H vs Q E hr h => ?_
  · obtain ⟨a, xs, rfl, _⟩ := h; rfl
  obtain ⟨a, xs, rfl, hS, hz, q⟩ := h
  refine ⟨_, (pss_cons (ps_set (i := 1) sc_plain_letters.nd rfl (Or.inl rfl) (pe_lst pa_nil))
      (pss_cons (ps_for PassesOwn.never rfl (pi_U (pv 0)) (pg_name (i := 2) sc_plain_letters.nd rfl (Or.inl rfl))
        (pss_one (ps_if (PW.pt (pw_and (pt_tru (pv 1) (by intro _; rfl)) (pw_and1 (pt_cmpR (op_eqU hr.units) (pe_ix ix_seq (pv 1) (pe_un un_neg pe_int) (fun _ _ => rfl)) (pe_un un_neg (pv 2)) (nomark _))))) (pss_one (ps_expr (pe_bm0 PySem.F.plainAttrs_list PySem.F.slot_list_pop PySem.F.type_list_pop mt_pop (pv 1)))) (pss_one (ps_expr (pe_bm PySem.F.plainAttrs_list PySem.F.slot_list_append PySem.F.type_list_append mt_append (pv 1) (pa_cons (pv 2) pa_nil)))))))
      (pss_one (ps_ret (pe_callTy call_tupN (by rfl) T.n_tuple (by decide +kernel) (pa_cons (pv 1) pa_nil)))))), ?_⟩
  walk_at "rd"
  refine ⟨lz (by decide), fun k hk => ?_⟩
  walk_at "rd"
  refine forT (xs := xs.map V.int) (fun i σ H' => ∃ y, σ = [some (.ref a), some (.ref k), y] ∧ Same H H' ∧ H' k = some (.lst ((stack [] (xs.take i)).reverse.map V.int))) rfl (sqT_same (same_new hk) hS) ⟨none, rfl, same_new hk, upd_same⟩
    (fun i σ H' _ h => ?_) (fun i x σ H' hx h => ?_) (fun σ H' h => ?_)
  · obtain ⟨y, rfl, sm, _⟩ := h
    exact sqT_same sm hS
  · obtain ⟨y, rfl, sm, ek⟩ := h
    obtain ⟨z, hz2, rfl⟩ := item_of hx
    have el : (stack [] (xs.take i)).length ≤ xs.length := Nat.le_trans (stack_len _ _) (by rw [List.length_take]; simp only [List.length_nil]; omega)
    have en : stack [] (xs.take (i + 1)) = push (stack [] (xs.take i)) z := by rw [take_more hz2, stack_snoc]
    have more : ∀ st, stack [] (xs.take i) = st → (∀ y r, st = y :: r → ¬ y = -z) → push st z = z :: st := fun st _ hn => by
      cases st with
      | nil => rfl
      | cons y r => exact push_n r (hn y r rfl)
    walk_at "rd"
    refine truL (.inl (.inl ek)) ?_
    cases hst : stack [] (xs.take i) with
    | nil =>
      rw [hst] at ek en el
      refine iteF (iteF ?_)
      walk_at "rd"
      refine ⟨tyl ek, ?_⟩
      walk_at "rd"
      refine app ek (by simp) ?_
      walk_at "rd"
      refine ⟨_, rfl, same_mut sm hk, ?_⟩
      rw [upd_same, en]
      rfl
    | cons y r =>
      rw [hst] at ek en el
      have ee : (y :: r).reverse.map V.int = r.reverse.map V.int ++ [.int y] := by simp
      rw [ee] at ek ⊢
      rw [show (!(List.map V.int r.reverse ++ [V.int y]).isEmpty) = true by simp]
      refine iteT ?_
      walk_at "rd"
      refine rd_ixL (.inl (.inl ek)) (atI_last _ _) ?_
      walk_at "rd"
      refine rd_eqI ?_
      walk_at "rd"
      refine rd_ite (fun e => ?_) fun e => ?_
      · have e := of_decide_eq_true e
        walk_at "rd"
        refine ⟨tyL (.inl (.inl ek)), k, _, .int y, rfl, rfl, ek, by simp, ?_⟩
        walk_at "rd"
        refine ⟨_, rfl, same_mut sm hk, ?_⟩
        rw [upd_same, en, push_c r e, List.dropLast_concat]
      · have e := of_decide_eq_false e
        walk_at "rd"
        refine ⟨tyl ek, ?_⟩
        walk_at "rd"
        refine app ek (by simp only [List.length_append, List.length_map, List.length_reverse, List.length_cons, List.length_nil] at el ⊢; omega) ?_
        walk_at "rd"
        refine ⟨_, rfl, same_mut sm hk, ?_⟩
        rw [upd_same, en, push_n r e]
        simp
  · obtain ⟨y, rfl, sm, ek⟩ := h
    rw [List.length_map, List.take_length] at ek
    walk_at "rd"
    refine rd_tupOfL (.inl (.inl ek)) fun p o hp ho hd => q p _ (sm.trans (same_new hp)) ⟨o, upd_same, ho, hd⟩
/-! ### own: undone -/
def negV : V → V
  | .int i => .int (-i)
  | v => v
def spUndone (K : PySem.W.Frag) : Sp := fun vs H Q _ => ∃ (a : Addr) (xs : List Int), vs = [.ref a] ∧ SqT K H a (xs.map V.int) ∧ xs.length ≤ 10000 ∧ ∀ p H', Same H H' → Tp H' p ((inv xs).map V.int) → Q (.ref p) H'
theorem neg_map (xs : List Int) : ((xs.map V.int).reverse.filter (fun _ => true)).map negV = (inv xs).map V.int := by
  rw [List.filter_eq_self.mpr fun _ _ => rfl]
  simp [inv, List.map_reverse, Function.comp_def, negV]
theorem mem_int {xs : List Int} {x : V} (h : x ∈ (xs.map V.int).reverse) : ∃ z, x = .int z := by
  obtain ⟨z, _, e⟩ := List.mem_map.mp (List.mem_reverse.mp h)
  exact ⟨z, e.symm⟩
/-! ### undone_letters -/
abbrev s_undone_letters : Stmt := top 6
abbrev N_undone_letters : List Str := ["letters", "letter"]
theorem sc_undone_letters : FnScope ["letters", "letter"] ["letters"] (defScope s_undone_letters) := ⟨rfl, rfl, rfl, by decide +kernel, rfl, by decide +kernel, by decide +kernel⟩
theorem bd_undone_letters : Bnd s_undone_letters "undone_letters" ["letters"] := fun _ _ _ _ _ _ us hl => match us, hl with | [_], _ => rfl

theorem d_undone_letters (T : Bs K mg) (R : Rw K mg "undone_letters" s_undone_letters) : Df P w K mg base CX0 1 "undone_letters" s_undone_letters ["letters"] (spUndone K) := by
  refine mk0 R sc_undone_letters bd_undone_letters (fun vs H Q E h => ?_) fun f cdv A outer s H vs Q E hr h => ?_
  · obtain ⟨a, xs, rfl, _⟩ := h; rfl
  obtain ⟨a, xs, rfl, hS, hz, q⟩ := h
  refine ⟨_, (pss_one (ps_ret (pe_callTy call_tupN (by rfl) T.n_tuple (by decide +kernel) (pa_cons (pe_lc (own := [("letter", 1)]) rfl sc_undone_letters.nd (RT.pi_revA (by rfl) T.n_reversed (pv 0)) (blkOk_by (own := [("letter", 1)]) (N := ["letters", "letter"]) (sc := defScope s_undone_letters) (by decide +kernel)) (fun _ _ _ _ _ => (pg_name (i := 1) sc_undone_letters.nd rfl (Or.inl rfl))) (fun _ _ _ _ _ => pts_nil) (fun _ _ _ _ _ => (pe_un un_neg (pv 1)))) pa_nil)))), ?_⟩
  walk_at "rd"
  refine ⟨.ref a, rfl, a, xs.map V.int, rfl, .inr ⟨hS, fun D hD => ?_⟩⟩
  refine lc_pure walk_revT hD (xs.map V.int).reverse (fun _ => true) negV (by simp) (by simp only [List.length_map]; omega) (fun H' e => sqT_same e hS) (fun i H x H' hi y => y) (fun x H' hx e R R0 h1 h0 => ?_) fun H' e hD' => ?_
  · obtain ⟨z, rfl⟩ := mem_int hx
    walk_at "rd"
    refine ⟨rfl, ?_⟩
    walk_at "rd"
    refine iteT ?_
    walk_at "rd"
    exact h1 rfl H' (Same.refl _)
  · rw [neg_map] at hD'
    walk_at "rd"
    exact rd_tupOfL (.inl (.inl hD')) fun p o hp ho hd => q p _ (e.trans (same_new hp)) ⟨o, upd_same, ho, hd⟩
/-! ### is_whole and its like -/
def spWhole (K : PySem.W.Frag) : Sp := fun vs H Q _ => ∃ (v : V) (d : Dat), vs = [v] ∧ Rp K H v d ∧ Q (.bl d.whole) H
abbrev s_is_whole : Stmt := top 10
abbrev N_is_whole : List Str := ["value"]
theorem sc_is_whole : FnScope ["value"] ["value"] (defScope s_is_whole) := ⟨rfl, rfl, rfl, by decide +kernel, rfl, by decide +kernel, by decide +kernel⟩
theorem bd_is_whole : Bnd s_is_whole "is_whole" ["value"] := fun _ _ _ _ _ _ us hl => match us, hl with | [_], _ => rfl

theorem d_is_whole (T : Bs K mg) (R : Rw K mg "is_whole" s_is_whole) : Df P w K mg base CX0 1 "is_whole" s_is_whole ["value"] (spWhole K) := by
  refine mk0 R sc_is_whole bd_is_whole (fun vs H Q E h => ?_) fun f cdv A outer s H vs Q E hr h => ?_
  · obtain ⟨v, d, rfl, _⟩ := h; rfl
  obtain ⟨v, d, rfl, hv, q⟩ := h
  refine ⟨_, (pss_one (ps_ret (pe_and (pe_callB call_isU (by rfl) T.n_isinstance (by decide +kernel) (pa_cons (pv 0) (pa_cons (pe_bltn (v := .ty "int") (by rfl) T.n_int (by decide +kernel) rfl) pa_nil))) (pe_one (pe_not (pe_callB call_isU (by rfl) T.n_isinstance (by decide +kernel) (pa_cons (pv 0) (pa_cons (pe_bltn (v := .ty "bool") (by rfl) T.n_bool (by decide +kernel) rfl) pa_nil)))))))), ?_⟩
  walk_at "rd"
  refine rd_isT hv (kit_int d) ?_
  walk_at "rd"
  unfold Dat.whole at q
  refine rd_ite (fun e => ?_) fun e => ?_
  · walk_at "rd"
    refine rd_isT hv (kit_bool d) ?_
    walk_at "rd"
    rw [e] at q
    exact q
  · rw [e] at q
    exact q
def spFrom (K : PySem.W.Frag) : Sp := fun vs H Q _ => ∃ (v : V) (d : Dat) (lo hi : Int), vs = [v, .int lo, .int hi] ∧ Rp K H v d ∧ Q (.bl (d.from lo hi)) H
abbrev s_is_whole_from : Stmt := top 11
abbrev N_is_whole_from : List Str := ["value", "low", "high"]
theorem sc_is_whole_from : FnScope ["value", "low", "high"] ["value", "low", "high"] (defScope s_is_whole_from) := ⟨rfl, rfl, rfl, by decide +kernel, rfl, by decide +kernel, by decide +kernel⟩
theorem bd_is_whole_from : Bnd s_is_whole_from "is_whole_from" ["value", "low", "high"] := fun _ _ _ _ _ _ us hl => match us, hl with | [_, _, _], _ => rfl

theorem d_is_whole_from (T : Bs K mg) (R : Rw K mg "is_whole_from" s_is_whole_from) (D_is_whole : Df P w K mg base CX0 1 "is_whole" s_is_whole ["value"] (spWhole K)) :
    Df P w K mg base CX0 2 "is_whole_from" s_is_whole_from ["value", "low", "high"] (spFrom K) := by
  refine mk0 R sc_is_whole_from bd_is_whole_from (fun vs H Q E h => ?_) fun f cdv A outer s H vs Q E hr h => ?_
  · obtain ⟨v, d, lo, hi, rfl, _⟩ := h; rfl
  obtain ⟨v, d, lo, hi, rfl, hv, q⟩ := h
  refine ⟨_, (pss_one (ps_ret (pe_and (pe_d D_is_whole hr (by decide) (by rfl) pass0 (pa_cons (pv 0) pa_nil)) (pe_one (pe_chain op_le op_le (pv 1) (pv 0) (pv 2)))))), ?_⟩
  walk_at "rd"
  refine ⟨v, d, rfl, hv, ?_⟩
  walk_at "rd"
  refine rd_ite (fun e => ?_) fun e => ?_
  · obtain ⟨i, rfl⟩ := Dat.whole_int e
    obtain ⟨rfl, _⟩ := hv
    have q : Q (.bl (decide (lo ≤ i) && decide (i ≤ hi))) H := q
    walk_at "rd"
    refine rd_ite (fun e1 => ?_) fun e1 => ?_
    · rw [e1] at q
      walk_at "rd"
      exact q
    · rw [e1] at q
      exact q
  · rw [Dat.from_no e] at q
    exact q
def spLetter (K : PySem.W.Frag) : Sp := fun vs H Q _ => ∃ (n : Int) (v : V) (d : Dat), vs = [.int n, v] ∧ Rp K H v d ∧ Q (.bl (d.letter n)) H
abbrev s_is_letter : Stmt := top 12
abbrev N_is_letter : List Str := ["deeds", "value"]
theorem sc_is_letter : FnScope ["deeds", "value"] ["deeds", "value"] (defScope s_is_letter) := ⟨rfl, rfl, rfl, by decide +kernel, rfl, by decide +kernel, by decide +kernel⟩
theorem bd_is_letter : Bnd s_is_letter "is_letter" ["deeds", "value"] := fun _ _ _ _ _ _ us hl => match us, hl with | [_, _], _ => rfl

theorem d_is_letter (T : Bs K mg) (R : Rw K mg "is_letter" s_is_letter) (D_is_whole_from : Df P w K mg base CX0 2 "is_whole_from" s_is_whole_from ["value", "low", "high"] (spFrom K)) :
    Df P w K mg base CX0 3 "is_letter" s_is_letter ["deeds", "value"] (spLetter K) := by
  refine mk0 R sc_is_letter bd_is_letter (fun vs H Q E h => ?_) fun f cdv A outer s H vs Q E hr h => ?_
  · obtain ⟨n, v, d, rfl, _⟩ := h; rfl
  obtain ⟨n, v, d, rfl, hv, q⟩ := h
  refine ⟨_, (pss_one (ps_ret (pe_and (pe_d D_is_whole_from hr (by decide) (by rfl) pass0 (pa_cons (pv 1) (pa_cons (pe_un un_neg (pv 0)) (pa_cons (pv 0) pa_nil)))) (pe_one (pe_cmpR (op_neU hr.units) (pv 1) pe_int (nomark _)))))), ?_⟩
  walk_at "rd"
  refine ⟨v, d, -n, n, rfl, hv, ?_⟩
  walk_at "rd"
  refine rd_ite (fun e => ?_) fun e => ?_
  · obtain ⟨i, rfl, h1, h2⟩ := Dat.from_int e
    obtain ⟨rfl, _⟩ := hv
    have q : Q (.bl (decide (-n ≤ i) && decide (i ≤ n) && !decide (i = 0))) H := q
    rw [decide_eq_true h1, decide_eq_true h2] at q
    walk_at "rd"
    exact rd_neI q
  · rw [Dat.letter_no e] at q
    exact q
def spLRow (K : PySem.W.Frag) : Sp := fun vs H Q _ => ∃ (n : Int) (v : V) (d : Dat), vs = [.int n, v] ∧ Rp K H v d ∧ ∀ H', Same H H' → Q (.bl (d.row n)) H'
theorem let_map (n : Int) (xs : List V) : (xs.filter (fun _ => true)).map (fun x => V.bl (letV n x)) = (xs.map (letV n)).map V.bl := by
  rw [List.filter_eq_self.mpr fun _ _ => rfl, List.map_map] <;> rfl
def spARow (K : PySem.W.Frag) : Sp := fun vs H Q _ => ∃ (n : Int) (v : V) (d : Dat), vs = [.int n, v] ∧ Rp K H v d ∧ ∀ H', Same H H' → Q (.bl (d.lets n)) H'
abbrev s_are_letters : Stmt := top 13
abbrev N_are_letters : List Str := ["deeds", "value", "item"]
theorem sc_are_letters : FnScope ["deeds", "value", "item"] ["deeds", "value"] (defScope s_are_letters) := ⟨rfl, rfl, rfl, by decide +kernel, rfl, by decide +kernel, by decide +kernel⟩
theorem bd_are_letters : Bnd s_are_letters "are_letters" ["deeds", "value"] := fun _ _ _ _ _ _ us hl => match us, hl with | [_, _], _ => rfl

theorem d_are_letters (T : Bs K mg) (R : Rw K mg "are_letters" s_are_letters) (D_is_letter : Df P w K mg base CX0 3 "is_letter" s_is_letter ["deeds", "value"] (spLetter K)) :
    Df P w K mg base CX0 4 "are_letters" s_are_letters ["deeds", "value"] (spARow K) := by
  refine mk0 R sc_are_letters bd_are_letters (fun vs H Q E h => ?_) fun f cdv A outer s H vs Q E hr h => ?_
  · obtain ⟨n, v, d, rfl, _⟩ := h; rfl
  obtain ⟨n, v, d, rfl, hv, q⟩ := h
  refine ⟨_, (pss_one (ps_ret (pe_and (pe_callB call_isU (by rfl) T.n_isinstance (by decide +kernel) (pa_cons (pv 1) (pa_cons (pe_bltn (v := .ty "tuple") (by rfl) T.n_tuple (by decide +kernel) rfl) pa_nil))) (pe_one (pe_callB (cr_all rfl) (by rfl) T.n_all (by decide +kernel) (pa_cons (pe_lc (own := [("item", 2)]) rfl sc_are_letters.nd (pi_U (pv 1)) (blkOk_by (own := [("item", 2)]) (N := ["deeds", "value", "item"]) (sc := defScope s_are_letters) (by decide +kernel)) (fun _ _ _ _ _ => (pg_name (i := 2) sc_are_letters.nd rfl (Or.inl rfl))) (fun _ _ _ _ _ => pts_nil) (fun _ _ _ _ _ => (pe_d D_is_letter hr (by decide) (by rfl) pass0 (pa_cons (pv 0) (pa_cons (pv 2) pa_nil))))) pa_nil)))))), ?_⟩
  walk_at "rd"
  refine rd_isT hv (kit_tuple d) ?_
  walk_at "rd"
  cases d with
  | flat u =>
    refine iteF ?_
    exact q H (Same.refl _)
  | lst xs =>
    refine iteF ?_
    exact q H (Same.refl _)
  | dct =>
    refine iteF ?_
    exact q H (Same.refl _)
  | tup xs =>
    obtain ⟨a, rfl, hS, hp⟩ := hv
    have q : ∀ H', Same H H' → Q (.bl (xs.all (letV n))) H' := q
    refine iteT ?_
    walk_at "rd"
    refine .inr ⟨.ref a, rfl, a, rfl, ⟨xs, hS⟩, fun D hD => ?_⟩
    refine lc_pure walk_tup hD xs (fun _ => true) (fun x => .bl (letV n x)) rfl (by have := okB_len hp; omega) (fun H' e => sqT_same e hS) (fun i H x H' hi y => y) (fun x H' hx e R R0 h1 h0 => ?_) fun H' e hD' => ?_
    · walk_at "rd"
      refine ⟨rfl, ?_⟩
      walk_at "rd"
      refine iteT ?_
      walk_at "rd"
      exact ⟨n, x, .flat x, rfl, ⟨rfl, List.all_eq_true.mp (okB_all hp) x hx⟩, h1 rfl H' (Same.refl _)⟩
    · rw [let_map] at hD'
      walk_at "rd"
      refine ⟨D, xs.map (letV n), rfl, .inl (.inl hD'), ?_⟩
      have q := q H' e
      rw [show ((xs.map (letV n)).all id) = xs.all (letV n) by simp [List.all_map]]
      exact q
abbrev s_is_letter_row : Stmt := top 14
abbrev N_is_letter_row : List Str := ["deeds", "value"]
theorem sc_is_letter_row : FnScope ["deeds", "value"] ["deeds", "value"] (defScope s_is_letter_row) := ⟨rfl, rfl, rfl, by decide +kernel, rfl, by decide +kernel, by decide +kernel⟩
theorem bd_is_letter_row : Bnd s_is_letter_row "is_letter_row" ["deeds", "value"] := fun _ _ _ _ _ _ us hl => match us, hl with | [_, _], _ => rfl

theorem d_is_letter_row (T : Bs K mg) (R : Rw K mg "is_letter_row" s_is_letter_row) (D_are_letters : Df P w K mg base CX0 4 "are_letters" s_are_letters ["deeds", "value"] (spARow K)) :
    Df P w K mg base CX0 5 "is_letter_row" s_is_letter_row ["deeds", "value"] (spLRow K) := by
  refine mk0 R sc_is_letter_row bd_is_letter_row (fun vs H Q E h => ?_) fun f cdv A outer s H vs Q E hr h => ?_
  · obtain ⟨n, v, d, rfl, _⟩ := h; rfl
  obtain ⟨n, v, d, rfl, hv, q⟩ := h
  refine ⟨_, (pss_one (ps_ret (pe_and (pe_d D_are_letters hr (by decide) (by rfl) pass0 (pa_cons (pv 0) (pa_cons (pv 1) pa_nil))) (pe_one (pe_cmpR op_le (pe_callB call_len (by rfl) T.n_len (by decide +kernel) (pa_cons (pv 1) pa_nil)) (pe_gi T.c_MOST_LETTERS (by rfl)) (nomark _)))))), ?_⟩
  walk_at "rd"
  refine ⟨n, v, d, rfl, hv, fun H1 e1 => ?_⟩
  have q := q H1 e1
  refine ⟨_, rfl, ?_⟩
  cases d with
  | flat u => exact iteF q
  | lst xs => exact iteF q
  | dct => exact iteF q
  | tup xs =>
    obtain ⟨a, rfl, hS, hp⟩ := hv
    have q : Q (.bl (decide (xs.length ≤ 200) && xs.all (letV n))) H1 := q
    rw [Bool.and_comm] at q
    refine rd_ite (fun e => ?_) fun e => ?_
    · rw [show xs.all (letV n) = true from e, Bool.true_and] at q
      walk_at "rd"
      refine lenT (sqT_same e1 hS) ?_
      walk_at "rd"
      rw [show decide (((xs.length : Nat) : Int) ≤ 200) = decide (xs.length ≤ 200) from decide_eq_decide.mpr (by omega)]
      exact q
    · rw [show xs.all (letV n) = false from e, Bool.false_and] at q
      exact q
/-! ### check_deeds, taken_row -/
def Dat.deeds (d : Dat) : Bool := d.from 1 4
def spDeeds (K : PySem.W.Frag) : Sp := fun vs H Q E => ∃ (v : V) (d : Dat), vs = [v] ∧ Rp K H v d ∧ (d.from 1 4 = true → Q .non H) ∧ (d.from 1 4 = false → E (.ref (He.ga K "BadDeeds")) none H)
abbrev s_check_deeds : Stmt := top 15
abbrev N_check_deeds : List Str := ["deeds"]
theorem sc_check_deeds : FnScope ["deeds"] ["deeds"] (defScope s_check_deeds) := ⟨rfl, rfl, rfl, by decide +kernel, rfl, by decide +kernel, by decide +kernel⟩
theorem bd_check_deeds : Bnd s_check_deeds "check_deeds" ["deeds"] := fun _ _ _ _ _ _ us hl => match us, hl with | [_], _ => rfl

theorem d_check_deeds (T : Bs K mg) (R : Rw K mg "check_deeds" s_check_deeds) (D_is_whole_from : Df P w K mg base CX0 2 "is_whole_from" s_is_whole_from ["value", "low", "high"] (spFrom K)) :
    Df P w K mg base (L2.CX P w) 3 "check_deeds" s_check_deeds ["deeds"] (spDeeds K) := by
  refine mkX R sc_check_deeds bd_check_deeds (fun vs H Q E h => ?_) fun f cdv A outer s H vs Q E hr h => ?_
  · obtain ⟨v, d, rfl, _⟩ := h; rfl
  obtain ⟨v, d, rfl, hv, q1, q0⟩ := h
  refine ⟨_, (pss_one (ps_if (pt_not (pt_tru (pe_d D_is_whole_from hr (by decide) (by rfl) pass0 (pa_cons (pv 0) (pa_cons pe_int (pa_cons (pe_gi T.c_MOST_DEEDS (by rfl)) pa_nil)))) (by intro _; rfl))) (pss_one (ps_raiseX T.x_BadDeeds (by rfl) (pe_joined (.cons pe_str (.cons (pe_fmt (pe_gi T.c_MOST_DEEDS (by rfl))) .nil))) (still2 (by decide +kernel) (by decide) (by decide +kernel)) (takes_of rfl rfl rfl rfl))) pss_nil)), ?_⟩
  walk_at "rd"
  refine ⟨v, d, 1, 4, rfl, hv, ?_⟩
  refine truB ?_
  cases e : d.from 1 4 with
  | true => exact iteF (q1 e)
  | false => exact iteT (q0 e)
def spTaken (K : PySem.W.Frag) : Sp := fun vs H Q E => ∃ (n : Int) (v : V) (d : Dat), vs = [.int n, v] ∧ Rp K H v d ∧
  (∀ xs : List Int, d = .tup (xs.map V.int) → d.row n = true → ∀ p H', Same H H' → Tp H' p ((red xs).map V.int) → Q (.ref p) H') ∧ (d.row n = false → ∀ H', Same H H' → E (.ref (He.ga K "BadRow")) none H')
theorem Dat.row_ints {n : Int} {d : Dat} (h : d.row n = true) : ∃ xs : List Int, d = .tup (xs.map V.int) ∧ xs.length ≤ 200 ∧ ∀ x ∈ xs, -n ≤ x ∧ x ≤ n ∧ x ≠ 0 := by
  cases d with
  | flat v => cases h
  | lst xs => cases h
  | dct => cases h
  | tup vs =>
    have h : (decide (vs.length ≤ 200) && vs.all (letV n)) = true := h
    obtain ⟨h1, h2⟩ := Bool.and_eq_true_iff.mp h
    have h1 := of_decide_eq_true h1
    have key : ∀ ws : List V, ws.all (letV n) = true → ∃ xs : List Int, ws = xs.map V.int ∧ ∀ x ∈ xs, -n ≤ x ∧ x ≤ n ∧ x ≠ 0 := by
      intro ws
      induction ws with
      | nil => intro _; exact ⟨[], rfl, fun _ z => nomatch z⟩
      | cons v r ih =>
        intro hw
        obtain ⟨a, b⟩ := Bool.and_eq_true_iff.mp (show (letV n v && r.all (letV n)) = true from hw)
        obtain ⟨xs, e, m⟩ := ih b
        cases v with
        | int i =>
          have a : (decide (-n ≤ i) && decide (i ≤ n) && !decide (i = 0)) = true := a
          simp only [Bool.and_eq_true, decide_eq_true_eq, Bool.not_eq_true', decide_eq_false_iff_not] at a
          refine ⟨i :: xs, by rw [e] <;> rfl, fun x hx => ?_⟩
          rcases List.mem_cons.mp hx with z | z
          · rw [z]; exact ⟨a.1.1, a.1.2, a.2⟩
          · exact m x z
        | _ => cases a
    obtain ⟨xs, e, m⟩ := key vs h2
    subst e
    exact ⟨xs, rfl, by simpa using h1, m⟩
abbrev s_taken_row : Stmt := top 16
abbrev N_taken_row : List Str := ["deeds", "row"]
theorem sc_taken_row : FnScope ["deeds", "row"] ["deeds", "row"] (defScope s_taken_row) := ⟨rfl, rfl, rfl, by decide +kernel, rfl, by decide +kernel, by decide +kernel⟩
theorem bd_taken_row : Bnd s_taken_row "taken_row" ["deeds", "row"] := fun _ _ _ _ _ _ us hl => match us, hl with | [_, _], _ => rfl

theorem d_taken_row (T : Bs K mg) (R : Rw K mg "taken_row" s_taken_row) (D_is_letter_row : Df P w K mg base CX0 5 "is_letter_row" s_is_letter_row ["deeds", "value"] (spLRow K))
    (D_plain_letters : Df P w K mg base CX0 1 "plain_letters" s_plain_letters ["letters"] (spPlain K)) : Df P w K mg base (L2.CX P w) 6 "taken_row" s_taken_row ["deeds", "row"] (spTaken K) := by
  refine mkX R sc_taken_row bd_taken_row (fun vs H Q E h => ?_) fun f cdv A outer s H vs Q E hr h => ?_
  · obtain ⟨n, v, d, rfl, _⟩ := h; rfl
  obtain ⟨n, v, d, rfl, hv, q1, q0⟩ := h
  refine ⟨_, (pss_cons (ps_if (pt_not (pt_tru (pe_d D_is_letter_row hr (by decide) (by rfl) pass0 (pa_cons (pv 0) (pa_cons (pv 1) pa_nil))) (by intro _; rfl))) (pss_one (ps_raiseX T.x_BadRow (by rfl) (pe_joined (.cons pe_str (.cons (pe_fmt (pe_gi T.c_MOST_LETTERS (by rfl))) (.cons pe_str .nil)))) (still3 (by decide +kernel) (by decide) (by decide +kernel) (by decide +kernel)) (takes_of rfl rfl rfl rfl))) pss_nil)
      (pss_one (ps_ret (pe_d D_plain_letters hr (by decide) (by rfl) pass0 (pa_cons (pv 1) pa_nil))))), ?_⟩
  walk_at "rd"
  refine ⟨n, v, d, rfl, hv, fun H1 e1 => ?_⟩
  refine truB ?_
  cases e : d.row n with
  | false => exact iteT (q0 e H1 e1)
  | true =>
    refine iteF ?_
    obtain ⟨xs, rfl, hl, _⟩ := Dat.row_ints e
    obtain ⟨a, rfl, hS, _⟩ := hv
    walk_at "rd"
    exact ⟨a, xs, rfl, sqT_same e1 hS, by omega, fun p H2 e2 ht => q1 xs rfl e p H2 (e1.trans e2) ht⟩
end
end KP

set_option linter.all false
set_option maxRecDepth 100000
set_option maxHeartbeats 4000000
namespace KP
open PySem PySem.Spec PyProof.Rows L2 XA XB XC XD XM XE XF XG
local macro_rules | `(tactic| walk_at "rd") => `(tactic| repeat (first
  | (with_reducible refine rd_seq ?_) | (with_reducible refine rd_asg ?_) | ((with_reducible refine' rd_var ?hv ?_); (case hv => exact rfl)) | (with_reducible refine rd_c ?_) | (with_reducible refine rd_gn ?_)
  | (with_reducible refine rd_op ?_) | (with_reducible refine rd_un ?_) | (with_reducible refine rd_cons ?_) | (with_reducible refine rd_nil ?_) | (with_reducible refine rd_cl ?_) | (with_reducible refine rd_ck ?_) | (with_reducible refine rd_cb ?_)
  | (with_reducible refine rd_ret ?_) | (with_reducible refine rd_drop ?_) | (with_reducible refine rd_ifs ?_) | (with_reducible refine rd_if ?_) | (with_reducible refine rd_test ?_) | (with_reducible refine rd_tb ?_) | (with_reducible refine rd_and ?_) | (with_reducible refine rd_or ?_)
  | (with_reducible refine rd_not ?_) | (with_reducible refine rd_andV ?_) | (with_reducible refine rd_orV ?_) | (with_reducible refine rd_notV ?_) | (with_reducible refine rd_chain ?_) | (with_reducible refine rd_tup ?_) | (with_reducible refine rd_lst ?_)
  | (with_reducible refine rd_bm0 ?_) | (with_reducible refine rd_bm ?_) | (with_reducible refine rd_sl ?_) | (with_reducible refine rd_part ?_) | (with_reducible refine rd_nopart ?_) | (with_reducible refine rd_dget ?_) | (with_reducible refine rd_dput ?_)
  | (with_reducible refine rd_next ?_) | (with_reducible refine rd_lc ?_) | ((with_reducible refine' rd_aug ?hv ?_); (case hv => exact rfl)) | (with_reducible refine rd_cont ?_) | (with_reducible refine rd_gcons ?_) | (with_reducible refine rd_gnil ?_) | (with_reducible refine rd_ifT ?_) | (with_reducible refine rd_yes ?_) | (with_reducible refine rd_tru ?_) | (with_reducible refine rd_cntE ?_) | (with_reducible refine rd_rng1 ?_) | (with_reducible refine rd_lrg ?_) | (with_reducible refine rd_rg2 ?_) | (with_reducible refine rd_back ?_) | (with_reducible refine rd_disp ?_) | (with_reducible refine rd_prN ?_) | (with_reducible refine rd_prC ?_) | (with_reducible refine rd_par ?_) | (with_reducible refine rd_par3 ?_) | (with_reducible refine rd_two ?_) | (with_reducible refine rd_three ?_) | (with_reducible refine rd_one ?_) | (with_reducible refine rd_onei ?_) | (with_reducible refine rd_iL ?_) | (with_reducible refine rd_iT ?_) | (with_reducible refine rd_rng2 ?_) | (with_reducible refine rd_bl ?_) | (with_reducible refine rd_int ?_) | (with_reducible refine rd_I0 ?_) | (with_reducible refine rd_U ?_) | (with_reducible refine rd_din ?_) | (with_reducible refine rd_dnin ?_) | (with_reducible refine rd_dnew ?_) | (with_reducible refine rd_lset ?_) | (with_reducible refine rd_enT ?_) | (with_reducible refine rd_idx ?_) | (with_reducible refine rd_rg1 ?_) | (with_reducible refine rd_tupRg ?_)))

section
variable {P : Program} {w : World} {K : PySem.W.Frag} {mg : Str → Option Value} {base : Heap}
abbrev eDeeds (K : PySem.W.Frag) : Value := .ref (He.ga K "BadDeeds")
abbrev eRow (K : PySem.W.Frag) : Value := .ref (He.ga K "BadRow")
abbrev eNum (K : PySem.W.Frag) : Value := .ref (He.ga K "BadNumber")
/-! ### plain, undone, sums: one row -/
def spOne (K : PySem.W.Frag) (g : Int → List Int → List Int) : Sp := fun vs H Q E => ∃ (v1 : V) (d1 : Dat) (v2 : V) (d2 : Dat), vs = [v1, v2] ∧ Rp K H v1 d1 ∧ Rp K H v2 d2 ∧
  (d1.from 1 4 = false → E (eDeeds K) none H) ∧ ∀ n, d1 = .flat (.int n) → d1.from 1 4 = true → (d2.row n = false → ∀ H', Same H H' → E (eRow K) none H') ∧
    ∀ xs : List Int, d2 = .tup (xs.map V.int) → d2.row n = true → ∀ p H', Same H H' → Tp H' p ((g n xs).map V.int) → Q (.ref p) H'
/-! ### own: lengths -/
theorem row_len {n : Int} {xs : List Int} (h : (Dat.tup (xs.map V.int)).row n = true) : xs.length ≤ 200 := by
  have h : (decide ((xs.map V.int).length ≤ 200) && (xs.map V.int).all (letV n)) = true := h
  have := of_decide_eq_true (Bool.and_eq_true_iff.mp h).1
  simpa using this
/-! ### own: beside -/
def spBeside (K : PySem.W.Frag) : Sp := fun vs H Q E => ∃ (v1 : V) (d1 : Dat) (v2 : V) (d2 : Dat) (v3 : V) (d3 : Dat), vs = [v1, v2, v3] ∧ Rp K H v1 d1 ∧ Rp K H v2 d2 ∧ Rp K H v3 d3 ∧
  (d1.from 1 4 = false → E (eDeeds K) none H) ∧ ∀ n, d1 = .flat (.int n) → d1.from 1 4 = true → (d2.row n = false → ∀ H', Same H H' → E (eRow K) none H') ∧ (d3.row n = false → ∀ H', Same H H' → E (eRow K) none H') ∧
    ∀ xs ys : List Int, d2 = .tup (xs.map V.int) → d2.row n = true → d3 = .tup (ys.map V.int) → d3.row n = true → ∀ p H', Same H H' → Tp H' p ((red (red xs ++ red ys)).map V.int) → Q (.ref p) H'
/-! ### own: so many times -/
def rep (n : Int) (xs : List Int) : List Int := (List.replicate n.toNat xs).flatten
def times (xs : List Int) (n : Int) : List Int := if n < 0 then red (rep (-n) (inv xs)) else red (rep n xs)
def spTimes (K : PySem.W.Frag) : Sp := fun vs H Q E => ∃ (v1 : V) (d1 : Dat) (v2 : V) (d2 : Dat) (v3 : V) (d3 : Dat), vs = [v1, v2, v3] ∧ Rp K H v1 d1 ∧ Rp K H v2 d2 ∧ Rp K H v3 d3 ∧
  (d1.from 1 4 = false → E (eDeeds K) none H) ∧ ∀ n, d1 = .flat (.int n) → d1.from 1 4 = true → (d2.row n = false → ∀ H', Same H H' → E (eRow K) none H') ∧ (d2.row n = true → d3.from (-20) 20 = false → ∀ H', Same H H' → E (eNum K) none H') ∧
    ∀ (xs : List Int) (m : Int), d2 = .tup (xs.map V.int) → d2.row n = true → d3 = .flat (.int m) → d3.from (-20) 20 = true → ∀ p H', Same H H' → Tp H' p ((times (red xs) m).map V.int) → Q (.ref p) H'
/-! ### own: sums -/
def sumsOf (n : Int) (xs : List Int) : List Int := (List.range n.toNat).map fun (i : Nat) => bal (1 + (i : Int)) xs
end
end KP

set_option linter.all false
set_option maxRecDepth 100000
set_option maxHeartbeats 4000000
namespace KP
open PySem PySem.Spec PyProof.Rows L2 XA XB XC XD XM XE XF XG
local macro_rules | `(tactic| walk_at "rd") => `(tactic| repeat (first
  | (with_reducible refine rd_seq ?_) | (with_reducible refine rd_asg ?_) | ((with_reducible refine' rd_var ?hv ?_); (case hv => exact rfl)) | (with_reducible refine rd_c ?_) | (with_reducible refine rd_gn ?_)
  | (with_reducible refine rd_op ?_) | (with_reducible refine rd_un ?_) | (with_reducible refine rd_cons ?_) | (with_reducible refine rd_nil ?_) | (with_reducible refine rd_cl ?_) | (with_reducible refine rd_ck ?_) | (with_reducible refine rd_cb ?_)
  | (with_reducible refine rd_ret ?_) | (with_reducible refine rd_drop ?_) | (with_reducible refine rd_ifs ?_) | (with_reducible refine rd_if ?_) | (with_reducible refine rd_test ?_) | (with_reducible refine rd_tb ?_) | (with_reducible refine rd_and ?_) | (with_reducible refine rd_or ?_)
  | (with_reducible refine rd_not ?_) | (with_reducible refine rd_andV ?_) | (with_reducible refine rd_orV ?_) | (with_reducible refine rd_notV ?_) | (with_reducible refine rd_chain ?_) | (with_reducible refine rd_tup ?_) | (with_reducible refine rd_lst ?_)
  | (with_reducible refine rd_bm0 ?_) | (with_reducible refine rd_bm ?_) | (with_reducible refine rd_sl ?_) | (with_reducible refine rd_part ?_) | (with_reducible refine rd_nopart ?_) | (with_reducible refine rd_dget ?_) | (with_reducible refine rd_dput ?_)
  | (with_reducible refine rd_next ?_) | (with_reducible refine rd_lc ?_) | ((with_reducible refine' rd_aug ?hv ?_); (case hv => exact rfl)) | (with_reducible refine rd_cont ?_) | (with_reducible refine rd_gcons ?_) | (with_reducible refine rd_gnil ?_) | (with_reducible refine rd_ifT ?_) | (with_reducible refine rd_yes ?_) | (with_reducible refine rd_tru ?_) | (with_reducible refine rd_cntE ?_) | (with_reducible refine rd_rng1 ?_) | (with_reducible refine rd_lrg ?_) | (with_reducible refine rd_rg2 ?_) | (with_reducible refine rd_back ?_) | (with_reducible refine rd_disp ?_) | (with_reducible refine rd_prN ?_) | (with_reducible refine rd_prC ?_) | (with_reducible refine rd_par ?_) | (with_reducible refine rd_par3 ?_) | (with_reducible refine rd_two ?_) | (with_reducible refine rd_three ?_) | (with_reducible refine rd_one ?_) | (with_reducible refine rd_onei ?_) | (with_reducible refine rd_iL ?_) | (with_reducible refine rd_iT ?_) | (with_reducible refine rd_rng2 ?_) | (with_reducible refine rd_bl ?_) | (with_reducible refine rd_int ?_) | (with_reducible refine rd_I0 ?_) | (with_reducible refine rd_U ?_) | (with_reducible refine rd_din ?_) | (with_reducible refine rd_dnin ?_) | (with_reducible refine rd_dnew ?_) | (with_reducible refine rd_lset ?_) | (with_reducible refine rd_enT ?_) | (with_reducible refine rd_idx ?_) | (with_reducible refine rd_rg1 ?_) | (with_reducible refine rd_tupRg ?_)))

section
variable {P : Program} {w : World} {K : PySem.W.Frag} {mg : Str → Option Value} {base : Heap}
/-! ### the draws -/
def spBegun (K : PySem.W.Frag) : Sp := fun vs H Q _ => ∃ (a : Addr) (ns : List Int), vs = [.ref a] ∧ SqL K H a (ns.map V.int) ∧ ns.length ≤ 1000 ∧ ∀ s g c H', Same H H' → StAt 0 H' s g c → Q (.ref s) H'
theorem abs_ints (l : List V) (f : V → V) (h : ∀ x ∈ l, ∃ i, f x = .int i) : ∃ gs : List Int, l.map f = gs.map V.int := intsOf _ fun x hx => by
  obtain ⟨y, hy, rfl⟩ := List.mem_map.mp hx
  exact h y hy
def absV : V → V
  | .int i => .int (if i < 0 then -i else i)
  | v => v
def bigV : V → V
  | .int i => .int ((if i < 0 then -i else i) - 10 ^ 18)
  | v => v
def isBig : V → Bool
  | .int i => decide ((if i < 0 then -i else i) ≥ 10 ^ 18)
  | _ => false
theorem mem_i {xs : List Int} {x : V} (h : x ∈ xs.map V.int) : ∃ z, x = .int z := by
  obtain ⟨z, _, e⟩ := List.mem_map.mp h
  exact ⟨z, e.symm⟩
abbrev s__law_begun : Stmt := top 23
abbrev N__law_begun : List Str := ["script", "great", "cell"]
theorem sc__law_begun : FnScope ["script", "great", "cell"] ["script"] (defScope s__law_begun) := ⟨rfl, rfl, rfl, by decide +kernel, rfl, by decide +kernel, by decide +kernel⟩
theorem bd__law_begun : Bnd s__law_begun "_law_begun" ["script"] := fun _ _ _ _ _ _ us hl => match us, hl with | [_], _ => rfl

theorem d__law_begun (T : Bs K mg) (R : Rw K mg "_law_begun" s__law_begun) : Df P w K mg base CX0 1 "_law_begun" s__law_begun ["script"] (spBegun K) := by
  refine mk0 R sc__law_begun bd__law_begun (fun vs H Q E h => ?_) fun f cdv A outer s H vs Q E hr h => ?_
  · obtain ⟨a, ns, rfl, _⟩ := h; rfl
  obtain ⟨a, ns, rfl, hS, hz, q⟩ := h
  refine ⟨_, (pss_cons (ps_setLc (i := 1) (own := [("cell", 2)]) rfl sc__law_begun.nd rfl rfl (sw_true rfl rfl rfl (by decide +kernel)) (pi_U (pv 0)) (blkOk_by (own := [("cell", 2)]) (N := ["script", "great", "cell"]) (sc := defScope s__law_begun) (by decide +kernel)) (fun _ _ _ _ _ => (pg_name (i := 2) sc__law_begun.nd rfl (Or.inl rfl))) (fun _ _ _ _ _ => pts_one (pt_cmpR op_ge (pe_callB call_abs (by rfl) T.n_abs (by decide +kernel) (pa_cons (pv 2) pa_nil)) (pe_op op_pow pe_int pe_int) (nomark _))) (fun _ _ _ _ _ => (pe_op op_sub (pe_callB call_abs (by rfl) T.n_abs (by decide +kernel) (pa_cons (pv 2) pa_nil)) (pe_op op_pow pe_int pe_int))))
      (pss_one (ps_ret (pe_disp (pps_cons pe_str (pv 1) (pps_cons pe_str (pe_lc (own := [("cell", 2)]) rfl sc__law_begun.nd (pi_U (pv 0)) (blkOk_by (own := [("cell", 2)]) (N := ["script", "great", "cell"]) (sc := defScope s__law_begun) (by decide +kernel)) (fun _ _ _ _ _ => (pg_name (i := 2) sc__law_begun.nd rfl (Or.inl rfl))) (fun _ _ _ _ _ => pts_nil) (fun _ _ _ _ _ => (pe_callB call_abs (by rfl) T.n_abs (by decide +kernel) (pa_cons (pv 2) pa_nil)))) (pps_cons pe_str pe_int (pps_cons pe_str pe_int pps_nil)))) (by rfl) (by rfl) (fun z => by cases z) (by decide))))), ?_⟩
  walk_at "rd"
  refine .inl ⟨_, rfl, a, rfl, ⟨_, hS⟩, fun D hD => ?_⟩
  refine lc_pure walk_list hD (ns.map V.int) isBig bigV rfl (by simp only [List.length_map]; omega) (fun H' e => e.seq hS) (fun i H x H' hi y => y) (fun x H' hx e R R0 h1 h0 => ?_) fun H' e hD' => ?_
  · obtain ⟨z, rfl⟩ := mem_i hx
    walk_at "rd"
    refine ⟨rfl, ?_⟩
    walk_at "rd"
    refine rd_I pow18 ?_
    walk_at "rd"
    have h1 : (decide ((if z < 0 then -z else z) ≥ 10 ^ 18)) = true → ∀ H'', Same H' H'' → R (.int ((if z < 0 then -z else z) - 10 ^ 18)) H'' := h1
    have h0 : (decide ((if z < 0 then -z else z) ≥ 10 ^ 18)) = false → ∀ H'', Same H' H'' → R0 H'' := h0
    refine rd_ite (fun e1 => ?_) fun e1 => ?_
    · walk_at "rd"
      refine rd_I pow18 ?_
      walk_at "rd"
      exact h1 e1 _ (Same.refl _)
    · exact h0 e1 _ (Same.refl _)
  · walk_at "rd"
    refine fun p hp => ?_
    walk_at "rd"
    refine .inl ⟨_, rfl, a, rfl, ⟨_, (e.trans (same_new hp)).seq hS⟩, fun D2 hD2 => ?_⟩
    refine lc_pure walk_list hD2 (ns.map V.int) (fun _ => true) absV rfl (by simp only [List.length_map]; omega) (fun H' e2 => ((e.trans (same_new hp)).trans e2).seq hS) (fun i H x H' hi y => y) (fun x H' hx e R R0 h1 h0 => ?_) fun H2 e2 hD3 => ?_
    · obtain ⟨z, rfl⟩ := mem_i hx
      walk_at "rd"
      refine ⟨rfl, ?_⟩
      walk_at "rd"
      refine iteT ?_
      walk_at "rd"
      exact h1 rfl _ (Same.refl _)
    · walk_at "rd"
      have ep : H2 p = some (.dK []) := e2 _ _ upd_same
      refine ⟨ep, [(kG, .ref D), (kC, .ref D2), (kR, .int 0), (kT, .int 0)], rfl, by simp, ?_⟩
      rw [st_new]
      have e3 : Same H H2 := (e.trans (same_new hp)).trans e2
      have eD : H2 D = some (.lst (List.map bigV (List.filter isBig (List.map V.int ns)))) := e2 _ _ (same_new hp _ _ hD')
      have n1 : D ≠ p := ne_of eD ep (by intro z; cases z)
      have n2 : D2 ≠ p := ne_of hD3 ep (by intro z; cases z)
      have n3 : D2 ≠ D := fun z => by
        rw [z, same_new hp _ _ hD'] at hD2
        cases hD2
      obtain ⟨gs, eg⟩ := intsOf (List.map bigV (List.filter isBig (List.map V.int ns))) fun x hx => by
        obtain ⟨y, hy, rfl⟩ := List.mem_map.mp hx
        obtain ⟨z, rfl⟩ := mem_i (List.mem_filter.mp hy).1
        exact ⟨_, rfl⟩
      obtain ⟨cs, ec⟩ := intsOf (List.map absV (List.filter (fun _ => true) (List.map V.int ns))) fun x hx => by
        obtain ⟨y, hy, rfl⟩ := List.mem_map.mp hx
        obtain ⟨z, rfl⟩ := mem_i (List.mem_filter.mp hy).1
        exact ⟨_, rfl⟩
      have lg := congrArg List.length eg
      have lc := congrArg List.length ec
      have l1 := List.length_filter_le isBig (List.map V.int ns)
      have l2 := List.length_filter_le (fun _ => true) (List.map V.int ns)
      simp only [List.length_map] at lg lc l1 l2
      rw [eg] at eD
      rw [ec] at hD3
      exact q p D D2 _ (same_mut e3 (none_of e hp)) ⟨0, 0, gs, cs, upd_same, by rw [upd_ne n1]; exact eD, by rw [upd_ne n2]; exact hD3, n3, by omega, by omega, by omega, by omega⟩

/-! ### _law_blended -/
def spBlended (K : PySem.W.Frag) : Sp := fun vs H Q _ => ∃ (s g c : Addr) (r t : Int) (cs : List Int), vs = [.ref s] ∧ H s = some (.dK (stD g c r t)) ∧ H c = some (.lst (cs.map V.int)) ∧ cs.length ≤ 1000 ∧ 0 ≤ t ∧ t < 1000000 ∧
  ∀ v H', H' s = some (.dK (stD g c r (t + 1))) → Kept s s H H' → Q (.int v) H'
abbrev s__law_blended : Stmt := top 24
abbrev N__law_blended : List Str := ["state", "turn", "found", "prime", "blend", "cell"]
theorem sc__law_blended : FnScope ["state", "turn", "found", "prime", "blend", "cell"] ["state"] (defScope s__law_blended) := ⟨rfl, rfl, rfl, by decide +kernel, rfl, by decide +kernel, by decide +kernel⟩
theorem bd__law_blended : Bnd s__law_blended "_law_blended" ["state"] := fun _ _ _ _ _ _ us hl => match us, hl with | [_], _ => rfl

theorem d__law_blended (T : Bs K mg) (R : Rw K mg "_law_blended" s__law_blended) : Df P w K mg base CX0 1 "_law_blended" s__law_blended ["state"] (spBlended K) := by
  refine mk0 R sc__law_blended bd__law_blended (fun vs H Q E h => ?_) fun f cdv A outer sh H vs Q E hr h => ?_
  · obtain ⟨s, g, c, r, t, cs, rfl, _⟩ := h; rfl
  obtain ⟨s, g, c, r, t, cs, rfl, hs, hc, hz, ht, hT, q⟩ := h
  have hu := lt1 hr.units
  refine ⟨_, (pss_cons (ps_par (i := 1) (j := 2) rfl sc__law_blended.nd rfl rfl (by decide) rfl rfl (pa_cons (pe_op op_addU (pe_dget hu (pv 0) pe_str (fun _ _ => rfl)) pe_int) (pa_cons pe_int pa_nil)) (by rfl))
      (pss_cons (ps_dput hu (pv 0) pe_str (pv 1) rfl)
      (pss_cons (ps_for PassesOwn.never rfl (pi_U (pe_lst (pa_cons pe_int (pa_cons pe_int (pa_cons pe_int pa_nil))))) (pg_name (i := 3) sc__law_blended.nd rfl (Or.inl rfl))
        (pss_cons (ps_set (i := 4) sc__law_blended.nd rfl (Or.inl rfl) (pe_op op_addU (pe_op op_mulU pe_int (pv 1)) (pe_op op_fdivN (pv 3) pe_int)))
        (pss_cons (ps_for PassesOwn.never rfl (pi_U (pe_dget hu (pv 0) pe_str (fun _ _ => rfl))) (pg_name (i := 5) sc__law_blended.nd rfl (Or.inl rfl))
          (pss_one (ps_set (i := 4) sc__law_blended.nd rfl (Or.inl rfl) (pe_op op_modN (pe_callTy call_int1 (by rfl) T.n_int (by decide +kernel) (pa_cons (pe_op op_addU (pe_op op_addU (pe_op op_mulU (pv 4) pe_int) (pv 5)) (pv 1)) pa_nil)) (pv 3)))))
        (pss_one (ps_set (i := 2) sc__law_blended.nd rfl (Or.inl rfl) (pe_op op_addU (pe_op op_mulU (pv 2) pe_int) (pe_op op_modN (pe_callTy call_int1 (by rfl) T.n_int (by decide +kernel) (pa_cons (pe_op op_pow (pv 4) pe_int) pa_nil)) (pv 3))))))))
      (pss_one (ps_ret (pv 2)))))), ?_⟩
  walk_at "rd"
  refine ⟨s, .int t, rfl, by rw [← at_T (g := g) (c := c) (r := r)]; exact DGet.k (k := kT) hs, ?_⟩
  walk_at "rd"
  refine rd_addI ?_
  walk_at "rd"
  refine ⟨s, _, rfl, DPut.k (k := kT) hs (by show 4 < sizeLine; decide), ?_⟩
  rw [put_T]
  walk_at "rd"
  refine .inl ?_
  walk_at "rd"
  refine ⟨lz (by simp), fun p hp => ?_⟩
  have n1 : s ≠ p := ne_of_none upd_same hp
  have n2 : c ≠ s := ne_of hc hs (by intro z; cases z)
  have n3 : c ≠ p := ne_of_none (by rw [upd_ne n2]; exact hc) hp
  have ec : upd (upd H s (.dK (stD g c r (t + 1)))) p (.lst [.int 2147483579, .int 2147483629, .int 2147483563]) c = some (.lst (cs.map V.int)) := by rw [upd_ne n3, upd_ne n2]; exact hc
  have es : upd (upd H s (.dK (stD g c r (t + 1)))) p (.lst [.int 2147483579, .int 2147483629, .int 2147483563]) s = some (.dK (stD g c r (t + 1))) := by rw [upd_ne n1, upd_same]
  have hk : XE.Kept s s H (upd (upd H s (.dK (stD g c r (t + 1)))) p (.lst [.int 2147483579, .int 2147483629, .int 2147483563])) := fun b o e m _ => by
    have e2 : upd H s (.dK (stD g c r (t + 1))) b = some o := by rw [upd_ne m]; exact e
    rw [upd_ne (ne_of_none e2 hp), e2]
  refine ⟨p, rfl, ⟨_, .inl (.inl upd_same)⟩, ?_⟩
  have ep : upd (upd H s (.dK (stD g c r (t + 1)))) p (.lst [.int 2147483579, .int 2147483629, .int 2147483563]) p = some (.lst [.int 2147483579, .int 2147483629, .int 2147483563]) := upd_same
  generalize upd (upd H s (.dK (stD g c r (t + 1)))) p (.lst [.int 2147483579, .int 2147483629, .int 2147483563]) = H1 at ec es hk ep ⊢
  refine for_list (xs := [.int 2147483579, .int 2147483629, .int 2147483563]) (fun i σ H' => ∃ (fd : Int) (y1 y2 y3 : Option V), σ = [some (.ref s), some (.int (t + 1)), some (.int fd), y1, y2, y3] ∧ H' = H1) ⟨0, none, none, none, rfl, rfl⟩
    (fun i σ H' _ h => ?_) (fun i x σ H' hx h => ?_) (fun σ H' h => ?_)
  · obtain ⟨fd, y1, y2, y3, rfl, rfl⟩ := h
    exact .inl (.inl ep)
  · obtain ⟨fd, y1, y2, y3, rfl, rfl⟩ := h
    obtain ⟨pr, rfl, p1, p2⟩ : ∃ pr : Int, x = .int pr ∧ 0 < pr ∧ pr < 2 ^ 32 := by
      rcases List.mem_cons.mp (List.mem_of_getElem? hx) with e | e
      · exact ⟨_, e, by decide, by decide⟩
      rcases List.mem_cons.mp e with e | e
      · exact ⟨_, e, by decide, by decide⟩
      rcases List.mem_cons.mp e with e | e
      · exact ⟨_, e, by decide, by decide⟩
      · cases e
    walk_at "rd"
    refine rd_mulI (.inl ⟨by decide, by decide⟩) ?_
    walk_at "rd"
    refine rd_I ⟨by decide, by decide⟩ ?_
    walk_at "rd"
    refine rd_addI ?_
    walk_at "rd"
    have b0 : (48271 * (t + 1) + pr.fdiv 53).natAbs < 2 ^ 62 := by
      have e : pr.fdiv 53 = pr / 53 := Int.fdiv_eq_ediv_of_nonneg _ (by decide)
      rw [e]
      omega
    refine .inl ?_
    walk_at "rd"
    refine ⟨s, .ref c, rfl, by rw [← at_C (g := g) (c := c) (r := r) (t := t + 1)]; exact DGet.k (k := kC) es, c, rfl, ⟨_, .inl (.inl ec)⟩, ?_⟩
    refine for_list (xs := cs.map V.int) (fun i σ H'' => ∃ (bl : Int) (y3 : Option V), σ = [some (.ref s), some (.int (t + 1)), some (.int fd), some (.int pr), some (.int bl), y3] ∧ H'' = H' ∧ bl.natAbs < 2 ^ 62) ⟨_, y3, rfl, rfl, b0⟩
      (fun i σ H' _ h => ?_) (fun i x σ H' hx h => ?_) (fun σ H' h => ?_)
    · obtain ⟨bl, y3, rfl, rfl, b⟩ := h
      exact .inl (.inl ec)
    · obtain ⟨bl, y3, rfl, rfl, b⟩ := h
      obtain ⟨z, hz2, rfl⟩ := item_of hx
      walk_at "rd"
      refine rd_mulI (.inr ⟨by decide, by decide⟩) ?_
      walk_at "rd"
      refine rd_addI ?_
      walk_at "rd"
      refine rd_addI ?_
      walk_at "rd"
      refine .inl ⟨_, rfl, ?_⟩
      walk_at "rd"
      refine rd_I (by omega) ?_
      walk_at "rd"
      refine ⟨_, _, rfl, rfl, ?_⟩
      have e : (bl * 69621 + z + (t + 1)).fmod pr = (bl * 69621 + z + (t + 1)) % pr := Int.fmod_eq_emod_of_nonneg _ (by omega)
      rw [e]
      have a1 := Int.emod_nonneg (bl * 69621 + z + (t + 1)) (show pr ≠ 0 by omega)
      have a2 := Int.emod_lt_of_pos (bl * 69621 + z + (t + 1)) p1
      omega
    · obtain ⟨bl, y3, rfl, rfl, b⟩ := h
      walk_at "rd"
      refine rd_mulI (.inr ⟨by decide, by decide⟩) ?_
      walk_at "rd"
      refine rd_I ⟨by decide, by decide, by omega⟩ ?_
      walk_at "rd"
      refine .inl ⟨_, rfl, ?_⟩
      walk_at "rd"
      refine rd_I (by omega) ?_
      walk_at "rd"
      refine rd_addI ?_
      walk_at "rd"
      exact ⟨_, _, _, _, rfl, rfl⟩
  · obtain ⟨fd, y1, y2, y3, rfl, rfl⟩ := h
    walk_at "rd"
    exact q _ _ es hk
end
end KP

set_option linter.all false
set_option maxRecDepth 100000
set_option maxHeartbeats 4000000
namespace KP
open PySem PySem.Spec PyProof.Rows L2 XA XB XC XD XM XE XF XG
local macro_rules | `(tactic| walk_at "rd") => `(tactic| repeat (first
  | (with_reducible refine rd_seq ?_) | (with_reducible refine rd_asg ?_) | ((with_reducible refine' rd_var ?hv ?_); (case hv => exact rfl)) | (with_reducible refine rd_c ?_) | (with_reducible refine rd_gn ?_)
  | (with_reducible refine rd_op ?_) | (with_reducible refine rd_un ?_) | (with_reducible refine rd_cons ?_) | (with_reducible refine rd_nil ?_) | (with_reducible refine rd_cl ?_) | (with_reducible refine rd_ck ?_) | (with_reducible refine rd_cb ?_)
  | (with_reducible refine rd_ret ?_) | (with_reducible refine rd_drop ?_) | (with_reducible refine rd_ifs ?_) | (with_reducible refine rd_if ?_) | (with_reducible refine rd_test ?_) | (with_reducible refine rd_tb ?_) | (with_reducible refine rd_and ?_) | (with_reducible refine rd_or ?_)
  | (with_reducible refine rd_not ?_) | (with_reducible refine rd_andV ?_) | (with_reducible refine rd_orV ?_) | (with_reducible refine rd_notV ?_) | (with_reducible refine rd_chain ?_) | (with_reducible refine rd_tup ?_) | (with_reducible refine rd_lst ?_)
  | (with_reducible refine rd_bm0 ?_) | (with_reducible refine rd_bm ?_) | (with_reducible refine rd_sl ?_) | (with_reducible refine rd_part ?_) | (with_reducible refine rd_nopart ?_) | (with_reducible refine rd_dget ?_) | (with_reducible refine rd_dput ?_)
  | (with_reducible refine rd_next ?_) | (with_reducible refine rd_lc ?_) | ((with_reducible refine' rd_aug ?hv ?_); (case hv => exact rfl)) | (with_reducible refine rd_cont ?_) | (with_reducible refine rd_gcons ?_) | (with_reducible refine rd_gnil ?_) | (with_reducible refine rd_ifT ?_) | (with_reducible refine rd_yes ?_) | (with_reducible refine rd_tru ?_) | (with_reducible refine rd_cntE ?_) | (with_reducible refine rd_rng1 ?_) | (with_reducible refine rd_lrg ?_) | (with_reducible refine rd_rg2 ?_) | (with_reducible refine rd_back ?_) | (with_reducible refine rd_disp ?_) | (with_reducible refine rd_prN ?_) | (with_reducible refine rd_prC ?_) | (with_reducible refine rd_par ?_) | (with_reducible refine rd_par3 ?_) | (with_reducible refine rd_two ?_) | (with_reducible refine rd_three ?_) | (with_reducible refine rd_one ?_) | (with_reducible refine rd_onei ?_) | (with_reducible refine rd_iL ?_) | (with_reducible refine rd_iT ?_) | (with_reducible refine rd_rng2 ?_) | (with_reducible refine rd_bl ?_) | (with_reducible refine rd_int ?_) | (with_reducible refine rd_I0 ?_) | (with_reducible refine rd_U ?_) | (with_reducible refine rd_din ?_) | (with_reducible refine rd_dnin ?_) | (with_reducible refine rd_dnew ?_) | (with_reducible refine rd_lset ?_) | (with_reducible refine rd_enT ?_) | (with_reducible refine rd_idx ?_) | (with_reducible refine rd_rg1 ?_) | (with_reducible refine rd_tupRg ?_)))

section
variable {P : Program} {w : World} {K : PySem.W.Frag} {mg : Str → Option Value} {base : Heap}
/-! ### _law_draw -/
def spDraw (K : PySem.W.Frag) : Sp := fun vs H Q _ => ∃ (s g c : Addr) (n : Nat) (room : Int), vs = [.ref s, .int room] ∧ StAt n H s g c ∧ n < 1000000 ∧ 0 < room ∧ room < 1000000 ∧
  ∀ r H', 0 ≤ r → r < room → StAt (n + 1) H' s g c → XE.Kept s g H H' → Q (.int r) H'
abbrev s__law_draw : Stmt := top 25
abbrev N__law_draw : List Str := ["state", "room", "found"]
theorem sc__law_draw : FnScope ["state", "room", "found"] ["state", "room"] (defScope s__law_draw) := ⟨rfl, rfl, rfl, by decide +kernel, rfl, by decide +kernel, by decide +kernel⟩
theorem bd__law_draw : Bnd s__law_draw "_law_draw" ["state", "room"] := fun _ _ _ _ _ _ us hl => match us, hl with | [_, _], _ => rfl

theorem d__law_draw (T : Bs K mg) (R : Rw K mg "_law_draw" s__law_draw) (D__law_blended : Df P w K mg base CX0 1 "_law_blended" s__law_blended ["state"] (spBlended K)) :
    Df P w K mg base CX0 2 "_law_draw" s__law_draw ["state", "room"] (spDraw K) := by
  refine mk0 R sc__law_draw bd__law_draw (fun vs H Q E h => ?_) fun f cdv A outer sh H vs Q E hr h => ?_
  · obtain ⟨s, g, c, n, room, rfl, _⟩ := h; rfl
  obtain ⟨s, g, c, n, room, rfl, hS, hn, hr0, hr1, q⟩ := h
  have hu := lt1 hr.units
  refine ⟨_, (pss_cons (ps_if (pt_cmpR (op_eqU hr.units) (pe_dget hu (pv 0) pe_str (fun _ _ => rfl)) pe_int (nomark _)) (pss_one (ps_dput hu (pv 0) pe_str (pe_ifExp (pt_cmpR (op_neU hr.units) (pe_dget hu (pv 0) pe_str (fun _ _ => rfl)) (pe_lst pa_nil) (nomark _)) (pe_bm PySem.F.plainAttrs_list PySem.F.slot_list_pop PySem.F.type_list_pop mt_popAt (pe_dget hu (pv 0) pe_str (fun _ _ => rfl)) (pa_cons pe_int pa_nil)) (pe_d D__law_blended hr (by decide) (by rfl) pass0 (pa_cons (pv 0) pa_nil))) rfl)) pss_nil)
      (pss_cons (ps_set (i := 2) sc__law_draw.nd rfl (Or.inl rfl) (pe_op op_modN (pe_callTy call_int1 (by rfl) T.n_int (by decide +kernel) (pa_cons (pe_dget hu (pv 0) pe_str (fun _ _ => rfl)) pa_nil)) (pv 1)))
      (pss_cons (ps_dput hu (pv 0) pe_str (pe_op op_fdivN (pe_dget hu (pv 0) pe_str (fun _ _ => rfl)) (pv 1)) rfl)
      (pss_one (ps_ret (pv 2)))))), ?_⟩
  obtain ⟨r, t, gs, cs, h1, h2, h3, n1, l1, l2, t0, t1⟩ := hS
  have fin : ∀ (H1 : Hp) (r1 t1 : Int) (gs1 : List Int), H1 s = some (.dK (stD g c r1 t1)) → H1 g = some (.lst (gs1.map V.int)) → XE.Kept s g H H1 → gs1.length ≤ 1000 → 0 ≤ t1 → t1 ≤ ((n + 1 : Nat) : Int) →
      ∀ v, StAt (n + 1) (upd H1 s (.dK (stD g c v t1))) s g c ∧ XE.Kept s g H (upd H1 s (.dK (stD g c v t1))) := by
    intro H1 r1 t1 gs1 a1 a2 a3 a4 a5 a6 v
    have m1 : g ≠ s := ne_of a2 a1 (by intro z; cases z)
    have m2 : H1 c = some (.lst (cs.map V.int)) := a3 _ _ h3 (ne_of h3 h1 (by intro z; cases z)) n1
    have m3 : c ≠ s := ne_of m2 a1 (by intro z; cases z)
    exact ⟨⟨v, t1, gs1, cs, upd_same, by rw [upd_ne m1]; exact a2, by rw [upd_ne m3]; exact m2, n1, l1, a4, a5, a6⟩, a3.trans fun b o e m _ => by rw [upd_ne m]; exact e⟩
  walk_at "rd"
  refine ⟨s, .int r, rfl, by rw [← at_R (g := g) (c := c) (t := t)]; exact DGet.k (k := kR) h1, ?_⟩
  walk_at "rd"
  refine rd_eqI ?_
  walk_at "rd"
  refine rd_join (C := fun H1 => ∃ (r1 t1 : Int) (gs1 : List Int), H1 s = some (.dK (stD g c r1 t1)) ∧ H1 g = some (.lst (gs1.map V.int)) ∧ XE.Kept s g H H1 ∧ gs1.length ≤ 1000 ∧ 0 ≤ t1 ∧ t1 ≤ ((n + 1 : Nat) : Int)) (fun H1 hc => ?_) fun key => ?_
  · obtain ⟨r1, t1, gs1, a1, a2, a3, a4, a5, a6⟩ := hc
    have f1 := fin H1 r1 t1 gs1 a1 a2 a3 a4 a5 a6
    dsimp only
    walk_at "rd"
    refine ⟨s, .int r1, rfl, by rw [← at_R (g := g) (c := c) (t := t1)]; exact DGet.k (k := kR) a1, ?_⟩
    refine .inl ⟨_, rfl, ?_⟩
    walk_at "rd"
    refine rd_I (by omega) ?_
    walk_at "rd"
    refine ⟨s, .int r1, rfl, by rw [← at_R (g := g) (c := c) (t := t1)]; exact DGet.k (k := kR) a1, ?_⟩
    walk_at "rd"
    refine rd_I ⟨by omega, by omega⟩ ?_
    walk_at "rd"
    refine ⟨s, _, rfl, DPut.k (k := kR) a1 (by show 4 < sizeLine; decide), ?_⟩
    rw [put_R]
    walk_at "rd"
    have e : r1.fmod room = r1 % room := Int.fmod_eq_emod_of_nonneg _ (by omega)
    exact q _ _ (by rw [e]; exact Int.emod_nonneg _ (by omega)) (by rw [e]; exact Int.emod_lt_of_pos _ hr0) (f1 _).1 (f1 _).2
  · refine rd_ite (fun e => ?_) fun e => ?_
    · walk_at "rd"
      refine ⟨s, .ref g, rfl, by rw [← at_G (g := g) (c := c) (r := r) (t := t)]; exact DGet.k (k := kG) h1, ?_⟩
      walk_at "rd"
      refine ⟨lz (by simp), fun p hp => ?_⟩
      have n2 : s ≠ p := ne_of_none h1 hp
      have n3 : g ≠ p := ne_of_none h2 hp
      have n4 : g ≠ s := ne_of h2 h1 (by intro z; cases z)
      have e1 : upd H p (.lst []) s = some (.dK (stD g c r t)) := by rw [upd_ne n2]; exact h1
      have e2 : upd H p (.lst []) g = some (.lst (gs.map V.int)) := by rw [upd_ne n3]; exact h2
      refine neL (ys := []) (.inl (.inl e2)) (.inl (.inl upd_same)) ?_
      walk_at "rd"
      have k0 : Same H (upd H p (.lst [])) := same_new hp
      generalize upd H p (.lst []) = H1 at e1 e2 k0 ⊢
      cases gs with
      | nil =>
        refine iteF ?_
        walk_at "rd"
        refine ⟨s, g, c, r, t, cs, rfl, e1, k0 _ _ h3, l1, t0, by omega, fun v H2 b1 b2 => ?_⟩
        walk_at "rd"
        refine ⟨s, _, rfl, DPut.k (k := kR) b1 (by show 4 < sizeLine; decide), ?_⟩
        rw [put_R]
        have b3 := b2 _ _ e2 n4 n4
        exact key (upd H2 s (.dK (stD g c v (t + 1)))) ⟨v, t + 1, [], upd_same, by rw [upd_ne n4]; exact b3, (XE.Kept.of k0).trans fun b o e m m2 => by rw [upd_ne m]; exact b2 _ _ e m m, by simp, by omega, by omega⟩
      | cons x gs =>
        refine iteT ?_
        walk_at "rd"
        refine ⟨s, .ref g, rfl, by rw [← at_G (g := g) (c := c) (r := r) (t := t)]; exact DGet.k (k := kG) e1, ?_⟩
        refine ⟨tyl e2, ?_⟩
        walk_at "rd"
        refine ⟨g, _, 0, 0, .int x, rfl, rfl, e2, by omega, by omega, by simp [seqIndex?], rfl, ?_⟩
        have e3 : upd H1 g (.lst (gs.map V.int)) s = some (.dK (stD g c r t)) := by rw [upd_ne (Ne.symm n4)]; exact e1
        walk_at "rd"
        refine ⟨s, _, rfl, DPut.k (k := kR) e3 (by show 4 < sizeLine; decide), ?_⟩
        rw [put_R]
        refine key (upd (upd H1 g (.lst (gs.map V.int))) s (.dK (stD g c x t))) ⟨x, t, gs, upd_same, by rw [upd_ne n4, upd_same], (XE.Kept.of k0).trans fun b o e m m2 => by rw [upd_ne m, upd_ne m2]; exact e, ?_, by omega, by omega⟩
        simp only [List.length_cons] at l2
        omega
    · exact key _ ⟨r, t, gs, h1, h2, XE.Kept.refl, l2, t0, by omega⟩
/-! ### _law_pick -/
def spPick (K : PySem.W.Frag) : Sp := fun vs H Q _ => ∃ (s g c a : Addr) (n : Nat) (xs : List V), vs = [.ref s, .ref a] ∧ StAt n H s g c ∧ n < 1000000 ∧ SqL K H a xs ∧ a ≠ g ∧ xs ≠ [] ∧ xs.length < 1000 ∧
  ∀ x H', x ∈ xs → StAt (n + 1) H' s g c → XE.Kept s g H H' → Q x H'
abbrev s__law_pick : Stmt := top 26
abbrev N__law_pick : List Str := ["state", "some"]
theorem sc__law_pick : FnScope ["state", "some"] ["state", "some"] (defScope s__law_pick) := ⟨rfl, rfl, rfl, by decide +kernel, rfl, by decide +kernel, by decide +kernel⟩
theorem bd__law_pick : Bnd s__law_pick "_law_pick" ["state", "some"] := fun _ _ _ _ _ _ us hl => match us, hl with | [_, _], _ => rfl

theorem d__law_pick (T : Bs K mg) (R : Rw K mg "_law_pick" s__law_pick) (D__law_draw : Df P w K mg base CX0 2 "_law_draw" s__law_draw ["state", "room"] (spDraw K)) :
    Df P w K mg base CX0 3 "_law_pick" s__law_pick ["state", "some"] (spPick K) := by
  refine mk0 R sc__law_pick bd__law_pick (fun vs H Q E h => ?_) fun f cdv A outer sh H vs Q E hr h => ?_
  · obtain ⟨s, g, c, a, n, xs, rfl, _⟩ := h; rfl
  obtain ⟨s, g, c, a, n, xs, rfl, hS, hn, hL, na, hx, hz, q⟩ := h
  refine ⟨_, (pss_one (ps_ret (pe_ix ix_seq (pv 1) (pe_d D__law_draw hr (by decide) (by rfl) pass0 (pa_cons (pv 0) (pa_cons (pe_callB call_len (by rfl) T.n_len (by decide +kernel) (pa_cons (pv 1) pa_nil)) pa_nil))) (fun _ _ => rfl)))), ?_⟩
  walk_at "rd"
  refine lenL hL ?_
  have hp : 0 < xs.length := List.length_pos_iff.mpr hx
  walk_at "rd"
  refine ⟨s, g, c, n, (xs.length : Int), rfl, hS, hn, by omega, by omega, fun r H' r0 r1 S1 k1 => ?_⟩
  obtain ⟨i, rfl⟩ : ∃ i : Nat, r = (i : Int) := ⟨r.toNat, by omega⟩
  have hi : i < xs.length := by omega
  have ha : atI xs (i : Int) = some xs[i] := by
    have h1 : ixN xs.length (i : Int) = some i := by
      unfold ixN
      rw [if_pos (by omega), if_pos (by omega)]
      all_goals rfl
    unfold atI
    rw [h1]
    exact List.getElem?_eq_getElem hi
  exact rd_ixL (k1.sqL hS hL na) ha (q _ _ (List.getElem_mem hi) S1 k1)
end
end KP

set_option linter.all false
set_option maxRecDepth 100000
set_option maxHeartbeats 4000000
namespace KP
open PySem PySem.Spec PyProof.Rows L2 XA XB XC XD XM XE XF XG
local macro_rules | `(tactic| walk_at "rd") => `(tactic| repeat (first
  | (with_reducible refine rd_seq ?_) | (with_reducible refine rd_asg ?_) | ((with_reducible refine' rd_var ?hv ?_); (case hv => exact rfl)) | (with_reducible refine rd_c ?_) | (with_reducible refine rd_gn ?_)
  | (with_reducible refine rd_op ?_) | (with_reducible refine rd_un ?_) | (with_reducible refine rd_cons ?_) | (with_reducible refine rd_nil ?_) | (with_reducible refine rd_cl ?_) | (with_reducible refine rd_ck ?_) | (with_reducible refine rd_cb ?_)
  | (with_reducible refine rd_ret ?_) | (with_reducible refine rd_drop ?_) | (with_reducible refine rd_ifs ?_) | (with_reducible refine rd_if ?_) | (with_reducible refine rd_test ?_) | (with_reducible refine rd_tb ?_) | (with_reducible refine rd_and ?_) | (with_reducible refine rd_or ?_)
  | (with_reducible refine rd_not ?_) | (with_reducible refine rd_andV ?_) | (with_reducible refine rd_orV ?_) | (with_reducible refine rd_notV ?_) | (with_reducible refine rd_chain ?_) | (with_reducible refine rd_tup ?_) | (with_reducible refine rd_lst ?_)
  | (with_reducible refine rd_bm0 ?_) | (with_reducible refine rd_bm ?_) | (with_reducible refine rd_sl ?_) | (with_reducible refine rd_part ?_) | (with_reducible refine rd_nopart ?_) | (with_reducible refine rd_dget ?_) | (with_reducible refine rd_dput ?_)
  | (with_reducible refine rd_next ?_) | (with_reducible refine rd_lc ?_) | ((with_reducible refine' rd_aug ?hv ?_); (case hv => exact rfl)) | (with_reducible refine rd_cont ?_) | (with_reducible refine rd_gcons ?_) | (with_reducible refine rd_gnil ?_) | (with_reducible refine rd_ifT ?_) | (with_reducible refine rd_yes ?_) | (with_reducible refine rd_tru ?_) | (with_reducible refine rd_cntE ?_) | (with_reducible refine rd_rng1 ?_) | (with_reducible refine rd_lrg ?_) | (with_reducible refine rd_rg2 ?_) | (with_reducible refine rd_back ?_) | (with_reducible refine rd_disp ?_) | (with_reducible refine rd_prN ?_) | (with_reducible refine rd_prC ?_) | (with_reducible refine rd_par ?_) | (with_reducible refine rd_par3 ?_) | (with_reducible refine rd_two ?_) | (with_reducible refine rd_three ?_) | (with_reducible refine rd_one ?_) | (with_reducible refine rd_onei ?_) | (with_reducible refine rd_iL ?_) | (with_reducible refine rd_iT ?_) | (with_reducible refine rd_rng2 ?_) | (with_reducible refine rd_bl ?_) | (with_reducible refine rd_int ?_) | (with_reducible refine rd_I0 ?_) | (with_reducible refine rd_U ?_) | (with_reducible refine rd_din ?_) | (with_reducible refine rd_dnin ?_) | (with_reducible refine rd_dnew ?_) | (with_reducible refine rd_lset ?_) | (with_reducible refine rd_enT ?_) | (with_reducible refine rd_idx ?_) | (with_reducible refine rd_rg1 ?_) | (with_reducible refine rd_tupRg ?_)))

section
variable {P : Program} {w : World} {K : PySem.W.Frag} {mg : Str → Option Value} {base : Heap}
/-! ### _law_mk_plain -/
abbrev s__law_mk_plain : Stmt := top 29
abbrev N__law_mk_plain : List Str := ["letters", "found", "letter"]
theorem sc__law_mk_plain : FnScope ["letters", "found", "letter"] ["letters"] (defScope s__law_mk_plain) := ⟨rfl, rfl, rfl, by decide +kernel, rfl, by decide +kernel, by decide +kernel⟩
theorem bd__law_mk_plain : Bnd s__law_mk_plain "_law_mk_plain" ["letters"] := fun _ _ _ _ _ _ us hl => match us, hl with | [_], _ => rfl

theorem d__law_mk_plain (T : Bs K mg) (R : Rw K mg "_law_mk_plain" s__law_mk_plain) : Df P w K mg base CX0 1 "_law_mk_plain" s__law_mk_plain ["letters"] (spPlain K) := by
  refine mk0 R sc__law_mk_plain bd__law_mk_plain (fun vs H Q E h => ?_) fun f cdv A outer s H vs Q E hr h => ?_
  · obtain ⟨a, xs, rfl, _⟩ := h; rfl
  obtain ⟨a, xs, rfl, hS, hz, q⟩ := h
  refine ⟨_, (pss_cons (ps_set (i := 1) sc__law_mk_plain.nd rfl (Or.inl rfl) (pe_lst pa_nil))
      (pss_cons (ps_for PassesOwn.never rfl (pi_U (pv 0)) (pg_name (i := 2) sc__law_mk_plain.nd rfl (Or.inl rfl))
        (pss_one (ps_if (PW.pt (pw_and (pt_cmpR (op_neU hr.units) (pv 1) (pe_lst pa_nil) (nomark _)) (pw_and1 (pt_cmpR (op_eqU hr.units) (pe_ix ix_seq (pv 1) (pe_un un_neg pe_int) (fun _ _ => rfl)) (pe_op op_sub pe_int (pv 2)) (nomark _))))) (pss_one (ps_expr (pe_bm0 PySem.F.plainAttrs_list PySem.F.slot_list_pop PySem.F.type_list_pop mt_pop (pv 1)))) (pss_one (ps_expr (pe_bm PySem.F.plainAttrs_list PySem.F.slot_list_append PySem.F.type_list_append mt_append (pv 1) (pa_cons (pv 2) pa_nil)))))))
      (pss_one (ps_ret (pe_callTy call_tupN (by rfl) T.n_tuple (by decide +kernel) (pa_cons (pv 1) pa_nil)))))), ?_⟩
  walk_at "rd"
  refine ⟨lz (by decide), fun k hk => ?_⟩
  walk_at "rd"
  refine forT (xs := xs.map V.int) (fun i σ H' => ∃ y, σ = [some (.ref a), some (.ref k), y] ∧ Same H H' ∧ H' k = some (.lst ((stack [] (xs.take i)).reverse.map V.int))) rfl (sqT_same (same_new hk) hS) ⟨none, rfl, same_new hk, upd_same⟩
    (fun i σ H' _ h => ?_) (fun i x σ H' hx h => ?_) (fun σ H' h => ?_)
  · obtain ⟨y, rfl, sm, _⟩ := h
    exact sqT_same sm hS
  · obtain ⟨y, rfl, sm, ek⟩ := h
    obtain ⟨z, hz2, rfl⟩ := item_of hx
    have el : (stack [] (xs.take i)).length ≤ xs.length := Nat.le_trans (stack_len _ _) (by rw [List.length_take]; simp only [List.length_nil]; omega)
    have en : stack [] (xs.take (i + 1)) = push (stack [] (xs.take i)) z := by rw [take_more hz2, stack_snoc]
    walk_at "rd"
    refine ⟨lz (by simp), fun p hp => ?_⟩
    have sp : Same H' (upd H' p (.lst [])) := same_new hp
    have ek1 := sp _ _ ek
    refine neL (xs := (stack [] (xs.take i)).reverse) (ys := []) (.inl (.inl ek1)) (.inl (.inl upd_same)) ?_
    have sm1 := sm.trans sp
    generalize upd H' p (.lst []) = H1 at ek1 sm1 ⊢
    walk_at "rd"
    cases hst : stack [] (xs.take i) with
    | nil =>
      rw [hst] at ek1 en el
      refine iteF (iteF ?_)
      walk_at "rd"
      refine ⟨tyl ek1, ?_⟩
      walk_at "rd"
      refine app ek1 (by simp) ?_
      walk_at "rd"
      refine ⟨_, rfl, same_mut sm1 hk, ?_⟩
      rw [upd_same, en]
      rfl
    | cons y r =>
      rw [hst] at ek1 en el
      have ee : (y :: r).reverse.map V.int = r.reverse.map V.int ++ [.int y] := by simp
      rw [ee] at ek1
      rw [show (!decide ((y :: r).reverse = [])) = true by simp]
      refine iteT ?_
      walk_at "rd"
      refine rd_ixL (.inl (.inl ek1)) (atI_last _ _) ?_
      walk_at "rd"
      refine rd_eqI ?_
      walk_at "rd"
      refine rd_ite (fun e => ?_) fun e => ?_
      · have e := of_decide_eq_true e
        walk_at "rd"
        refine ⟨tyL (.inl (.inl ek1)), k, _, .int y, rfl, rfl, ek1, by simp, ?_⟩
        walk_at "rd"
        refine ⟨_, rfl, same_mut sm1 hk, ?_⟩
        rw [upd_same, en, push_c r (by omega), List.dropLast_concat]
      · have e := of_decide_eq_false e
        walk_at "rd"
        refine ⟨tyl ek1, ?_⟩
        walk_at "rd"
        refine app ek1 (by simp only [List.length_append, List.length_map, List.length_reverse, List.length_cons, List.length_nil] at el ⊢; omega) ?_
        walk_at "rd"
        refine ⟨_, rfl, same_mut sm1 hk, ?_⟩
        rw [upd_same, en, push_n r (by omega)]
        simp
  · obtain ⟨y, rfl, sm, ek⟩ := h
    rw [List.length_map, List.take_length] at ek
    walk_at "rd"
    refine rd_tupOfL (.inl (.inl ek)) fun p o hp ho hd => q p _ (sm.trans (same_new hp)) ⟨o, upd_same, ho, hd⟩
/-! ### _law_mk_undone -/
abbrev s__law_mk_undone : Stmt := top 30
abbrev N__law_mk_undone : List Str := ["row", "letter"]
theorem sc__law_mk_undone : FnScope ["row", "letter"] ["row"] (defScope s__law_mk_undone) := ⟨rfl, rfl, rfl, by decide +kernel, rfl, by decide +kernel, by decide +kernel⟩
theorem bd__law_mk_undone : Bnd s__law_mk_undone "_law_mk_undone" ["row"] := fun _ _ _ _ _ _ us hl => match us, hl with | [_], _ => rfl

theorem d__law_mk_undone (T : Bs K mg) (R : Rw K mg "_law_mk_undone" s__law_mk_undone) : Df P w K mg base CX0 1 "_law_mk_undone" s__law_mk_undone ["row"] (spUndone K) := by
  refine mk0 R sc__law_mk_undone bd__law_mk_undone (fun vs H Q E h => ?_) fun f cdv A outer s H vs Q E hr h => ?_
  · obtain ⟨a, xs, rfl, _⟩ := h; rfl
  obtain ⟨a, xs, rfl, hS, hz, q⟩ := h
  refine ⟨_, (pss_one (ps_ret (pe_callTy call_tupN (by rfl) T.n_tuple (by decide +kernel) (pa_cons (pe_lc (own := [("letter", 1)]) rfl sc__law_mk_undone.nd (pi_U (pe_back (pv 0))) (blkOk_by (own := [("letter", 1)]) (N := ["row", "letter"]) (sc := defScope s__law_mk_undone) (by decide +kernel)) (fun _ _ _ _ _ => (pg_name (i := 1) sc__law_mk_undone.nd rfl (Or.inl rfl))) (fun _ _ _ _ _ => pts_nil) (fun _ _ _ _ _ => (pe_op op_sub pe_int (pv 1)))) pa_nil)))), ?_⟩
  walk_at "rd"
  refine .inr ?_
  walk_at "rd"
  refine ⟨a, _, rfl, hS, fun p o hp ho hd => ?_⟩
  have sp : Same H (upd H p (.frz o (.tup (xs.map V.int).reverse))) := same_new hp
  have hp2 : SqT K (upd H p (.frz o (.tup (xs.map V.int).reverse))) p (xs.map V.int).reverse := Tp.sqT ⟨o, upd_same, ho, hd⟩
  generalize upd H p (.frz o (.tup (xs.map V.int).reverse)) = H1 at sp hp2 ⊢
  refine ⟨p, rfl, ⟨_, hp2⟩, fun D hD => ?_⟩
  refine lc_pure walk_tup hD (xs.map V.int).reverse (fun _ => true) negV rfl (by simp only [List.length_reverse, List.length_map]; omega) (fun H' e => sqT_same e hp2) (fun i H x H' hi y => y) (fun x H' hx e R R0 h1 h0 => ?_) fun H' e hD' => ?_
  · obtain ⟨z, rfl⟩ := mem_int hx
    walk_at "rd"
    refine ⟨rfl, ?_⟩
    walk_at "rd"
    refine iteT ?_
    walk_at "rd"
    have h1 : ∀ H'', Same H' H'' → R (.int (-z)) H'' := h1 rfl
    rw [Int.zero_sub]
    exact h1 H' (Same.refl _)
  · rw [neg_map] at hD'
    walk_at "rd"
    exact rd_tupOfL (.inl (.inl hD')) fun p o hp ho hd => q p _ ((sp.trans e).trans (same_new hp)) ⟨o, upd_same, ho, hd⟩
/-! ### _law_mk_letters -/
def lets (n : Int) : List Int := ((List.range n.toNat).map fun (i : Nat) => 1 + (i : Int)) ++ (List.range n.toNat).map fun (i : Nat) => -(1 + (i : Int))
theorem lets_len (n : Int) : (lets n).length = n.toNat + n.toNat := by simp [lets]
theorem lets_mem {n x : Int} : x ∈ lets n ↔ (-n ≤ x ∧ x ≤ n ∧ x ≠ 0) := by
  unfold lets
  rw [List.mem_append, List.mem_map, List.mem_map]
  constructor
  · rintro (⟨i, hi, rfl⟩ | ⟨i, hi, rfl⟩)
    · have := List.mem_range.mp hi
      omega
    · have := List.mem_range.mp hi
      omega
  · intro ⟨a, b, c⟩
    by_cases h : 0 < x
    · exact .inl ⟨(x - 1).toNat, List.mem_range.mpr (by omega), by omega⟩
    · exact .inr ⟨(-x - 1).toNat, List.mem_range.mpr (by omega), by omega⟩
def spLetters (K : PySem.W.Frag) : Sp := fun vs H Q _ => ∃ n : Int, vs = [.int n] ∧ 1 ≤ n ∧ n ≤ 4 ∧ ∀ p H', Same H H' → H p = none → H' p = some (.lst ((lets n).map V.int)) → Q (.ref p) H'
/-! ### letters -/
abbrev s__law_mk_letters : Stmt := top 31
abbrev N__law_mk_letters : List Str := ["deeds", "deed"]
theorem sc__law_mk_letters : FnScope ["deeds", "deed"] ["deeds"] (defScope s__law_mk_letters) := ⟨rfl, rfl, rfl, by decide +kernel, rfl, by decide +kernel, by decide +kernel⟩
theorem bd__law_mk_letters : Bnd s__law_mk_letters "_law_mk_letters" ["deeds"] := fun _ _ _ _ _ _ us hl => match us, hl with | [_], _ => rfl

theorem d__law_mk_letters (T : Bs K mg) (R : Rw K mg "_law_mk_letters" s__law_mk_letters) : Df P w K mg base CX0 1 "_law_mk_letters" s__law_mk_letters ["deeds"] (spLetters K) := by
  refine mk0 R sc__law_mk_letters bd__law_mk_letters (fun vs H Q E h => ?_) fun f cdv A outer s H vs Q E hr h => ?_
  · obtain ⟨n, rfl, _⟩ := h; rfl
  obtain ⟨n, rfl, h1, h2, q⟩ := h
  refine ⟨_, (pss_one (ps_ret (pe_op op_addU (pe_listRg rfl (by rfl) T.n_list (prg_2 (by rfl) T.n_range pe_int (pe_op op_addU (pv 0) pe_int))) (pe_lc (own := [("deed", 1)]) rfl sc__law_mk_letters.nd (pi_range2 (by rfl) T.n_range (pa_cons pe_int (pa_cons (pe_op op_addU (pv 0) pe_int) pa_nil))) (blkOk_by (own := [("deed", 1)]) (N := ["deeds", "deed"]) (sc := defScope s__law_mk_letters) (by decide +kernel)) (fun _ _ _ _ _ => (pg_name (i := 1) sc__law_mk_letters.nd rfl (Or.inl rfl))) (fun _ _ _ _ _ => pts_nil) (fun _ _ _ _ _ => (pe_op op_sub pe_int (pv 1))))))), ?_⟩
  walk_at "rd"
  refine rd_addI ?_
  refine ⟨1, n + 1, rfl, rfl, ⟨by omega, by omega, by omega, by omega, by omega⟩, fun p hp => ?_⟩
  walk_at "rd"
  refine rd_addI ?_
  walk_at "rd"
  refine ⟨1, n + 1, rfl, ⟨by omega, by omega, by omega, by omega⟩, fun D hD => ?_⟩
  rw [show (n + 1 - 1).toNat = n.toNat by omega]
  refine lc_pure walk_range hD ((List.range n.toNat).map fun (i : Nat) => V.int (1 + (i : Int))) (fun _ => true) negV (by simp) (by omega) (fun _ _ => True.intro)
    (fun i H x H' hi y => ⟨y.1, by rw [y.2]; simp [hi]⟩) (fun x H' hx e2 R R0 g1 g0 => ?_) fun H' e2 hD' => ?_
  · obtain ⟨z, rfl⟩ : ∃ z, x = .int z := by
      obtain ⟨i, _, rfl⟩ := List.mem_map.mp hx
      exact ⟨_, rfl⟩
    walk_at "rd"
    refine ⟨rfl, ?_⟩
    walk_at "rd"
    refine iteT ?_
    walk_at "rd"
    have g1 : ∀ H'', Same H' H'' → R (.int (-z)) H'' := g1 rfl
    rw [Int.zero_sub]
    exact g1 H' (Same.refl _)
  · have ep : H' p = some (.lst (rgV 1 (n + 1))) := e2 _ _ upd_same
    rw [List.filter_eq_self.mpr fun _ _ => rfl, List.map_map] at hD'
    refine catL ep hD' (by rw [rgV_length]; simp only [List.length_map, List.length_range]; omega) fun p2 hp2 => ?_
    have e3 : Same H H' := (same_new hp).trans e2
    refine q p2 _ (e3.trans (same_new hp2)) (none_of e3 hp2) ?_
    rw [upd_same]
    unfold lets rgV
    rw [show (n + 1 - 1).toNat = n.toNat by omega]
    simp [Function.comp_def, negV]
/-! ### _law_mk_row -/
/-- letters of n deeds -/
def LetS (n : Int) (xs : List Int) : Prop := ∀ x ∈ xs, -n ≤ x ∧ x ≤ n ∧ x ≠ 0
def spMkRow (K : PySem.W.Frag) : Sp := fun vs H Q _ => ∃ (s g c : Addr) (m : Nat) (n lo hi : Int), vs = [.ref s, .int n, .int lo, .int hi] ∧ StAt m H s g c ∧ m < 100000 ∧ 1 ≤ n ∧ n ≤ 4 ∧ 0 ≤ lo ∧ lo ≤ hi ∧ hi ≤ 20 ∧
  ∀ p xs H', StAt (m + 21) H' s g c → XE.Kept s g H H' → Tp H' p (xs.map V.int) → (xs.length : Int) ≤ hi → lo ≤ (xs.length : Int) → LetS n xs → Q (.ref p) H'
def okNext (xs : List Int) : V → Bool
  | .int z => decide (xs = []) || !decide (xs.getLast? = some (-z))
  | _ => false
theorem some_next {n : Int} (h : 1 ≤ n) (xs : List Int) : (((lets n).map V.int).filter (okNext xs)).map (fun x => x) ≠ [] := by
  have key : ∀ z : Int, z ∈ lets n → okNext xs (.int z) = true → (((lets n).map V.int).filter (okNext xs)).map (fun x => x) ≠ [] := fun z hz ho =>
    List.ne_nil_of_mem (List.mem_map.mpr ⟨.int z, List.mem_filter.mpr ⟨List.mem_map.mpr ⟨z, hz, rfl⟩, ho⟩, rfl⟩)
  by_cases e : xs.getLast? = some (-1)
  · refine key (-1) (lets_mem.mpr (by omega)) ?_
    have e2 : decide (xs.getLast? = some (- -1)) = false := decide_eq_false (by rw [e]; decide)
    show (decide (xs = []) || !decide (xs.getLast? = some (- -1))) = true
    rw [e2]
    simp
  · refine key 1 (lets_mem.mpr (by omega)) ?_
    show (decide (xs = []) || !decide (xs.getLast? = some (-1))) = true
    rw [decide_eq_false e]
    simp
/-! ### row -/
abbrev s__law_mk_row : Stmt := top 32
abbrev N__law_mk_row : List Str := ["state", "deeds", "least", "most", "found", "lap", "some", "letter"]
theorem sc__law_mk_row : FnScope ["state", "deeds", "least", "most", "found", "lap", "some", "letter"] ["state", "deeds", "least", "most"] (defScope s__law_mk_row) := ⟨rfl, rfl, rfl, by decide +kernel, rfl, by decide +kernel, by decide +kernel⟩
theorem bd__law_mk_row : Bnd s__law_mk_row "_law_mk_row" ["state", "deeds", "least", "most"] := fun _ _ _ _ _ _ us hl => match us, hl with | [_, _, _, _], _ => rfl

theorem d__law_mk_row (T : Bs K mg) (R : Rw K mg "_law_mk_row" s__law_mk_row) (D__law_draw : Df P w K mg base CX0 2 "_law_draw" s__law_draw ["state", "room"] (spDraw K)) (D__law_pick : Df P w K mg base CX0 3 "_law_pick" s__law_pick ["state", "some"] (spPick K))
    (D__law_mk_letters : Df P w K mg base CX0 1 "_law_mk_letters" s__law_mk_letters ["deeds"] (spLetters K)) : Df P w K mg base CX0 5 "_law_mk_row" s__law_mk_row ["state", "deeds", "least", "most"] (spMkRow K) := by
  refine mk0 R sc__law_mk_row bd__law_mk_row (fun vs H Q E h => ?_) fun f cdv A outer sh H vs Q E hr h => ?_
  · obtain ⟨s, g, c, m, n, lo, hi, rfl, _⟩ := h; rfl
  obtain ⟨s, g, c, m, n, lo, hi, rfl, hS, hm, n1, n4, l0, l1, l2, q⟩ := h
  refine ⟨_, (pss_cons (ps_set (i := 4) sc__law_mk_row.nd rfl (Or.inr rfl) (pe_lst pa_nil))
      (pss_cons (ps_for PassesOwn.never rfl (pi_range1 (by rfl) T.n_range (pa_cons (pe_op op_addU (pv 2) (pe_d D__law_draw hr (by decide) (by rfl) pass0 (pa_cons (pv 0) (pa_cons (pe_op op_addU (pe_op op_sub (pv 3) (pv 2)) pe_int) pa_nil)))) pa_nil)) (pg_name (i := 5) sc__law_mk_row.nd rfl (Or.inl rfl))
        (pss_cons (ps_setLc (i := 6) (own := [("letter", 7)]) rfl sc__law_mk_row.nd rfl rfl (sw_true rfl rfl rfl (by decide +kernel)) (pi_U (pe_d D__law_mk_letters hr (by decide) (by rfl) pass0 (pa_cons (pv 1) pa_nil))) (blkOk_by (own := [("letter", 7)]) (N := ["state", "deeds", "least", "most", "found", "lap", "some", "letter"]) (sc := defScope s__law_mk_row) (by decide +kernel)) (fun _ _ _ _ _ => (pg_name (i := 7) sc__law_mk_row.nd rfl (Or.inl rfl))) (fun _ _ _ _ _ => pts_one (PW.pt (pw_or (pt_cmpR (show OpR _ _ (rEqU K) from (op_eqU hr.units)) (pv 4) (pe_lst pa_nil) (nomark _)) (pw_or1 (pt_cmpR (show OpR _ _ (rNeU K) from (op_neU hr.units)) (pv 7) (pe_op op_sub pe_int (pe_ix (show IxR _ (rIx K) from ix_seq) (pv 4) (pe_un un_neg pe_int) (fun _ _ => rfl))) (nomark _)))))) (fun _ _ _ _ _ => (pv 7)))
        (pss_one (ps_expr (pe_bm PySem.F.plainAttrs_list PySem.F.slot_list_append PySem.F.type_list_append mt_append (pv 4) (pa_cons (pe_d D__law_pick hr (by decide) (by rfl) pass0 (pa_cons (pv 0) (pa_cons (pv 6) pa_nil))) pa_nil))))))
      (pss_one (ps_ret (pe_callTy call_tupN (by rfl) T.n_tuple (by decide +kernel) (pa_cons (pv 4) pa_nil)))))), ?_⟩
  walk_at "rd"
  refine ⟨lz (by simp), fun k hk => ?_⟩
  have kg : k ≠ g := hS.ne_n hk
  have S0 : StAt m (upd H k (.lst [])) s g c := hS.same (same_new hk)
  have K0 : XE.Kept s g H (upd H k (.lst [])) := XE.Kept.of (same_new hk)
  have E0k : upd H k (.lst []) k = some (.lst []) := upd_same
  generalize upd H k (.lst []) = H1 at S0 K0 E0k ⊢
  walk_at "rd"
  refine rd_for ?_
  walk_at "rd"
  refine rd_addI ?_
  walk_at "rd"
  refine ⟨s, g, c, m, hi - lo + 1, rfl, S0, by omega, by omega, by omega, fun r H2 r0 r1 S1 k1 => ?_⟩
  refine rd_addI ?_
  walk_at "rd"
  refine ⟨by omega, by omega, ?_⟩
  refine for_range (fun i σ H' => ∃ (xs : List Int) (x5 x6 x7 : Option V), σ = [some (.ref s), some (.int n), some (.int lo), some (.int hi), some (.ref k), x5, x6, x7] ∧ StAt (m + 1 + i) H' s g c ∧ XE.Kept s g H H' ∧ H' k = some (.lst (xs.map V.int)) ∧ xs.length = i ∧ LetS n xs)
    ⟨[], none, none, none, rfl, S1, K0.trans k1, k1.lst S0 E0k kg, rfl, fun x hx => nomatch hx⟩ (fun i σ H' hi2 h => ?_) (fun σ H' h => ?_)
  · obtain ⟨xs, x5, x6, x7, rfl, S2, K2, E2, ln, le⟩ := h
    walk_at "rd"
    refine .inl ?_
    walk_at "rd"
    refine ⟨n, rfl, n1, n4, fun p H3 s3 hp3 ep3 => ?_⟩
    refine ⟨p, rfl, ⟨_, .inl (.inl ep3)⟩, fun D hD => ?_⟩
    refine lc_pure walk_list hD ((lets n).map V.int) (okNext xs) (fun x => x) rfl (by rw [List.length_map, lets_len]; omega) (fun H' e => .inl (.inl (e _ _ ep3))) (fun i H x H' hi y => y) (fun x H4 hx e4 R R0 g1 g0 => ?_) fun H4 e4 hD' => ?_
    · obtain ⟨z, hz, rfl⟩ := List.mem_map.mp hx
      have g1 : (decide (xs = []) || !decide (xs.getLast? = some (-z))) = true → ∀ H'', Same H4 H'' → R (.int z) H'' := g1
      have g0 : (decide (xs = []) || !decide (xs.getLast? = some (-z))) = false → ∀ H'', Same H4 H'' → R0 H'' := g0
      walk_at "rd"
      refine ⟨rfl, ?_⟩
      walk_at "rd"
      refine ⟨lz (by simp), fun p5 hp5 => ?_⟩
      have E4 : H4 k = some (.lst (xs.map V.int)) := e4 _ _ (s3 _ _ E2)
      have s5 : Same H4 (upd H4 p5 (.lst [])) := same_new hp5
      have E5 := s5 _ _ E4
      refine eqL (ys := []) (.inl (.inl E5)) (.inl (.inl upd_same)) ?_
      generalize upd H4 p5 (.lst []) = H5 at s5 E5 ⊢
      walk_at "rd"
      refine rd_ite (fun e => ?_) fun e => ?_
      · refine iteT ?_
        walk_at "rd"
        exact g1 (by rw [e] <;> rfl) H5 s5
      · walk_at "rd"
        obtain ⟨y, hy⟩ : ∃ y, xs.getLast? = some y := by
          cases hq : xs.getLast? with
          | none => exact absurd (List.getLast?_eq_none_iff.mp hq) (of_decide_eq_false e)
          | some y => exact ⟨y, rfl⟩
        rw [e, hy] at g1 g0
        refine rd_ixL (v := .int y) (.inl (.inl E5)) (atI_last2 (by rw [List.getLast?_map, hy] <;> rfl)) ?_
        walk_at "rd"
        refine rd_neI ?_
        walk_at "rd"
        by_cases e2 : y = -z
        · rw [decide_eq_true (show z = 0 - y by omega)]
          refine iteF (g0 ?_ H5 s5)
          rw [e2]
          simp
        · rw [decide_eq_false (show ¬ z = 0 - y by omega)]
          refine iteT ?_
          walk_at "rd"
          refine g1 ?_ H5 s5
          simp [e2]
    · have E4 : H4 k = some (.lst (xs.map V.int)) := e4 _ _ (s3 _ _ E2)
      have S4 := S2.same (s3.trans e4)
      walk_at "rd"
      refine ⟨tyl E4, ?_⟩
      have ll := List.length_filter_le (okNext xs) ((lets n).map V.int)
      rw [List.length_map, lets_len] at ll
      walk_at "rd"
      refine ⟨s, g, c, D, m + 1 + i, _, rfl, S4, by omega, .inl (.inl hD'), (S2.same s3).ne_n hD, some_next n1 xs, by rw [List.length_map]; omega, fun x H5 hx S5 k5 => ?_⟩
      rw [List.map_id'] at hx
      obtain ⟨z, hz, rfl⟩ := List.mem_map.mp (List.mem_filter.mp hx).1
      walk_at "rd"
      refine app (k5.lst S4 E4 kg) (by rw [List.length_map]; omega) ?_
      walk_at "rd"
      refine ⟨xs ++ [z], _, _, _, rfl, StAt.mut hS hk S5, ((K2.trans (.of (s3.trans e4))).trans k5).mut hk, by rw [upd_same]; simp, by simp [ln], fun y hy => ?_⟩
      rcases List.mem_append.mp hy with h | h
      · exact le y h
      · rw [List.mem_singleton.mp h]
        exact lets_mem.mp hz
  · obtain ⟨xs, x5, x6, x7, rfl, S2, K2, E2, ln, le⟩ := h
    walk_at "rd"
    refine rd_tupOfL (.inl (.inl E2)) fun p o hp ho hd => q p xs _ ((S2.mono (by omega)).same (same_new hp)) (K2.trans (.of (same_new hp))) ⟨o, upd_same, ho, hd⟩ (by omega) (by omega) le
end
end KP

set_option linter.all false
set_option maxRecDepth 100000
set_option maxHeartbeats 4000000
namespace KP
open PySem PySem.Spec PyProof.Rows L2 XA XB XC XD XM XE XF XG
local macro_rules | `(tactic| walk_at "rd") => `(tactic| repeat (first
  | (with_reducible refine rd_seq ?_) | (with_reducible refine rd_asg ?_) | ((with_reducible refine' rd_var ?hv ?_); (case hv => exact rfl)) | (with_reducible refine rd_c ?_) | (with_reducible refine rd_gn ?_)
  | (with_reducible refine rd_op ?_) | (with_reducible refine rd_un ?_) | (with_reducible refine rd_cons ?_) | (with_reducible refine rd_nil ?_) | (with_reducible refine rd_cl ?_) | (with_reducible refine rd_ck ?_) | (with_reducible refine rd_cb ?_)
  | (with_reducible refine rd_ret ?_) | (with_reducible refine rd_drop ?_) | (with_reducible refine rd_ifs ?_) | (with_reducible refine rd_if ?_) | (with_reducible refine rd_test ?_) | (with_reducible refine rd_tb ?_) | (with_reducible refine rd_and ?_) | (with_reducible refine rd_or ?_)
  | (with_reducible refine rd_not ?_) | (with_reducible refine rd_andV ?_) | (with_reducible refine rd_orV ?_) | (with_reducible refine rd_notV ?_) | (with_reducible refine rd_chain ?_) | (with_reducible refine rd_tup ?_) | (with_reducible refine rd_lst ?_)
  | (with_reducible refine rd_bm0 ?_) | (with_reducible refine rd_bm ?_) | (with_reducible refine rd_sl ?_) | (with_reducible refine rd_part ?_) | (with_reducible refine rd_nopart ?_) | (with_reducible refine rd_dget ?_) | (with_reducible refine rd_dput ?_)
  | (with_reducible refine rd_next ?_) | (with_reducible refine rd_lc ?_) | ((with_reducible refine' rd_aug ?hv ?_); (case hv => exact rfl)) | (with_reducible refine rd_cont ?_) | (with_reducible refine rd_gcons ?_) | (with_reducible refine rd_gnil ?_) | (with_reducible refine rd_ifT ?_) | (with_reducible refine rd_yes ?_) | (with_reducible refine rd_tru ?_) | (with_reducible refine rd_cntE ?_) | (with_reducible refine rd_rng1 ?_) | (with_reducible refine rd_lrg ?_) | (with_reducible refine rd_rg2 ?_) | (with_reducible refine rd_back ?_) | (with_reducible refine rd_disp ?_) | (with_reducible refine rd_prN ?_) | (with_reducible refine rd_prC ?_) | (with_reducible refine rd_par ?_) | (with_reducible refine rd_par3 ?_) | (with_reducible refine rd_two ?_) | (with_reducible refine rd_three ?_) | (with_reducible refine rd_one ?_) | (with_reducible refine rd_onei ?_) | (with_reducible refine rd_iL ?_) | (with_reducible refine rd_iT ?_) | (with_reducible refine rd_rng2 ?_) | (with_reducible refine rd_bl ?_) | (with_reducible refine rd_int ?_) | (with_reducible refine rd_I0 ?_) | (with_reducible refine rd_U ?_) | (with_reducible refine rd_din ?_) | (with_reducible refine rd_dnin ?_) | (with_reducible refine rd_dnew ?_) | (with_reducible refine rd_lset ?_) | (with_reducible refine rd_enT ?_) | (with_reducible refine rd_idx ?_) | (with_reducible refine rd_rg1 ?_) | (with_reducible refine rd_tupRg ?_)))

section
variable {P : Program} {w : World} {K : PySem.W.Frag} {mg : Str → Option Value} {base : Heap}
/-! ### _law_mk_raw -/
def spMkRaw (K : PySem.W.Frag) : Sp := fun vs H Q _ => ∃ (s g c a : Addr) (m : Nat) (n : Int) (xs : List Int), vs = [.ref s, .int n, .ref a] ∧ StAt m H s g c ∧ m < 100000 ∧ 1 ≤ n ∧ n ≤ 4 ∧ SqT K H a (xs.map V.int) ∧ xs.length ≤ 400 ∧ LetS n xs ∧
  ∀ p ys H', StAt (m + 10) H' s g c → XE.Kept s g H H' → Tp H' p (ys.map V.int) → ys.length ≤ xs.length + 4 → LetS n ys → Q (.ref p) H'
abbrev s__law_mk_raw : Stmt := top 33
abbrev N__law_mk_raw : List Str := ["state", "deeds", "row", "found", "lap", "at", "letter"]
theorem sc__law_mk_raw : FnScope ["state", "deeds", "row", "found", "lap", "at", "letter"] ["state", "deeds", "row"] (defScope s__law_mk_raw) := ⟨rfl, rfl, rfl, by decide +kernel, rfl, by decide +kernel, by decide +kernel⟩
theorem bd__law_mk_raw : Bnd s__law_mk_raw "_law_mk_raw" ["state", "deeds", "row"] := fun _ _ _ _ _ _ us hl => match us, hl with | [_, _, _], _ => rfl

theorem d__law_mk_raw (T : Bs K mg) (R : Rw K mg "_law_mk_raw" s__law_mk_raw) (D__law_draw : Df P w K mg base CX0 2 "_law_draw" s__law_draw ["state", "room"] (spDraw K)) (D__law_pick : Df P w K mg base CX0 3 "_law_pick" s__law_pick ["state", "some"] (spPick K))
    (D__law_mk_letters : Df P w K mg base CX0 1 "_law_mk_letters" s__law_mk_letters ["deeds"] (spLetters K)) : Df P w K mg base CX0 5 "_law_mk_raw" s__law_mk_raw ["state", "deeds", "row"] (spMkRaw K) := by
  refine mk0 R sc__law_mk_raw bd__law_mk_raw (fun vs H Q E h => ?_) fun f cdv A outer sh H vs Q E hr h => ?_
  · obtain ⟨s, g, c, a, m, n, xs, rfl, _⟩ := h; rfl
  obtain ⟨s, g, c, a, m, n, xs, rfl, hS, hm, n1, n4, hT, hl, le, q⟩ := h
  refine ⟨_, (pss_cons (ps_set (i := 3) sc__law_mk_raw.nd rfl (Or.inl rfl) (pe_callTy call_list_of (by rfl) T.n_list (by decide +kernel) (pa_cons (pv 2) pa_nil)))
      (pss_cons (ps_for PassesOwn.never rfl (pi_range1 (by rfl) T.n_range (pa_cons (pe_d D__law_draw hr (by decide) (by rfl) pass0 (pa_cons (pv 0) (pa_cons pe_int pa_nil))) pa_nil)) (pg_name (i := 4) sc__law_mk_raw.nd rfl (Or.inl rfl))
        (pss_cons (ps_par (i := 5) (j := 6) rfl sc__law_mk_raw.nd rfl rfl (by decide) rfl rfl (pa_cons (pe_d D__law_draw hr (by decide) (by rfl) pass0 (pa_cons (pv 0) (pa_cons (pe_op op_addU (pe_callB call_len (by rfl) T.n_len (by decide +kernel) (pa_cons (pv 3) pa_nil)) pe_int) pa_nil))) (pa_cons (pe_d D__law_pick hr (by decide) (by rfl) pass0 (pa_cons (pv 0) (pa_cons (pe_d D__law_mk_letters hr (by decide) (by rfl) pass0 (pa_cons (pv 1) pa_nil)) pa_nil))) pa_nil)) (by rfl))
        (pss_one (ps_set (i := 3) sc__law_mk_raw.nd rfl (Or.inl rfl) (pe_op op_addU (pe_op op_addU (pe_slice sl_U (pv 3) po_none (po_some (pv 5))) (pe_lst (pa_cons (pv 6) (pa_cons (pe_op op_sub pe_int (pv 6)) pa_nil)))) (pe_slice sl_U (pv 3) (po_some (pv 5)) po_none))))))
      (pss_one (ps_ret (pe_callTy call_tupN (by rfl) T.n_tuple (by decide +kernel) (pa_cons (pv 3) pa_nil)))))), ?_⟩
  walk_at "rd"
  refine ⟨a, _, rfl, .inr hT, fun k hk => ?_⟩
  walk_at "rd"
  refine rd_for ?_
  walk_at "rd"
  refine ⟨s, g, c, m, 3, rfl, hS.same (same_new hk), by omega, by omega, by omega, fun r H2 r0 r1 S1 k1 => ?_⟩
  have K1 : XE.Kept s g H H2 := (XE.Kept.of (same_new hk)).trans k1
  have E1 : H2 k = some (.lst (xs.map V.int)) := k1.lst (hS.same (same_new hk)) upd_same (hS.ne_n hk)
  walk_at "rd"
  refine ⟨by omega, by omega, ?_⟩
  refine for_range (fun i σ H' => ∃ (k : Addr) (ys : List Int) (x4 x5 x6 : Option V), σ = [some (.ref s), some (.int n), some (.ref a), some (.ref k), x4, x5, x6] ∧ H k = none ∧ StAt (m + 1 + 2 * i) H' s g c ∧ XE.Kept s g H H' ∧ H' k = some (.lst (ys.map V.int)) ∧ ys.length = xs.length + 2 * i ∧ LetS n ys)
    ⟨k, xs, none, none, none, rfl, hk, S1, K1, E1, rfl, le⟩ (fun i σ H' hi2 h => ?_) (fun σ H' h => ?_)
  · obtain ⟨k, ys, x4, x5, x6, rfl, hk, S2, K2, E2, ln, le2⟩ := h
    have kg : k ≠ g := hS.ne_n hk
    walk_at "rd"
    refine lenL (.inl (.inl E2)) ?_
    rw [List.length_map]
    walk_at "rd"
    refine rd_addI ?_
    walk_at "rd"
    refine ⟨s, g, c, m + 1 + 2 * i, (ys.length : Int) + 1, rfl, S2, by omega, by omega, by omega, fun at_ H3 a0 a1 S3 k3 => ?_⟩
    walk_at "rd"
    refine ⟨n, rfl, n1, n4, fun p H4 s4 hp4 ep4 => ?_⟩
    walk_at "rd"
    refine ⟨s, g, c, p, m + 1 + 2 * i + 1, _, rfl, S3.same s4, by omega, .inl (.inl ep4), S3.ne_n hp4, ?_, by rw [List.length_map, lets_len]; omega, fun x H5 hx S5 k5 => ?_⟩
    · intro z
      have z := congrArg List.length z
      rw [List.length_map, lets_len] at z
      simp only [List.length_nil] at z
      omega
    obtain ⟨z, hz, rfl⟩ := List.mem_map.mp hx
    obtain ⟨j, rfl⟩ : ∃ j : Nat, at_ = (j : Int) := ⟨at_.toNat, by omega⟩
    have hj : j ≤ (ys.map V.int).length := by rw [List.length_map]; omega
    have E3 := k3.lst S2 E2 kg
    have E5 := k5.lst (S3.same s4) (s4 _ _ E3) kg
    have K5 : XE.Kept s g H H5 := ((K2.trans k3).trans (.of s4)).trans k5
    walk_at "rd"
    refine slL (.inl (.inl E5)) fun p1 hp1 => ?_
    rw [cut_lo hj]
    walk_at "rd"
    refine ⟨lz (by simp), fun p2 hp2 => ?_⟩
    have e1 : upd (upd H5 p1 (.lst ((ys.map V.int).take j))) p2 (.lst [.int z, .int (0 - z)]) p1 = some (.lst ((ys.map V.int).take j)) := same_new hp2 _ _ upd_same
    have s6 : Same H5 (upd (upd H5 p1 (.lst ((ys.map V.int).take j))) p2 (.lst [.int z, .int (0 - z)])) := (same_new hp1).trans (same_new hp2)
    have e2 : upd (upd H5 p1 (.lst ((ys.map V.int).take j))) p2 (.lst [.int z, .int (0 - z)]) p2 = some (.lst [.int z, .int (0 - z)]) := upd_same
    generalize upd (upd H5 p1 (.lst ((ys.map V.int).take j))) p2 (.lst [.int z, .int (0 - z)]) = H6 at e1 e2 s6 ⊢
    have lt : ((ys.map V.int).take j).length ≤ 410 := by rw [List.length_take, List.length_map]; omega
    refine catL e1 e2 (by simp only [List.length_cons, List.length_nil]; omega) fun p3 hp3 => ?_
    walk_at "rd"
    refine slL (.inl (.inl (same_new hp3 _ _ (s6 _ _ E5)))) fun p4 hp4 => ?_
    rw [cut_hi hj]
    walk_at "rd"
    have ld : ((ys.map V.int).drop j).length ≤ 410 := by rw [List.length_drop, List.length_map]; omega
    refine catL (same_new hp4 _ _ upd_same) upd_same (by simp only [List.length_append, List.length_cons, List.length_nil]; omega) fun p5 hp5 => ?_
    have s7 := fun o : HO => ((s6.trans (same_new hp3)).trans (same_new hp4)).trans (same_new (o := o) hp5)
    walk_at "rd"
    refine ⟨p5, ys.take j ++ [z, 0 - z] ++ ys.drop j, _, _, _, rfl, ?_, (S5.same (s7 _)).mono (by omega), K5.trans (.of (s7 _)), ?_, ?_, fun y hy => ?_⟩
    · exact K5.none S5 (none_of (((s6.trans (same_new hp3)).trans (same_new hp4))) hp5)
    · rw [upd_same]
      simp [List.map_take, List.map_drop]
    · simp only [List.length_append, List.length_take, List.length_drop, List.length_cons, List.length_nil]
      omega
    · rcases List.mem_append.mp hy with h | h
      · rcases List.mem_append.mp h with h | h
        · exact le2 y (List.mem_of_mem_take h)
        · have hz := lets_mem.mp hz
          rcases List.mem_cons.mp h with e | e
          · rw [e]; exact hz
          · rw [List.mem_singleton.mp e]; omega
      · exact le2 y (List.mem_of_mem_drop h)
  · obtain ⟨k, ys, x4, x5, x6, rfl, hk, S2, K2, E2, ln, le2⟩ := h
    walk_at "rd"
    refine rd_tupOfL (.inl (.inl E2)) fun p o hp ho hd => q p ys _ ((S2.mono (by omega)).same (same_new hp)) (K2.trans (.of (same_new hp))) ⟨o, upd_same, ho, hd⟩ (by omega) le2
/-! ### values that are no deeds, no rows -/
def spBadDeeds (K : PySem.W.Frag) : Sp := fun vs H Q _ => ∃ (s g c : Addr) (m : Nat), vs = [.ref s] ∧ StAt m H s g c ∧ m < 100000 ∧
  ∀ v d H', Rp K H' v d → d.from 1 4 = false → v ≠ .ref g → StAt (m + 1) H' s g c → XE.Kept s g H H' → Q v H'
abbrev s__law_mk_bad_deeds : Stmt := top 35
abbrev N__law_mk_bad_deeds : List Str := ["state"]
theorem sc__law_mk_bad_deeds : FnScope ["state"] ["state"] (defScope s__law_mk_bad_deeds) := ⟨rfl, rfl, rfl, by decide +kernel, rfl, by decide +kernel, by decide +kernel⟩
theorem bd__law_mk_bad_deeds : Bnd s__law_mk_bad_deeds "_law_mk_bad_deeds" ["state"] := fun _ _ _ _ _ _ us hl => match us, hl with | [_], _ => rfl

theorem d__law_mk_bad_deeds (T : Bs K mg) (R : Rw K mg "_law_mk_bad_deeds" s__law_mk_bad_deeds) (D__law_pick : Df P w K mg base CX0 3 "_law_pick" s__law_pick ["state", "some"] (spPick K)) :
    Df P w K mg base CX0 5 "_law_mk_bad_deeds" s__law_mk_bad_deeds ["state"] (spBadDeeds K) := by
  refine mk0 R sc__law_mk_bad_deeds bd__law_mk_bad_deeds (fun vs H Q E h => ?_) fun f cdv A outer sh H vs Q E hr h => ?_
  · obtain ⟨s, g, c, m, rfl, _⟩ := h; rfl
  obtain ⟨s, g, c, m, rfl, hS, hm, q⟩ := h
  refine ⟨_, (pss_one (ps_ret (pe_d D__law_pick hr (by decide) (by rfl) pass0 (pa_cons (pv 0) (pa_cons (pe_lst (pa_cons pe_non (pa_cons pe_int (pa_cons pe_int (pa_cons (pe_un un_neg pe_int) (pa_cons pe_bl (pa_cons pe_str (pa_cons (pe_tup (pa_cons pe_int pa_nil)) (pa_cons (pe_lst (pa_cons pe_int pa_nil)) pa_nil))))))))) pa_nil))))), ?_⟩
  walk_at "rd"
  refine ⟨lz (by simp), fun p1 h1 => ?_⟩
  obtain ⟨s1, e1⟩ := new_at (o := .tup [.int 2]) h1
  walk_at "rd"
  generalize upd H p1 (.tup [.int 2]) = H1 at s1 e1 ⊢
  refine ⟨lz (by simp), fun p2 h2 => ?_⟩
  obtain ⟨s2, e2⟩ := new_at (o := .lst [.int 1]) h2
  walk_at "rd"
  generalize upd H1 p2 (.lst [.int 1]) = H2 at s2 e2 ⊢
  refine ⟨lz (by simp), fun p3 h3 => ?_⟩
  obtain ⟨s3, e3⟩ := new_at (o := .lst [.non, .int 0, .int 5, .int (-1), .bl true, .str "2", .ref p1, .ref p2]) h3
  walk_at "rd"
  generalize upd H2 p3 (.lst [.non, .int 0, .int 5, .int (-1), .bl true, .str "2", .ref p1, .ref p2]) = H3 at s3 e3 ⊢
  have a2 := s3 _ _ e2
  have a1 := s3 _ _ (s2 _ _ e1)
  have n1 := hS.ne_n h1
  have n2 := (hS.same s1).ne_n h2
  have sA := (s1.trans s2).trans s3
  refine ⟨s, g, c, p3, m, _, rfl, hS.same sA, by omega, .inl (.inl e3), (hS.same (s1.trans s2)).ne_n h3, by simp, by simp, fun x H' hx S4 k4 => ?_⟩
  have key : ∃ d, Rp K H3 x d ∧ d.from 1 4 = false ∧ x ≠ .ref g := by
    simp only [List.mem_cons, List.not_mem_nil, or_false] at hx
    rcases hx with rfl | rfl | rfl | rfl | rfl | rfl | rfl | rfl
    · exact ⟨.flat _, ⟨rfl, rfl⟩, rfl, by intro z; cases z⟩
    · exact ⟨.flat _, ⟨rfl, rfl⟩, rfl, by intro z; cases z⟩
    · exact ⟨.flat _, ⟨rfl, rfl⟩, rfl, by intro z; cases z⟩
    · exact ⟨.flat _, ⟨rfl, rfl⟩, rfl, by intro z; cases z⟩
    · exact ⟨.flat _, ⟨rfl, rfl⟩, rfl, by intro z; cases z⟩
    · exact ⟨.flat _, ⟨rfl, rfl⟩, rfl, by intro z; cases z⟩
    · exact ⟨.tup [.int 2], ⟨p1, rfl, .inl (.inl a1), rfl⟩, rfl, by intro z; cases z; exact n1 rfl⟩
    · exact ⟨.lst [.int 1], ⟨p2, rfl, .inl (.inl a2)⟩, rfl, by intro z; cases z; exact n2 rfl⟩
  obtain ⟨d, r1, r2, r3⟩ := key
  exact q x d H' (k4.rp (hS.same sA) r1 r3) r2 r3 S4 ((XE.Kept.of sA).trans k4)
def spBadRow (K : PySem.W.Frag) : Sp := fun vs H Q _ => ∃ (s g c : Addr) (m : Nat) (n : Int), vs = [.ref s, .int n] ∧ StAt m H s g c ∧ m < 100000 ∧ 1 ≤ n ∧ n ≤ 4 ∧
  ∀ v d H', Rp K H' v d → d.row n = false → v ≠ .ref g → StAt (m + 1) H' s g c → XE.Kept s g H H' → Q v H'
abbrev s__law_mk_bad_row : Stmt := top 36
abbrev N__law_mk_bad_row : List Str := ["state", "deeds", "some"]
theorem sc__law_mk_bad_row : FnScope ["state", "deeds", "some"] ["state", "deeds"] (defScope s__law_mk_bad_row) := ⟨rfl, rfl, rfl, by decide +kernel, rfl, by decide +kernel, by decide +kernel⟩
theorem bd__law_mk_bad_row : Bnd s__law_mk_bad_row "_law_mk_bad_row" ["state", "deeds"] := fun _ _ _ _ _ _ us hl => match us, hl with | [_, _], _ => rfl

theorem d__law_mk_bad_row (T : Bs K mg) (R : Rw K mg "_law_mk_bad_row" s__law_mk_bad_row) (D__law_pick : Df P w K mg base CX0 3 "_law_pick" s__law_pick ["state", "some"] (spPick K)) :
    Df P w K mg base CX0 5 "_law_mk_bad_row" s__law_mk_bad_row ["state", "deeds"] (spBadRow K) := by
  refine mk0 R sc__law_mk_bad_row bd__law_mk_bad_row (fun vs H Q E h => ?_) fun f cdv A outer sh H vs Q E hr h => ?_
  · obtain ⟨s, g, c, m, n, rfl, _⟩ := h; rfl
  obtain ⟨s, g, c, m, n, rfl, hS, hm, n1, n4, q⟩ := h
  refine ⟨_, (pss_cons (ps_set (i := 2) sc__law_mk_bad_row.nd rfl (Or.inl rfl) (pe_lst (pa_cons pe_non (pa_cons (pe_lst (pa_cons pe_int pa_nil)) (pa_cons pe_int (pa_cons pe_str (pa_cons (pe_tup (pa_cons pe_int pa_nil)) (pa_cons (pe_tup (pa_cons (pe_op op_addU (pv 1) pe_int) pa_nil)) (pa_cons (pe_tup (pa_cons pe_int (pa_cons pe_int pa_nil))) (pa_cons (pe_tup (pa_cons pe_bl pa_nil)) (pa_cons (pe_tup (pa_cons pe_str pa_nil)) (pa_cons (pe_tup (pa_cons pe_int (pa_cons pe_non pa_nil))) (pa_cons (pe_tup (pa_cons (pe_op op_sub (pe_op op_sub pe_int (pv 1)) pe_int) pa_nil)) (pa_cons (pe_op op_mulU (pe_tup (pa_cons pe_int pa_nil)) pe_int) pa_nil))))))))))))))
      (pss_one (ps_ret (pe_d D__law_pick hr (by decide) (by rfl) pass0 (pa_cons (pv 0) (pa_cons (pv 2) pa_nil)))))), ?_⟩
  walk_at "rd"
  refine ⟨lz (by simp), fun p1 h1 => ?_⟩
  obtain ⟨s1, e1⟩ := new_at (o := .lst [.int 1]) h1
  walk_at "rd"
  generalize upd H p1 (.lst [.int 1]) = H1 at s1 e1 ⊢
  refine ⟨lz (by simp), fun p2 h2 => ?_⟩
  obtain ⟨s2, e2⟩ := new_at (o := .tup [.int 0]) h2
  walk_at "rd"
  generalize upd H1 p2 (.tup [.int 0]) = H2 at s2 e2 ⊢
  refine rd_addI ?_
  walk_at "rd"
  refine ⟨lz (by simp), fun p3 h3 => ?_⟩
  obtain ⟨s3, e3⟩ := new_at (o := .tup [.int (n + 1)]) h3
  walk_at "rd"
  generalize upd H2 p3 (.tup [.int (n + 1)]) = H3 at s3 e3 ⊢
  refine ⟨lz (by simp), fun p4 h4 => ?_⟩
  obtain ⟨s4, e4⟩ := new_at (o := .tup [.int 1, .int 0]) h4
  walk_at "rd"
  generalize upd H3 p4 (.tup [.int 1, .int 0]) = H4 at s4 e4 ⊢
  refine ⟨lz (by simp), fun p5 h5 => ?_⟩
  obtain ⟨s5, e5⟩ := new_at (o := .tup [.bl true]) h5
  walk_at "rd"
  generalize upd H4 p5 (.tup [.bl true]) = H5 at s5 e5 ⊢
  refine ⟨lz (by simp), fun p6 h6 => ?_⟩
  obtain ⟨s6, e6⟩ := new_at (o := .tup [.str "1"]) h6
  walk_at "rd"
  generalize upd H5 p6 (.tup [.str "1"]) = H6 at s6 e6 ⊢
  refine ⟨lz (by simp), fun p7 h7 => ?_⟩
  obtain ⟨s7, e7⟩ := new_at (o := .tup [.int 1, .non]) h7
  walk_at "rd"
  generalize upd H6 p7 (.tup [.int 1, .non]) = H7 at s7 e7 ⊢
  refine ⟨lz (by simp), fun p8 h8 => ?_⟩
  obtain ⟨s8, e8⟩ := new_at (o := .tup [.int (0 - n - 1)]) h8
  walk_at "rd"
  generalize upd H7 p8 (.tup [.int (0 - n - 1)]) = H8 at s8 e8 ⊢
  refine ⟨lz (by simp), fun p9 h9 => ?_⟩
  obtain ⟨s9, e9⟩ := new_at (o := .tup [.int 1]) h9
  walk_at "rd"
  generalize upd H8 p9 (.tup [.int 1]) = H9 at s9 e9 ⊢
  refine repN (.inl (.inl e9)) (by decide) (by decide) (by simp) (by simp) fun p10 H10 h10 s10 e10 => ?_
  walk_at "rd"
  refine ⟨lz (by simp), fun p11 h11 => ?_⟩
  obtain ⟨s11, e11⟩ := new_at (o := .lst [.non, .ref p1, .int 5, .str "a", .ref p2, .ref p3, .ref p4, .ref p5, .ref p6, .ref p7, .ref p8, .ref p10]) h11
  walk_at "rd"
  generalize upd H10 p11 (.lst [.non, .ref p1, .int 5, .str "a", .ref p2, .ref p3, .ref p4, .ref p5, .ref p6, .ref p7, .ref p8, .ref p10]) = H11 at s11 e11 ⊢
  have t9 := s9.trans (s10.trans s11)
  have t8 := s8.trans t9
  have t7 := s7.trans t8
  have t6 := s6.trans t7
  have t5 := s5.trans t6
  have t4 := s4.trans t5
  have t3 := s3.trans t4
  have t2 := s2.trans t3
  have tA := s1.trans t2
  have S1 := hS.same tA
  refine ⟨s, g, c, p11, m, _, rfl, S1, by omega, .inl (.inl e11), (hS.same (s1.trans (s2.trans (s3.trans (s4.trans (s5.trans (s6.trans (s7.trans (s8.trans (s9.trans s10)))))))))).ne_n h11, by simp, by simp, fun x H' hx S4 k4 => ?_⟩
  have key : ∃ d, Rp K H11 x d ∧ d.row n = false ∧ x ≠ .ref g := by
    have tup : ∀ {p : Addr} {xs : List V}, H11 p = some (.tup xs) → okB xs = true → (Dat.tup xs).row n = false → ∃ d, Rp K H11 (.ref p) d ∧ d.row n = false ∧ V.ref p ≠ .ref g := fun e h1 h2 =>
      ⟨.tup _, ⟨_, rfl, .inl (.inl e), h1⟩, h2, fun z => S1.ne_g e (by intro _ z; cases z) (V.ref.inj z)⟩
    simp only [List.mem_cons, List.not_mem_nil, or_false] at hx
    rcases hx with rfl | rfl | rfl | rfl | rfl | rfl | rfl | rfl | rfl | rfl | rfl | rfl
    · exact ⟨.flat _, ⟨rfl, rfl⟩, rfl, by intro z; cases z⟩
    · exact ⟨.lst [.int 1], ⟨p1, rfl, .inl (.inl (t2 _ _ e1))⟩, rfl, fun z => hS.ne_n h1 (V.ref.inj z)⟩
    · exact ⟨.flat _, ⟨rfl, rfl⟩, rfl, by intro z; cases z⟩
    · exact ⟨.flat _, ⟨rfl, rfl⟩, rfl, by intro z; cases z⟩
    · exact tup (t3 _ _ e2) rfl (by simp [Dat.row, letV])
    · exact tup (t4 _ _ e3) rfl (by simp [Dat.row, letV]; omega)
    · exact tup (t5 _ _ e4) rfl (by simp [Dat.row, letV])
    · exact tup (t6 _ _ e5) rfl (by simp [Dat.row, letV])
    · exact tup (t7 _ _ e6) rfl (by simp [Dat.row, letV])
    · exact tup (t8 _ _ e7) rfl (by simp [Dat.row, letV])
    · exact tup (t9 _ _ e8) rfl (by simp [Dat.row, letV]; omega)
    · obtain ⟨o, e, ho⟩ := e10
      exact ⟨.tup _, ⟨p10, rfl, .inl (.inr ⟨o, s11 _ _ e⟩), by decide⟩, by rfl, fun z => S1.ne_g (s11 _ _ e) (by intro _ z; cases z) (V.ref.inj z)⟩
  obtain ⟨d, r1, r2, r3⟩ := key
  exact q x d H' (k4.rp S1 r1 r3) r2 r3 S4 ((XE.Kept.of tA).trans k4)
end
end KP

set_option linter.all false
set_option maxRecDepth 100000
set_option maxHeartbeats 4000000
namespace KP
open PySem PySem.Spec PyProof.Rows L2 XA XB XC XD XM XE XF XG
local macro_rules | `(tactic| walk_at "rd") => `(tactic| repeat (first
  | (with_reducible refine rd_seq ?_) | (with_reducible refine rd_asg ?_) | ((with_reducible refine' rd_var ?hv ?_); (case hv => exact rfl)) | (with_reducible refine rd_c ?_) | (with_reducible refine rd_gn ?_)
  | (with_reducible refine rd_op ?_) | (with_reducible refine rd_un ?_) | (with_reducible refine rd_cons ?_) | (with_reducible refine rd_nil ?_) | (with_reducible refine rd_cl ?_) | (with_reducible refine rd_ck ?_) | (with_reducible refine rd_cb ?_)
  | (with_reducible refine rd_ret ?_) | (with_reducible refine rd_drop ?_) | (with_reducible refine rd_ifs ?_) | (with_reducible refine rd_if ?_) | (with_reducible refine rd_test ?_) | (with_reducible refine rd_tb ?_) | (with_reducible refine rd_and ?_) | (with_reducible refine rd_or ?_)
  | (with_reducible refine rd_not ?_) | (with_reducible refine rd_andV ?_) | (with_reducible refine rd_orV ?_) | (with_reducible refine rd_notV ?_) | (with_reducible refine rd_chain ?_) | (with_reducible refine rd_tup ?_) | (with_reducible refine rd_lst ?_)
  | (with_reducible refine rd_bm0 ?_) | (with_reducible refine rd_bm ?_) | (with_reducible refine rd_sl ?_) | (with_reducible refine rd_part ?_) | (with_reducible refine rd_nopart ?_) | (with_reducible refine rd_dget ?_) | (with_reducible refine rd_dput ?_)
  | (with_reducible refine rd_next ?_) | (with_reducible refine rd_lc ?_) | ((with_reducible refine' rd_aug ?hv ?_); (case hv => exact rfl)) | (with_reducible refine rd_cont ?_) | (with_reducible refine rd_gcons ?_) | (with_reducible refine rd_gnil ?_) | (with_reducible refine rd_ifT ?_) | (with_reducible refine rd_yes ?_) | (with_reducible refine rd_tru ?_) | (with_reducible refine rd_cntE ?_) | (with_reducible refine rd_rng1 ?_) | (with_reducible refine rd_lrg ?_) | (with_reducible refine rd_rg2 ?_) | (with_reducible refine rd_back ?_) | (with_reducible refine rd_disp ?_) | (with_reducible refine rd_prN ?_) | (with_reducible refine rd_prC ?_) | (with_reducible refine rd_par ?_) | (with_reducible refine rd_par3 ?_) | (with_reducible refine rd_two ?_) | (with_reducible refine rd_three ?_) | (with_reducible refine rd_one ?_) | (with_reducible refine rd_onei ?_) | (with_reducible refine rd_iL ?_) | (with_reducible refine rd_iT ?_) | (with_reducible refine rd_rng2 ?_) | (with_reducible refine rd_bl ?_) | (with_reducible refine rd_int ?_) | (with_reducible refine rd_I0 ?_) | (with_reducible refine rd_U ?_) | (with_reducible refine rd_din ?_) | (with_reducible refine rd_dnin ?_) | (with_reducible refine rd_dnew ?_) | (with_reducible refine rd_lset ?_) | (with_reducible refine rd_enT ?_) | (with_reducible refine rd_idx ?_) | (with_reducible refine rd_rg1 ?_) | (with_reducible refine rd_tupRg ?_)))

section
variable {P : Program} {w : World} {K : PySem.W.Frag} {mg : Str → Option Value} {base : Heap}
/-! ### _law_mr_whole -/
abbrev s__law_mr_whole : Stmt := top 37
abbrev N__law_mr_whole : List Str := ["thing"]
theorem sc__law_mr_whole : FnScope ["thing"] ["thing"] (defScope s__law_mr_whole) := ⟨rfl, rfl, rfl, by decide +kernel, rfl, by decide +kernel, by decide +kernel⟩
theorem bd__law_mr_whole : Bnd s__law_mr_whole "_law_mr_whole" ["thing"] := fun _ _ _ _ _ _ us hl => match us, hl with | [_], _ => rfl

theorem d__law_mr_whole (T : Bs K mg) (R : Rw K mg "_law_mr_whole" s__law_mr_whole) : Df P w K mg base CX0 1 "_law_mr_whole" s__law_mr_whole ["thing"] (spWhole K) := by
  refine mk0 R sc__law_mr_whole bd__law_mr_whole (fun vs H Q E h => ?_) fun f cdv A outer s H vs Q E hr h => ?_
  · obtain ⟨v, d, rfl, _⟩ := h; rfl
  obtain ⟨v, d, rfl, hv, q⟩ := h
  refine ⟨_, (pss_one (ps_ret (pe_and (pe_callB call_isU (by rfl) T.n_isinstance (by decide +kernel) (pa_cons (pv 0) (pa_cons (pe_bltn (v := .ty "int") (by rfl) T.n_int (by decide +kernel) rfl) pa_nil))) (pe_one (pe_not (pe_callB call_isU (by rfl) T.n_isinstance (by decide +kernel) (pa_cons (pv 0) (pa_cons (pe_bltn (v := .ty "bool") (by rfl) T.n_bool (by decide +kernel) rfl) pa_nil)))))))), ?_⟩
  walk_at "rd"
  refine rd_isT hv (kit_int d) ?_
  walk_at "rd"
  unfold Dat.whole at q
  refine rd_ite (fun e => ?_) fun e => ?_
  · walk_at "rd"
    refine rd_isT hv (kit_bool d) ?_
    walk_at "rd"
    rw [e] at q
    exact q
  · rw [e] at q
    exact q
/-! ### _law_mr_same -/
def spSame (K : PySem.W.Frag) : Sp := fun vs H Q _ => ∃ (a b : Addr) (xs ys : List Int), vs = [.ref a, .ref b] ∧ SqT K H a (xs.map V.int) ∧ SqT K H b (ys.map V.int) ∧ xs.length ≤ 10000 ∧ ∀ H', Same H H' → Q (.bl (decide (xs = ys))) H'
abbrev s__law_mr_same : Stmt := top 38
abbrev N__law_mr_same : List Str := ["found", "due", "item"]
theorem sc__law_mr_same : FnScope ["found", "due", "item"] ["found", "due"] (defScope s__law_mr_same) := ⟨rfl, rfl, rfl, by decide +kernel, rfl, by decide +kernel, by decide +kernel⟩
theorem bd__law_mr_same : Bnd s__law_mr_same "_law_mr_same" ["found", "due"] := fun _ _ _ _ _ _ us hl => match us, hl with | [_, _], _ => rfl

theorem d__law_mr_same (T : Bs K mg) (R : Rw K mg "_law_mr_same" s__law_mr_same) (D__law_mr_whole : Df P w K mg base CX0 1 "_law_mr_whole" s__law_mr_whole ["thing"] (spWhole K)) :
    Df P w K mg base CX0 2 "_law_mr_same" s__law_mr_same ["found", "due"] (spSame K) := by
  refine mk0 R sc__law_mr_same bd__law_mr_same (fun vs H Q E h => ?_) fun f cdv A outer s H vs Q E hr h => ?_
  · obtain ⟨a, b, xs, ys, rfl, _⟩ := h; rfl
  obtain ⟨a, b, xs, ys, rfl, ha, hb, hl, q⟩ := h
  refine ⟨_, (pss_one (ps_ret (pe_and (pe_callB call_isU (by rfl) T.n_isinstance (by decide +kernel) (pa_cons (pv 0) (pa_cons (pe_bltn (v := .ty "tuple") (by rfl) T.n_tuple (by decide +kernel) rfl) pa_nil))) (pe_and (pe_cmpR (op_eqU hr.units) (pe_lc (own := [("item", 2)]) rfl sc__law_mr_same.nd (pi_U (pv 0)) (blkOk_by (own := [("item", 2)]) (N := ["found", "due", "item"]) (sc := defScope s__law_mr_same) (by decide +kernel)) (fun _ _ _ _ _ => (pg_name (i := 2) sc__law_mr_same.nd rfl (Or.inl rfl))) (fun _ _ _ _ _ => pts_one (pt_not (show PT _ _ (tTru K _) from pt_tru (pe_d D__law_mr_whole hr (by decide) (by rfl) pass0 (pa_cons (pv 2) pa_nil)) (by intro _; rfl)))) (fun _ _ _ _ _ => pe_int)) (pe_lst pa_nil) (nomark _)) (pe_one (pe_cmpR (op_eqU hr.units) (pv 0) (pv 1) (nomark _))))))), ?_⟩
  walk_at "rd"
  refine rd_isT (d := .tup (xs.map V.int)) ⟨a, rfl, ha, okI (by omega)⟩ (kit_tuple _) ?_
  walk_at "rd"
  refine iteT ?_
  walk_at "rd"
  refine .inr ⟨.ref a, rfl, a, rfl, ⟨_, ha⟩, fun D hD => ?_⟩
  refine lc_pure walk_tup hD (xs.map V.int) (fun _ => false) (fun x => x) rfl (by rw [List.length_map]; omega) (fun H' e => sqT_same e ha) (fun i H x H' hi y => y) (fun x H4 hx e4 R R0 g1 g0 => ?_) fun H1 e1 hD' => ?_
  · obtain ⟨z, rfl⟩ := mem_i hx
    walk_at "rd"
    refine ⟨rfl, ?_⟩
    walk_at "rd"
    refine ⟨.int z, .flat (.int z), rfl, ⟨rfl, rfl⟩, ?_⟩
    walk_at "rd"
    refine truB ?_
    exact g0 rfl H4 (Same.refl _)
  · rw [show List.map (fun x => x) ((xs.map V.int).filter fun _ => false) = ([] : List Int).map V.int by simp] at hD'
    walk_at "rd"
    refine ⟨lz (by simp), fun p2 h2 => ?_⟩
    obtain ⟨s2, e2⟩ := new_at (o := .lst []) h2
    generalize upd H1 p2 (.lst []) = H2 at s2 e2 ⊢
    refine eqL (xs := []) (ys := []) (.inl (.inl (s2 _ _ hD'))) (.inl (.inl e2)) ?_
    walk_at "rd"
    refine iteT ?_
    walk_at "rd"
    exact eqT (sqT_same (e1.trans s2) ha) (sqT_same (e1.trans s2) hb) (q _ (e1.trans s2))
/-! ### _law_mr_times -/
def spMrTimes (K : PySem.W.Frag) : Sp := fun vs H Q _ => ∃ (a : Addr) (xs : List Int) (m : Int), vs = [.ref a, .int m] ∧ SqT K H a (xs.map V.int) ∧ xs.length ≤ 200 ∧ -20 ≤ m ∧ m ≤ 20 ∧ ∀ p H', Same H H' → Tp H' p ((times xs m).map V.int) → Q (.ref p) H'
abbrev s__law_mr_times : Stmt := top 40
abbrev N__law_mr_times : List Str := ["row", "many", "one"]
theorem sc__law_mr_times : FnScope ["row", "many", "one"] ["row", "many"] (defScope s__law_mr_times) := ⟨rfl, rfl, rfl, by decide +kernel, rfl, by decide +kernel, by decide +kernel⟩
theorem bd__law_mr_times : Bnd s__law_mr_times "_law_mr_times" ["row", "many"] := fun _ _ _ _ _ _ us hl => match us, hl with | [_, _], _ => rfl

theorem d__law_mr_times (T : Bs K mg) (R : Rw K mg "_law_mr_times" s__law_mr_times) (D__law_mk_plain : Df P w K mg base CX0 1 "_law_mk_plain" s__law_mk_plain ["letters"] (spPlain K))
    (D__law_mk_undone : Df P w K mg base CX0 1 "_law_mk_undone" s__law_mk_undone ["row"] (spUndone K)) : Df P w K mg base CX0 2 "_law_mr_times" s__law_mr_times ["row", "many"] (spMrTimes K) := by
  refine mk0 R sc__law_mr_times bd__law_mr_times (fun vs H Q E h => ?_) fun f cdv A outer s H vs Q E hr h => ?_
  · obtain ⟨a, xs, m, rfl, _⟩ := h; rfl
  obtain ⟨a, xs, m, rfl, ha, hl, m0, m1, q⟩ := h
  refine ⟨_, (pss_cons (ps_set (i := 2) sc__law_mr_times.nd rfl (Or.inl rfl) (pe_ifExp (pt_cmpR op_ge (pv 1) pe_int (nomark _)) (pv 0) (pe_d D__law_mk_undone hr (by decide) (by rfl) pass0 (pa_cons (pv 0) pa_nil))))
      (pss_one (ps_ret (pe_d D__law_mk_plain hr (by decide) (by rfl) pass0 (pa_cons (pe_op op_mulU (pv 2) (pe_callB call_abs (by rfl) T.n_abs (by decide +kernel) (pa_cons (pv 1) pa_nil))) pa_nil))))), ?_⟩
  walk_at "rd"
  unfold times at q
  refine rd_ite (fun e => ?_) fun e => ?_
  · have e := of_decide_eq_true e
    rw [if_neg (by omega)] at q
    walk_at "rd"
    refine repS ha (by omega) (by omega) (by rw [List.length_map]; omega) fun p H1 s1 t1 => ?_
    rw [flat_map] at t1
    walk_at "rd"
    rw [show (if m < 0 then -m else m) = m by omega] at t1
    refine ⟨p, rep m xs, rfl, t1, ?_, fun p2 H2 s2 t2 => q p2 H2 (s1.trans s2) t2⟩
    unfold rep
    rw [flat_len]
    have a1 : m.toNat * xs.length ≤ 20 * 200 := Nat.mul_le_mul (by omega) (by omega)
    omega
  · have e := of_decide_eq_false e
    rw [if_pos (by omega)] at q
    walk_at "rd"
    refine ⟨a, xs, rfl, ha, by omega, fun p1 H1 s1 t1 => ?_⟩
    have l4 := inv_len xs
    walk_at "rd"
    refine repS t1.sqT (by omega) (by omega) (by rw [List.length_map]; omega) fun p H2 s2 t2 => ?_
    rw [flat_map] at t2
    walk_at "rd"
    rw [show (if m < 0 then -m else m) = -m by omega] at t2
    refine ⟨p, rep (-m) (inv xs), rfl, t2, ?_, fun p3 H3 s3 t3 => q p3 H3 (s1.trans (s2.trans s3)) t3⟩
    unfold rep
    rw [flat_len, l4]
    have a1 : (-m).toNat * xs.length ≤ 20 * 200 := Nat.mul_le_mul (by omega) (by omega)
    omega
/-! ### _law_mr_turned -/
def turned (xs by_ : List Int) : List Int := red (by_ ++ xs ++ inv by_)
def spTurned (K : PySem.W.Frag) : Sp := fun vs H Q _ => ∃ (a b : Addr) (xs ys : List Int), vs = [.ref a, .ref b] ∧ SqT K H a (xs.map V.int) ∧ SqT K H b (ys.map V.int) ∧ xs.length ≤ 1000 ∧ ys.length ≤ 1000 ∧ ∀ p H', Same H H' → Tp H' p ((turned xs ys).map V.int) → Q (.ref p) H'
/-! ### turned -/
abbrev s__law_mr_turned : Stmt := top 41
abbrev N__law_mr_turned : List Str := ["row", "by"]
theorem sc__law_mr_turned : FnScope ["row", "by"] ["row", "by"] (defScope s__law_mr_turned) := ⟨rfl, rfl, rfl, by decide +kernel, rfl, by decide +kernel, by decide +kernel⟩
theorem bd__law_mr_turned : Bnd s__law_mr_turned "_law_mr_turned" ["row", "by"] := fun _ _ _ _ _ _ us hl => match us, hl with | [_, _], _ => rfl

theorem d__law_mr_turned (T : Bs K mg) (R : Rw K mg "_law_mr_turned" s__law_mr_turned) (D__law_mk_plain : Df P w K mg base CX0 1 "_law_mk_plain" s__law_mk_plain ["letters"] (spPlain K))
    (D__law_mk_undone : Df P w K mg base CX0 1 "_law_mk_undone" s__law_mk_undone ["row"] (spUndone K)) : Df P w K mg base CX0 2 "_law_mr_turned" s__law_mr_turned ["row", "by"] (spTurned K) := by
  refine mk0 R sc__law_mr_turned bd__law_mr_turned (fun vs H Q E h => ?_) fun f cdv A outer s H vs Q E hr h => ?_
  · obtain ⟨a, b, xs, ys, rfl, _⟩ := h; rfl
  obtain ⟨a, b, xs, ys, rfl, ha, hb, la, lb, q⟩ := h
  refine ⟨_, (pss_one (ps_ret (pe_d D__law_mk_plain hr (by decide) (by rfl) pass0 (pa_cons (pe_op op_addU (pe_op op_addU (pv 1) (pv 0)) (pe_d D__law_mk_undone hr (by decide) (by rfl) pass0 (pa_cons (pv 1) pa_nil))) pa_nil)))), ?_⟩
  walk_at "rd"
  refine catS hb ha (by simp only [List.length_map]; omega) fun p1 H1 s1 t1 => ?_
  walk_at "rd"
  refine ⟨b, ys, rfl, sqT_same s1 hb, by omega, fun p2 H2 s2 t2 => ?_⟩
  have l4 := inv_len ys
  walk_at "rd"
  refine catS (sqT_same s2 t1) t2.sqT (by simp only [List.length_append, List.length_map]; omega) fun p3 H3 s3 t3 => ?_
  walk_at "rd"
  exact ⟨p3, ys ++ xs ++ inv ys, rfl, by rw [List.map_append, List.map_append]; exact t3, by simp only [List.length_append]; omega, fun p4 H4 s4 t4 => q p4 H4 (s1.trans (s2.trans (s3.trans s4))) t4⟩
/-! ### own: letters of rows -/
theorem LetS.red {n : Int} {xs : List Int} (h : LetS n xs) : LetS n (red xs) := fun x hx => h x (red_mem hx)
theorem LetS.inv {n : Int} {xs : List Int} (h : LetS n xs) : LetS n (inv xs) := fun x hx => by
  obtain ⟨y, hy, rfl⟩ := List.mem_map.mp hx
  have := h y (List.mem_reverse.mp hy)
  omega
theorem LetS.app {n : Int} {xs ys : List Int} (h : LetS n xs) (h2 : LetS n ys) : LetS n (xs ++ ys) := fun x hx => (List.mem_append.mp hx).elim (h x) (h2 x)
theorem LetS.rep {n k : Int} {xs : List Int} (h : LetS n xs) : LetS n (rep k xs) := fun x hx => by
  obtain ⟨l, hl, h2⟩ := List.mem_flatten.mp hx
  rw [(List.mem_replicate.mp hl).2] at h2
  exact h x h2
theorem LetS.times {n k : Int} {xs : List Int} (h : LetS n xs) : LetS n (times xs k) := by
  unfold KP.times
  split
  · exact h.inv.rep.red
  · exact h.rep.red
theorem LetS.turned {n : Int} {xs ys : List Int} (h : LetS n xs) (h2 : LetS n ys) : LetS n (turned xs ys) := ((h2.app h).app h2.inv).red
theorem LetS.row {n : Int} {xs : List Int} (h : LetS n xs) (l : xs.length ≤ 200) : (Dat.tup (xs.map V.int)).row n = true := by
  unfold Dat.row
  simp only [Bool.and_eq_true, decide_eq_true_eq, List.length_map, List.all_map, List.all_eq_true]
  refine ⟨l, fun x hx => ?_⟩
  have := h x hx
  simp [letV, this]
/-! ### _law_mr_row -/
def spMrRow (K : PySem.W.Frag) : Sp := fun vs H Q _ => ∃ (s g c : Addr) (m : Nat) (n : Int), vs = [.ref s, .int n] ∧ StAt m H s g c ∧ m < 50000 ∧ 1 ≤ n ∧ n ≤ 4 ∧
  ∀ p xs H', StAt (m + 60) H' s g c → XE.Kept s g H H' → Tp H' p (xs.map V.int) → xs.length ≤ 18 → LetS n xs → Q (.ref p) H'
abbrev s__law_mr_row : Stmt := top 42
abbrev N__law_mr_row : List Str := ["state", "deeds", "way", "found"]
theorem sc__law_mr_row : FnScope ["state", "deeds", "way", "found"] ["state", "deeds"] (defScope s__law_mr_row) := ⟨rfl, rfl, rfl, by decide +kernel, rfl, by decide +kernel, by decide +kernel⟩
theorem bd__law_mr_row : Bnd s__law_mr_row "_law_mr_row" ["state", "deeds"] := fun _ _ _ _ _ _ us hl => match us, hl with | [_, _], _ => rfl

theorem d__law_mr_row (T : Bs K mg) (R : Rw K mg "_law_mr_row" s__law_mr_row) (D__law_draw : Df P w K mg base CX0 2 "_law_draw" s__law_draw ["state", "room"] (spDraw K)) (D__law_mk_row : Df P w K mg base CX0 5 "_law_mk_row" s__law_mk_row ["state", "deeds", "least", "most"] (spMkRow K))
    (D__law_mk_raw : Df P w K mg base CX0 5 "_law_mk_raw" s__law_mk_raw ["state", "deeds", "row"] (spMkRaw K)) (D__law_mr_times : Df P w K mg base CX0 2 "_law_mr_times" s__law_mr_times ["row", "many"] (spMrTimes K))
    (D__law_mr_turned : Df P w K mg base CX0 2 "_law_mr_turned" s__law_mr_turned ["row", "by"] (spTurned K)) : Df P w K mg base CX0 6 "_law_mr_row" s__law_mr_row ["state", "deeds"] (spMrRow K) := by
  refine mk0 R sc__law_mr_row bd__law_mr_row (fun vs H Q E h => ?_) fun f cdv A outer sh H vs Q E hr h => ?_
  · obtain ⟨s, g, c, m, n, rfl, _⟩ := h; rfl
  obtain ⟨s, g, c, m, n, rfl, hS, hm, n1, n4, q⟩ := h
  refine ⟨_, (pss_cons (ps_set (i := 2) sc__law_mr_row.nd rfl (Or.inl rfl) (pe_d D__law_draw hr (by decide) (by rfl) pass0 (pa_cons (pv 0) (pa_cons pe_int pa_nil))))
      (pss_cons (ps_if (pt_cmpR (op_eqU hr.units) (pv 2) pe_int (nomark _)) (pss_one (ps_set (i := 3) sc__law_mr_row.nd rfl (Or.inl rfl) (pe_d D__law_mr_times hr (by decide) (by rfl) pass0 (pa_cons (pe_d D__law_mk_row hr (by decide) (by rfl) pass0 (pa_cons (pv 0) (pa_cons (pv 1) (pa_cons pe_int (pa_cons pe_int pa_nil))))) (pa_cons (pe_op op_addU pe_int (pe_d D__law_draw hr (by decide) (by rfl) pass0 (pa_cons (pv 0) (pa_cons pe_int pa_nil)))) pa_nil))))) (pss_one (ps_if (pt_cmpR (op_eqU hr.units) (pv 2) pe_int (nomark _)) (pss_one (ps_set (i := 3) sc__law_mr_row.nd rfl (Or.inl rfl) (pe_d D__law_mr_turned hr (by decide) (by rfl) pass0 (pa_cons (pe_d D__law_mk_row hr (by decide) (by rfl) pass0 (pa_cons (pv 0) (pa_cons (pv 1) (pa_cons pe_int (pa_cons pe_int pa_nil))))) (pa_cons (pe_d D__law_mk_row hr (by decide) (by rfl) pass0 (pa_cons (pv 0) (pa_cons (pv 1) (pa_cons pe_int (pa_cons pe_int pa_nil))))) pa_nil))))) (pss_one (ps_set (i := 3) sc__law_mr_row.nd rfl (Or.inl rfl) (pe_d D__law_mk_row hr (by decide) (by rfl) pass0 (pa_cons (pv 0) (pa_cons (pv 1) (pa_cons pe_int (pa_cons pe_int pa_nil))))))))))
      (pss_one (ps_ret (pe_d D__law_mk_raw hr (by decide) (by rfl) pass0 (pa_cons (pv 0) (pa_cons (pv 1) (pa_cons (pv 3) pa_nil)))))))), ?_⟩
  walk_at "rd"
  refine ⟨s, g, c, m, 6, rfl, hS, by omega, by omega, by omega, fun r H1 r0 r1 S1 k1 => ?_⟩
  walk_at "rd"
  refine rd_eqI ?_
  walk_at "rd"
  have fin : ∀ (p : Addr) (xs : List Int) (H2 : Hp), StAt (m + 50) H2 s g c → XE.Kept s g H H2 → SqT K H2 p (xs.map V.int) → xs.length ≤ 14 → LetS n xs → spMkRaw K [.ref s, .int n, .ref p] H2 Q E0 := fun p xs H2 S2 k2 t2 l2 e2 =>
    ⟨s, g, c, p, m + 50, n, xs, rfl, S2, by omega, n1, n4, t2, by omega, e2, fun p3 ys H3 S3 k3 t3 l3 e3 => q p3 ys H3 S3 (k2.trans k3) t3 (by omega) e3⟩
  refine rd_ite (fun e => ?_) fun e => ?_
  · walk_at "rd"
    refine ⟨s, g, c, m + 1, n, 1, 3, rfl, S1, by omega, n1, n4, by omega, by omega, by omega, fun p xs H2 S2 k2 t2 l2 _ e2 => ?_⟩
    walk_at "rd"
    refine ⟨s, g, c, m + 1 + 21, 3, rfl, S2, by omega, by omega, by omega, fun r2 H3 a0 a1 S3 k3 => ?_⟩
    refine rd_addI ?_
    walk_at "rd"
    refine ⟨p, xs, 2 + r2, rfl, (k3.tp S2 t2).sqT, by omega, by omega, by omega, fun p4 H4 s4 t4 => ?_⟩
    walk_at "rd"
    refine fin p4 _ H4 ((S3.same s4).mono (by omega)) (((k1.trans k2).trans k3).trans (.of s4)) t4.sqT ?_ e2.times
    unfold times
    rw [if_neg (by omega)]
    have h1 := red_len (rep (2 + r2) xs)
    have h2 : (rep (2 + r2) xs).length = (2 + r2).toNat * xs.length := flat_len _ _
    have h3 : (2 + r2).toNat * xs.length ≤ 4 * 3 := Nat.mul_le_mul (by omega) (by omega)
    omega
  · walk_at "rd"
    refine rd_eqI ?_
    walk_at "rd"
    refine rd_ite (fun e => ?_) fun e => ?_
    · walk_at "rd"
      refine ⟨s, g, c, m + 1, n, 0, 5, rfl, S1, by omega, n1, n4, by omega, by omega, by omega, fun p xs H2 S2 k2 t2 l2 _ e2 => ?_⟩
      walk_at "rd"
      refine ⟨s, g, c, m + 1 + 21, n, 1, 3, rfl, S2, by omega, n1, n4, by omega, by omega, by omega, fun p3 ys H3 S3 k3 t3 l3 _ e3 => ?_⟩
      walk_at "rd"
      refine ⟨p, p3, xs, ys, rfl, (k3.tp S2 t2).sqT, t3.sqT, by omega, by omega, fun p4 H4 s4 t4 => ?_⟩
      walk_at "rd"
      refine fin p4 _ H4 ((S3.same s4).mono (by omega)) (((k1.trans k2).trans k3).trans (.of s4)) t4.sqT ?_ (e2.turned e3)
      unfold turned
      have h1 := red_len (ys ++ xs ++ inv ys)
      simp only [List.length_append, inv_len] at h1
      omega
    · walk_at "rd"
      refine ⟨s, g, c, m + 1, n, 0, 7, rfl, S1, by omega, n1, n4, by omega, by omega, by omega, fun p xs H2 S2 k2 t2 l2 _ e2 => ?_⟩
      walk_at "rd"
      exact fin p xs H2 (S2.mono (by omega)) (k1.trans k2) t2.sqT (by omega) e2
/-! ### _law_mr_long -/
def spMrLong (K : PySem.W.Frag) : Sp := fun vs H Q _ => ∃ (s g c : Addr) (m : Nat) (n : Int), vs = [.ref s, .int n] ∧ StAt m H s g c ∧ m < 50000 ∧ 1 ≤ n ∧ n ≤ 4 ∧
  ∀ p xs H', StAt (m + 60) H' s g c → XE.Kept s g H H' → Tp H' p (xs.map V.int) → xs.length ≤ 200 → LetS n xs → Q (.ref p) H'
abbrev s__law_mr_long : Stmt := top 43
abbrev N__law_mr_long : List Str := ["state", "deeds", "piece"]
theorem sc__law_mr_long : FnScope ["state", "deeds", "piece"] ["state", "deeds"] (defScope s__law_mr_long) := ⟨rfl, rfl, rfl, by decide +kernel, rfl, by decide +kernel, by decide +kernel⟩
theorem bd__law_mr_long : Bnd s__law_mr_long "_law_mr_long" ["state", "deeds"] := fun _ _ _ _ _ _ us hl => match us, hl with | [_, _], _ => rfl

theorem d__law_mr_long (T : Bs K mg) (R : Rw K mg "_law_mr_long" s__law_mr_long) (D__law_mk_row : Df P w K mg base CX0 5 "_law_mk_row" s__law_mk_row ["state", "deeds", "least", "most"] (spMkRow K)) :
    Df P w K mg base CX0 6 "_law_mr_long" s__law_mr_long ["state", "deeds"] (spMrLong K) := by
  refine mk0 R sc__law_mr_long bd__law_mr_long (fun vs H Q E h => ?_) fun f cdv A outer sh H vs Q E hr h => ?_
  · obtain ⟨s, g, c, m, n, rfl, _⟩ := h; rfl
  obtain ⟨s, g, c, m, n, rfl, hS, hm, n1, n4, q⟩ := h
  refine ⟨_, (pss_cons (ps_set (i := 2) sc__law_mr_long.nd rfl (Or.inl rfl) (pe_d D__law_mk_row hr (by decide) (by rfl) pass0 (pa_cons (pv 0) (pa_cons (pv 1) (pa_cons pe_int (pa_cons pe_int pa_nil))))))
      (pss_one (ps_ret (pe_slice sl_U (pe_op op_mulU (pv 2) pe_int) po_none (po_some pe_int))))), ?_⟩
  walk_at "rd"
  refine ⟨s, g, c, m, n, 1, 9, rfl, hS, by omega, n1, n4, by omega, by omega, by omega, fun p xs H2 S2 k2 t2 l2 l3 e2 => ?_⟩
  walk_at "rd"
  refine repT t2 (by omega) (by omega) (by rw [List.length_map]; omega) fun p3 H3 s3 t3 => ?_
  rw [flat_map] at t3
  walk_at "rd"
  have hl : 200 ≤ ((List.replicate (Int.toNat 200) xs).flatten.map V.int).length := by
    rw [List.length_map, flat_len]
    have a1 : 200 * 1 ≤ (200 : Int).toNat * xs.length := Nat.mul_le_mul (by decide) (by omega)
    omega
  refine slT t3 fun p4 H4 s4 t4 => ?_
  have hc := cut_lo (xs := (List.replicate (Int.toNat 200) xs).flatten.map V.int) (k := 200) hl
  have t4 : Tp H4 p4 (((List.replicate (Int.toNat 200) xs).flatten.take 200).map V.int) := by
    rw [List.map_take, ← hc]
    exact t4
  refine q p4 _ H4 ((S2.same (s3.trans s4)).mono (by omega)) (k2.trans (.of (s3.trans s4))) t4 (by rw [List.length_take]; omega) fun x hx => ?_
  exact (e2.rep (k := 200)) x (List.mem_of_mem_take hx)
end
end KP

set_option linter.all false
set_option maxRecDepth 100000
set_option maxHeartbeats 4000000
namespace KP
open PySem PySem.Spec PyProof.Rows L2 XA XB XC XD XM XE XF XG XT XP
local macro_rules | `(tactic| walk_at "rd") => `(tactic| repeat (first
  | (with_reducible refine rd_seq ?_) | (with_reducible refine rd_asg ?_) | ((with_reducible refine' rd_var ?hv ?_); (case hv => exact rfl)) | (with_reducible refine rd_c ?_) | (with_reducible refine rd_gn ?_)
  | (with_reducible refine rd_op ?_) | (with_reducible refine rd_un ?_) | (with_reducible refine rd_cons ?_) | (with_reducible refine rd_nil ?_) | (with_reducible refine rd_cl ?_) | (with_reducible refine rd_ck ?_) | (with_reducible refine rd_cb ?_)
  | (with_reducible refine rd_ret ?_) | (with_reducible refine rd_drop ?_) | (with_reducible refine rd_ifs ?_) | (with_reducible refine rd_if ?_) | (with_reducible refine rd_test ?_) | (with_reducible refine rd_tb ?_) | (with_reducible refine rd_and ?_) | (with_reducible refine rd_or ?_)
  | (with_reducible refine rd_not ?_) | (with_reducible refine rd_andV ?_) | (with_reducible refine rd_orV ?_) | (with_reducible refine rd_notV ?_) | (with_reducible refine rd_chain ?_) | (with_reducible refine rd_tup ?_) | (with_reducible refine rd_lst ?_)
  | (with_reducible refine rd_bm0 ?_) | (with_reducible refine rd_bm ?_) | (with_reducible refine rd_sl ?_) | (with_reducible refine rd_part ?_) | (with_reducible refine rd_nopart ?_) | (with_reducible refine rd_dget ?_) | (with_reducible refine rd_dput ?_)
  | (with_reducible refine rd_next ?_) | (with_reducible refine rd_lc ?_) | ((with_reducible refine' rd_aug ?hv ?_); (case hv => exact rfl)) | (with_reducible refine rd_cont ?_) | (with_reducible refine rd_gcons ?_) | (with_reducible refine rd_gnil ?_) | (with_reducible refine rd_ifT ?_) | (with_reducible refine rd_yes ?_) | (with_reducible refine rd_tru ?_) | (with_reducible refine rd_cntE ?_) | (with_reducible refine rd_rng1 ?_) | (with_reducible refine rd_lrg ?_) | (with_reducible refine rd_rg2 ?_) | (with_reducible refine rd_back ?_) | (with_reducible refine rd_disp ?_) | (with_reducible refine rd_prN ?_) | (with_reducible refine rd_prC ?_) | (with_reducible refine rd_par ?_) | (with_reducible refine rd_par3 ?_) | (with_reducible refine rd_two ?_) | (with_reducible refine rd_three ?_) | (with_reducible refine rd_one ?_) | (with_reducible refine rd_onei ?_) | (with_reducible refine rd_iL ?_) | (with_reducible refine rd_iT ?_) | (with_reducible refine rd_rng2 ?_) | (with_reducible refine rd_bl ?_) | (with_reducible refine rd_int ?_) | (with_reducible refine rd_I0 ?_) | (with_reducible refine rd_U ?_) | (with_reducible refine rd_din ?_) | (with_reducible refine rd_dnin ?_) | (with_reducible refine rd_dnew ?_) | (with_reducible refine rd_lset ?_) | (with_reducible refine rd_enT ?_) | (with_reducible refine rd_idx ?_) | (with_reducible refine rd_rg1 ?_) | (with_reducible refine rd_tupRg ?_)))

section
variable {P : Program} {w : World} {K : PySem.W.Frag} {mg : Str → Option Value} {base : Heap}
/-! ### first_turn -/
def spFirst (K : PySem.W.Frag) : Sp := fun vs H Q _ => ∃ (a : Addr) (m : List Int), vs = [.ref a] ∧ SqT K H a (m.map V.int) ∧ m.length ≤ 10000 ∧ ∀ (k : Nat) H', Same H H' → IsTurn m k → Q (.int (k : Int)) H'
abbrev s_first_turn : Stmt := top 18
abbrev N_first_turn : List Str := ["letters", "size", "twice", "best", "rival", "same", "mine", "its"]
theorem sc_first_turn : FnScope ["letters", "size", "twice", "best", "rival", "same", "mine", "its"] ["letters"] (defScope s_first_turn) := ⟨rfl, rfl, rfl, by decide +kernel, rfl, by decide +kernel, by decide +kernel⟩
theorem bd_first_turn : Bnd s_first_turn "first_turn" ["letters"] := fun _ _ _ _ _ _ us hl => match us, hl with | [_], _ => rfl

theorem d_first_turn (T : Bs K mg) (R : Rw K mg "first_turn" s_first_turn) : Df P w K mg base CX0 1 "first_turn" s_first_turn ["letters"] (spFirst K) := by
  refine mk0 R sc_first_turn bd_first_turn (fun vs H Q E h => ?_) fun f cdv A outer s H vs Q E hr h => ?_
  · obtain ⟨a, xs, rfl, _⟩ := h; rfl
  obtain ⟨a, m, rfl, hS, hz, q⟩ := h
  refine ⟨_, (pss_cons (ps_set (i := 1) sc_first_turn.nd rfl (Or.inl rfl) (pe_callB call_len (by rfl) T.n_len (by decide +kernel) (pa_cons (pv 0) pa_nil)))
      (pss_cons (ps_set (i := 2) sc_first_turn.nd rfl (Or.inl rfl) (pe_op op_addU (pv 0) (pv 0)))
      (pss_cons (ps_set (i := 3) sc_first_turn.nd rfl (Or.inl rfl) pe_int)
      (pss_cons (ps_set (i := 4) sc_first_turn.nd rfl (Or.inl rfl) pe_int)
      (pss_cons (ps_set (i := 5) sc_first_turn.nd rfl (Or.inl rfl) pe_int)
      (pss_cons (ps_while PassesOwn.never (PW.pt (pw_and (pt_cmpR op_lt (pv 3) (pv 1) (nomark _)) (pw_and (pt_cmpR op_lt (pv 4) (pv 1) (nomark _)) (pw_and1 (pt_cmpR op_lt (pv 5) (pv 1) (nomark _)))))) (pss_cons (ps_set (i := 6) sc_first_turn.nd rfl (Or.inl rfl) (pe_ix ix_seq (pv 2) (pe_op op_addU (pv 3) (pv 5)) (fun _ _ => rfl)))
        (pss_cons (ps_set (i := 7) sc_first_turn.nd rfl (Or.inl rfl) (pe_ix ix_seq (pv 2) (pe_op op_addU (pv 4) (pv 5)) (fun _ _ => rfl)))
        (pss_cons (ps_if (pt_cmpR (op_eqU hr.units) (pv 6) (pv 7) (nomark _)) (pss_cons (ps_aug (i := 5) sc_first_turn.nd rfl (Or.inl rfl) pe_int ip_add)
          (pss_one ps_continue)) pss_nil)
        (pss_cons (ps_if (pt_cmpR op_lt (pv 6) (pv 7) (nomark _)) (pss_one (ps_aug (i := 4) sc_first_turn.nd rfl (Or.inl rfl) (pe_op op_addU (pv 5) pe_int) ip_add)) (pss_one (ps_aug (i := 3) sc_first_turn.nd rfl (Or.inl rfl) (pe_op op_addU (pv 5) pe_int) ip_add)))
        (pss_cons (ps_if (pt_cmpR (op_eqU hr.units) (pv 3) (pv 4) (nomark _)) (pss_one (ps_aug (i := 4) sc_first_turn.nd rfl (Or.inl rfl) pe_int ip_add)) pss_nil)
        (pss_one (ps_set (i := 5) sc_first_turn.nd rfl (Or.inl rfl) pe_int))))))))
      (pss_one (ps_ret (pe_callB (call_min2 rfl) (by rfl) T.n_min (by decide +kernel) (pa_cons (pv 3) (pa_cons (pv 4) pa_nil))))))))))), ?_⟩
  have at2 : ∀ i : Nat, i < m.length + m.length → atI (m.map V.int ++ m.map V.int) (i : Int) = some (.int (seq m i)) := fun i hi => by
    have h1 : ixN (m.map V.int ++ m.map V.int).length (i : Int) = some i := by
      unfold ixN
      rw [if_pos (by omega), if_pos (by simp only [List.length_append, List.length_map]; omega)]
      all_goals rfl
    unfold atI
    rw [h1]
    show (m.map V.int ++ m.map V.int)[i]? = _
    unfold seq
    by_cases z : i < m.length
    · rw [List.getElem?_append_left (by rw [List.length_map]; exact z), List.getElem?_map, Nat.mod_eq_of_lt z, List.getD_eq_getElem?_getD, List.getElem?_eq_getElem z] <;> rfl
    · rw [List.getElem?_append_right (by rw [List.length_map]; omega), List.getElem?_map, List.length_map, Nat.mod_eq_sub_mod (by omega), Nat.mod_eq_of_lt (by omega), List.getD_eq_getElem?_getD, List.getElem?_eq_getElem (show i - m.length < m.length by omega)] <;> rfl
  walk_at "rd"
  refine lenT hS ?_
  rw [List.length_map]
  walk_at "rd"
  refine catS hS hS (by simp only [List.length_map]; omega) fun p H1 s1 t1 => ?_
  walk_at "rd"
  refine ⟨fun mu σ H' => ∃ (best rival same : Nat) (y6 y7 : Option V), σ = [some (.ref a), some (.int (m.length : Int)), some (.ref p), some (.int (best : Int)), some (.int (rival : Int)), some (.int (same : Int)), y6, y7] ∧ H' = H1 ∧ XN.Run m.length (seq m) best rival same ∧
    (m.length = 0 → best = 0 ∧ rival = 1) ∧ (0 < m.length → best < m.length ∨ rival < m.length) ∧ best ≤ 2 * m.length + 1 ∧ rival ≤ 2 * m.length + 1 ∧ same ≤ m.length ∧ mu + best + rival + same = 6 * m.length + 10, ⟨6 * m.length + 9, 0, 1, 0, none, none, rfl, rfl, XN.run_start, by omega, by omega, by omega, by omega, by omega, by omega⟩, fun mu σ H' h => ?_⟩
  obtain ⟨best, rival, same, y6, y7, rfl, rfl, run, h0, h1, b1, b2, b3, hm⟩ := h
  walk_at "rd"
  have fin : ¬ (best < m.length ∧ rival < m.length ∧ same < m.length) → Q (.int (if (rival : Int) < (best : Int) then (rival : Int) else (best : Int))) H' := fun hn => by
    have e : (if (rival : Int) < (best : Int) then (rival : Int) else (best : Int)) = ((min best rival : Nat) : Int) := by
      split <;> omega
    rw [e]
    refine q _ H' s1 ?_
    by_cases z : m.length = 0
    · left
      have := h0 z
      exact ⟨List.eq_nil_of_length_eq_zero z, by omega⟩
    · right
      rcases XN.run_end (by omega) (seq_per m) run hn with h | h
      · exact ⟨h.1, h.2, fun j hj => run.nl j (by omega) (by omega) (by omega)⟩
      · have := h1 (by omega)
        omega
  have out : ∀ b : Bool, b = false → ¬ (best < m.length ∧ rival < m.length ∧ same < m.length) → if b = true then False else Q (.int (if (rival : Int) < (best : Int) then (rival : Int) else (best : Int))) H' := fun b e hn => by
    rw [e]
    exact iteF (fin hn)
  refine rd_ite (fun e1 => ?_) fun e1 => ?_
  rotate_left
  · refine iteF ?_
    walk_at "rd"
    exact ⟨_, _, rfl, fin fun z => by simp at e1; omega⟩
  walk_at "rd"
  refine rd_ite (fun e2 => ?_) fun e2 => ?_
  rotate_left
  · refine iteF ?_
    walk_at "rd"
    exact ⟨_, _, rfl, fin fun z => by simp at e2; omega⟩
  walk_at "rd"
  refine rd_ite (fun e3 => ?_) fun e3 => ?_
  rotate_left
  · walk_at "rd"
    exact ⟨_, _, rfl, fin fun z => by simp at e3; omega⟩
  have e1 : best < m.length := by simpa using e1
  have e2 : rival < m.length := by simpa using e2
  have e3 : same < m.length := by simpa using e3
  refine ⟨fun σ' H'' => ∃ m', m' < mu ∧ ∃ (best rival same : Nat) (y6 y7 : Option V), σ' = [some (.ref a), some (.int (m.length : Int)), some (.ref p), some (.int (best : Int)), some (.int (rival : Int)), some (.int (same : Int)), y6, y7] ∧ H'' = H' ∧ XN.Run m.length (seq m) best rival same ∧
    (m.length = 0 → best = 0 ∧ rival = 1) ∧ (0 < m.length → best < m.length ∨ rival < m.length) ∧ best ≤ 2 * m.length + 1 ∧ rival ≤ 2 * m.length + 1 ∧ same ≤ m.length ∧ m' + best + rival + same = 6 * m.length + 10, fun _ _ h => h, ?_⟩
  walk_at "rd"
  refine rd_addI ?_
  refine rd_ixT t1 (v := .int (seq m (best + same))) (by have := at2 (best + same) (by omega); rw [← this] <;> congr 1) ?_
  walk_at "rd"
  refine rd_addI ?_
  refine rd_ixT t1 (v := .int (seq m (rival + same))) (by have := at2 (rival + same) (by omega); rw [← this] <;> congr 1) ?_
  walk_at "rd"
  refine rd_eqI ?_
  walk_at "rd"
  refine rd_ite (fun e4 => ?_) fun e4 => ?_
  · have e4 := of_decide_eq_true e4
    walk_at "rd"
    exact ⟨mu - 1, by omega, best, rival, same + 1, _, _, rfl, rfl, XN.run_same run e4, h0, h1, b1, b2, by omega, by omega⟩
  have e4 := of_decide_eq_false e4
  walk_at "rd"
  refine rd_ite (fun e5 => ?_) fun e5 => ?_
  · have e5 := of_decide_eq_true e5
    have r2 := XN.run_next run e3 e5
    walk_at "rd"
    refine rd_addI ?_
    walk_at "rd"
    refine rd_eqI ?_
    walk_at "rd"
    refine rd_ite (fun e6 => ?_) fun e6 => ?_
    · have e6 : best = rival + same + 1 := by have := of_decide_eq_true e6; omega
      rw [if_pos e6] at r2
      walk_at "rd"
      exact ⟨mu - 2, by omega, best, rival + same + 1 + 1, 0, _, _, by rw [show ((rival + same + 1 + 1 : Nat) : Int) = (rival : Int) + ((same : Int) + 1) + 1 by omega] <;> rfl, rfl, r2, by omega, by omega, by omega, by omega, by omega, by omega⟩
    · have e6 : ¬ best = rival + same + 1 := by have := of_decide_eq_false e6; omega
      rw [if_neg e6] at r2
      walk_at "rd"
      exact ⟨mu - 1, by omega, best, rival + same + 1, 0, _, _, by rw [show ((rival + same + 1 : Nat) : Int) = (rival : Int) + ((same : Int) + 1) by omega] <;> rfl, rfl, r2, by omega, by omega, by omega, by omega, by omega, by omega⟩
  · have e5 := of_decide_eq_false e5
    have r2 := XN.run_next2 run e3 (by omega)
    walk_at "rd"
    refine rd_addI ?_
    walk_at "rd"
    refine rd_eqI ?_
    walk_at "rd"
    refine rd_ite (fun e6 => ?_) fun e6 => ?_
    · have e6 : best + same + 1 = rival := by have := of_decide_eq_true e6; omega
      rw [if_pos e6] at r2
      walk_at "rd"
      exact ⟨mu - 2, by omega, best + same + 1, rival + 1, 0, _, _, by rw [show ((best + same + 1 : Nat) : Int) = (best : Int) + ((same : Int) + 1) by omega] <;> rfl, rfl, r2, by omega, by omega, by omega, by omega, by omega, by omega⟩
    · have e6 : ¬ best + same + 1 = rival := by have := of_decide_eq_false e6; omega
      rw [if_neg e6] at r2
      walk_at "rd"
      exact ⟨mu - 1, by omega, best + same + 1, rival, 0, _, _, by rw [show ((best + same + 1 : Nat) : Int) = (best : Int) + ((same : Int) + 1) by omega] <;> rfl, rfl, r2, by omega, by omega, by omega, by omega, by omega, by omega⟩
theorem at_nat {l : List Int} {i : Nat} (h : i < l.length) : atI (l.map V.int) (i : Int) = some (.int (l.getD i 0)) := by
  have h1 : ixN (l.map V.int).length (i : Int) = some i := by
    unfold ixN
    rw [if_pos (by omega), if_pos (by rw [List.length_map]; omega)]
    all_goals rfl
  unfold atI
  rw [h1]
  show (l.map V.int)[i]? = _
  rw [List.getElem?_map, List.getD_eq_getElem?_getD, List.getElem?_eq_getElem h] <;> rfl
theorem cut_mid {xs : List V} {a b : Nat} (h1 : a ≤ b) (h2 : b ≤ xs.length) : cutV xs (some (a : Int)) (some (b : Int)) = (xs.take b).drop a := by
  unfold cutV
  rw [HT.sIx_nat, HT.sIx_nat, Nat.min_eq_left h2, Nat.min_eq_left (Nat.le_trans h1 h2), List.drop_take]
/-! ### ring_and_way -/
def spWay (K : PySem.W.Frag) : Sp := fun vs H Q _ => ∃ (a : Addr) (u : List Int), vs = [.ref a] ∧ SqT K H a (u.map V.int) ∧ u.length ≤ 1000 ∧
  ∀ (p r v : Addr) (rg way : List Int) H', Same H H' → H' p = some (.tup [.ref r, .ref v]) → SqT K H' r (rg.map V.int) → SqT K H' v (way.map V.int) → IsRing u rg → IsWay u way → red (way ++ rg ++ inv way) = red u → (∀ x ∈ rg, x ∈ u) → (∀ x ∈ way, x ∈ u) → rg.length ≤ u.length → way.length ≤ u.length → Q (.ref p) H'
abbrev s_ring_and_way : Stmt := top 19
abbrev N_ring_and_way : List Str := ["row", "last", "off", "middle", "start"]
theorem sc_ring_and_way : FnScope ["row", "last", "off", "middle", "start"] ["row"] (defScope s_ring_and_way) := ⟨rfl, rfl, rfl, by decide +kernel, rfl, by decide +kernel, by decide +kernel⟩
theorem bd_ring_and_way : Bnd s_ring_and_way "ring_and_way" ["row"] := fun _ _ _ _ _ _ us hl => match us, hl with | [_], _ => rfl

theorem d_ring_and_way (T : Bs K mg) (R : Rw K mg "ring_and_way" s_ring_and_way) (D_first_turn : Df P w K mg base CX0 1 "first_turn" s_first_turn ["letters"] (spFirst K)) : Df P w K mg base CX0 2 "ring_and_way" s_ring_and_way ["row"] (spWay K) := by
  refine mk0 R sc_ring_and_way bd_ring_and_way (fun vs H Q E h => ?_) fun f cdv A outer s H vs Q E hr h => ?_
  · obtain ⟨a, xs, rfl, _⟩ := h; rfl
  obtain ⟨a, u, rfl, hS, hz, q⟩ := h
  refine ⟨_, (pss_cons (ps_set (i := 1) sc_ring_and_way.nd rfl (Or.inl rfl) (pe_op op_sub (pe_callB call_len (by rfl) T.n_len (by decide +kernel) (pa_cons (pv 0) pa_nil)) pe_int))
      (pss_cons (ps_set (i := 2) sc_ring_and_way.nd rfl (Or.inl rfl) pe_int)
      (pss_cons (ps_while PassesOwn.never (PW.pt (pw_and (pt_cmpR op_lt (pv 2) (pe_op op_sub (pv 1) (pv 2)) (nomark _)) (pw_and1 (pt_cmpR (op_eqU hr.units) (pe_ix ix_seq (pv 0) (pv 2) (fun _ _ => rfl)) (pe_un un_neg (pe_ix ix_seq (pv 0) (pe_op op_sub (pv 1) (pv 2)) (fun _ _ => rfl))) (nomark _))))) (pss_one (ps_aug (i := 2) sc_ring_and_way.nd rfl (Or.inl rfl) pe_int ip_add)))
      (pss_cons (ps_set (i := 3) sc_ring_and_way.nd rfl (Or.inl rfl) (pe_slice sl_U (pv 0) (po_some (pv 2)) (po_some (pe_op op_sub (pe_callB call_len (by rfl) T.n_len (by decide +kernel) (pa_cons (pv 0) pa_nil)) (pv 2)))))
      (pss_cons (ps_set (i := 4) sc_ring_and_way.nd rfl (Or.inl rfl) (pe_d D_first_turn hr (by decide) (by rfl) pass0 (pa_cons (pv 3) pa_nil)))
      (pss_one (ps_ret (pe_tup (pa_cons (pe_op op_addU (pe_slice sl_U (pv 3) (po_some (pv 4)) po_none) (pe_slice sl_U (pv 3) po_none (po_some (pv 4)))) (pa_cons (pe_slice sl_U (pv 0) po_none (po_some (pe_op op_addU (pv 2) (pv 4)))) pa_nil)))))))))), ?_⟩
  walk_at "rd"
  refine lenT hS ?_
  rw [List.length_map]
  walk_at "rd"
  refine ⟨fun mu σ H' => ∃ (off : Nat) (y3 y4 : Option V), σ = [some (.ref a), some (.int ((u.length : Int) - 1)), some (.int (off : Int)), y3, y4] ∧ H' = H ∧ (∀ i, i < off → Cx u i) ∧ mu + off = u.length + 1, ⟨u.length + 1, 0, none, none, rfl, rfl, fun i hi => by omega, by omega⟩, fun mu σ H' h => ?_⟩
  obtain ⟨off, y3, y4, rfl, rfl, ho, hm⟩ := h
  have h2 := off_le ho
  walk_at "rd"
  refine rd_exit (P := ¬ Cx u off) (fun hn => ?_) fun ex => ?_
  rotate_left
  · refine rd_ite (fun e1 => ?_) fun e1 => ?_
    · have e1 : off < u.length - 1 - off := by have := of_decide_eq_true e1; omega
      walk_at "rd"
      refine rd_ixT hS (v := .int (u.getD off 0)) (at_nat (by omega)) ?_
      walk_at "rd"
      refine rd_ixT hS (v := .int (u.getD (u.length - 1 - off) 0)) (by rw [show (u.length : Int) - 1 - (off : Int) = ((u.length - 1 - off : Nat) : Int) by omega]; exact at_nat (by omega)) ?_
      walk_at "rd"
      refine rd_eqI ?_
      walk_at "rd"
      refine rd_ite (fun e2 => ?_) fun e2 => ?_
      · have e2 := of_decide_eq_true e2
        refine ⟨fun σ' H'' => ∃ m', m' < mu ∧ ∃ (off : Nat) (y3 y4 : Option V), σ' = [some (.ref a), some (.int ((u.length : Int) - 1)), some (.int (off : Int)), y3, y4] ∧ H'' = H' ∧ (∀ i, i < off → Cx u i) ∧ m' + off = u.length + 1, fun _ _ h => h, ?_⟩
        walk_at "rd"
        refine ⟨mu - 1, by omega, off + 1, _, _, rfl, rfl, fun i hi => ?_, by omega⟩
        by_cases z : i = off
        · rw [z]; exact ⟨e1, e2⟩
        · exact ho i (by omega)
      · exact ex fun z => of_decide_eq_false e2 z.2
    · exact ex fun z => by have := of_decide_eq_false e1; have := z.1; omega
  have hio : IsOff u off := ⟨ho, hn⟩
  dsimp only
  walk_at "rd"
  refine lenT hS ?_
  rw [List.length_map]
  walk_at "rd"
  rw [show (u.length : Int) - (off : Int) = ((u.length - off : Nat) : Int) by omega]
  refine slS hS fun p1 H1 s1 t1 => ?_
  have cl : (core u off).length ≤ u.length := by
    unfold core
    rw [List.length_drop, List.length_take]
    omega
  rw [cut_mid (by omega) (by rw [List.length_map]; omega), ← List.map_take, ← List.map_drop] at t1
  have t1 : SqT K H1 p1 ((core u off).map V.int) := t1
  walk_at "rd"
  refine ⟨p1, core u off, rfl, t1, by omega, fun k H2 s2 hk => ?_⟩
  walk_at "rd"
  have hk2 : k ≤ (core u off).length := by
    rcases hk with ⟨e, z⟩ | ⟨z, _, _⟩
    · omega
    · omega
  refine slS (sqT_same s2 t1) fun p3 H3 s3 t3 => ?_
  walk_at "rd"
  refine slS (sqT_same (s2.trans s3) t1) fun p4 H4 s4 t4 => ?_
  rw [cut_hi (by rw [List.length_map]; exact hk2), ← List.map_drop] at t3
  rw [cut_lo (by rw [List.length_map]; exact hk2), ← List.map_take] at t4
  refine catS (sqT_same s4 t3) t4 (by simp only [List.length_map, List.length_drop, List.length_take]; omega) fun p5 H5 s5 t5 => ?_
  rw [← List.map_append] at t5
  walk_at "rd"
  refine rd_addI ?_
  walk_at "rd"
  refine slS (sqT_same (s1.trans (s2.trans (s3.trans (s4.trans s5)))) hS) fun p6 H6 s6 t6 => ?_
  have ok : off + k ≤ u.length := by
    have : (core u off).length = u.length - off - off := by
      unfold core
      rw [List.length_drop, List.length_take]
      omega
    omega
  rw [show (off : Int) + (k : Int) = ((off + k : Nat) : Int) by omega, cut_lo (by rw [List.length_map]; exact ok), ← List.map_take] at t6
  walk_at "rd"
  refine ⟨lz (by simp), fun p7 h7 => ?_⟩
  obtain ⟨s7, e7⟩ := new_at (o := .tup [.ref p5, .ref p6]) h7
  generalize upd H6 p7 (.tup [.ref p5, .ref p6]) = H7 at s7 e7 ⊢
  have lc : (core u off).length = u.length - off - off := by
    unfold core
    rw [List.length_drop, List.length_take]
    omega
  have hk3 : k ≤ u.length - off - off := by omega
  have ew : u.take (off + k) = u.take off ++ (core u off).take k := by
    unfold core
    rw [List.take_add, List.drop_take, List.take_take, Nat.min_eq_left hk3]
  have mem_core : ∀ x ∈ core u off, x ∈ u := fun x hx => List.mem_of_mem_take (List.mem_of_mem_drop hx)
  refine q p7 p5 p6 (rot (core u off) k) (u.take (off + k)) H7 (s1.trans (s2.trans (s3.trans (s4.trans (s5.trans (s6.trans s7)))))) e7 (sqT_same (s6.trans s7) t5) (sqT_same s7 t6) ⟨off, hio, ?_⟩ ⟨off, k, hio, hk, rfl⟩ (by rw [ew]; exact way_of ho) (fun x hx => ?_) (fun x hx => List.mem_of_mem_take hx) (by rw [rot_len hk2]; exact cl) (by rw [List.length_take]; omega)
  · rcases hk with ⟨e, z⟩ | ⟨z, hnl, _⟩
    · refine .inl ⟨e, ?_⟩
      rw [e]
      simp [rot]
    · exact .inr ⟨k, z, rfl, fun j hj => rot_least z hnl hj⟩
  · rcases List.mem_append.mp hx with h | h
    · exact mem_core x (List.mem_of_mem_drop h)
    · exact mem_core x (List.mem_of_mem_take h)
/-! ### ring_of -/
def spRingOf (K : PySem.W.Frag) : Sp := fun vs H Q E => ∃ (v1 : V) (d1 : Dat) (v2 : V) (d2 : Dat), vs = [v1, v2] ∧ Rp K H v1 d1 ∧ Rp K H v2 d2 ∧
  (d1.from 1 4 = false → E (eDeeds K) none H) ∧ ∀ n, d1 = .flat (.int n) → d1.from 1 4 = true → (d2.row n = false → ∀ H', Same H H' → E (eRow K) none H') ∧
    ∀ xs : List Int, d2 = .tup (xs.map V.int) → d2.row n = true → ∀ p rg H', Same H H' → SqT K H' p (rg.map V.int) → IsRing (red xs) rg → rg.length ≤ 200 → Q (.ref p) H'
abbrev s_ring_of : Stmt := top 20
abbrev N_ring_of : List Str := ["deeds", "row", "ring", "_"]
theorem sc_ring_of : FnScope ["deeds", "row", "ring", "_"] ["deeds", "row"] (defScope s_ring_of) := ⟨rfl, rfl, rfl, by decide +kernel, rfl, by decide +kernel, by decide +kernel⟩
theorem bd_ring_of : Bnd s_ring_of "ring_of" ["deeds", "row"] := fun _ _ _ _ _ _ us hl => match us, hl with | [_, _], _ => rfl

theorem d_ring_of (T : Bs K mg) (R : Rw K mg "ring_of" s_ring_of) (D_check_deeds : Df P w K mg base (L2.CX P w) 3 "check_deeds" s_check_deeds ["deeds"] (spDeeds K))
    (D_taken_row : Df P w K mg base (L2.CX P w) 6 "taken_row" s_taken_row ["deeds", "row"] (spTaken K)) (D_ring_and_way : Df P w K mg base CX0 2 "ring_and_way" s_ring_and_way ["row"] (spWay K)) :
    Df P w K mg base (L2.CX P w) 7 "ring_of" s_ring_of ["deeds", "row"] (spRingOf K) := by
  refine mkX R sc_ring_of bd_ring_of (fun vs H Q E h => ?_) fun f cdv A outer s H vs Q E hr h => ?_
  · obtain ⟨v1, d1, v2, d2, rfl, _⟩ := h; rfl
  obtain ⟨v1, d1, v2, d2, rfl, h1, h2, q0, q1⟩ := h
  refine ⟨_, (pss_cons (ps_expr (pe_d D_check_deeds hr (by decide) (by rfl) passX (pa_cons (pv 0) pa_nil)))
      (pss_cons (ps_asg (pe_d D_ring_and_way hr (by decide) (by rfl) pass0 (pa_cons (pe_d D_taken_row hr (by decide) (by rfl) passX (pa_cons (pv 0) (pa_cons (pv 1) pa_nil))) pa_nil)) (pg_tup (by rfl) (pgs_cons (pg_name (i := 2) sc_ring_of.nd rfl (Or.inl rfl)) (pgs_cons (pg_name (i := 3) sc_ring_of.nd rfl (Or.inl rfl)) pgs_nil))))
      (pss_one (ps_ret (pv 2))))), ?_⟩
  walk_at "rd"
  refine ⟨v1, d1, rfl, h1, fun e => ?_, q0⟩
  obtain ⟨n, rfl, b1, b2⟩ := Dat.from_int e
  obtain ⟨rfl, _⟩ := h1
  walk_at "rd"
  obtain ⟨q2, q3⟩ := q1 n rfl e
  refine ⟨n, v2, d2, rfl, h2, fun xs e2 e3 p H1 s1 t1 => ?_, q2⟩
  have hl : xs.length ≤ 200 := row_len (by rw [← e2]; exact e3)
  have hr2 := red_len xs
  walk_at "rd"
  refine ⟨p, red xs, rfl, t1.sqT, by omega, fun p2 r v rg way H2 s2 a1 a2 a3 a4 aw a5 a6 a7 a8 a9 => ?_⟩
  refine ⟨p2, _, rfl, .inl (.inl a1), rfl, ?_⟩
  walk_at "rd"
  exact q3 xs e2 e3 r rg H2 (s1.trans s2) a2 a4 (by omega)
/-! ### turner -/
def spTurner (K : PySem.W.Frag) : Sp := fun vs H Q E => ∃ (v1 : V) (d1 : Dat) (v2 : V) (d2 : Dat) (v3 : V) (d3 : Dat), vs = [v1, v2, v3] ∧ Rp K H v1 d1 ∧ Rp K H v2 d2 ∧ Rp K H v3 d3 ∧
  (d1.from 1 4 = false → E (eDeeds K) none H) ∧ ∀ n, d1 = .flat (.int n) → d1.from 1 4 = true → (d2.row n = false → ∀ H', Same H H' → E (eRow K) none H') ∧ (d3.row n = false → ∀ H', Same H H' → E (eRow K) none H') ∧
    ∀ xs ys : List Int, d2 = .tup (xs.map V.int) → d2.row n = true → d3 = .tup (ys.map V.int) → d3.row n = true →
      (∀ p b by_ g wx wy H', Same H H' → IsWay (red xs) wx → IsWay (red ys) wy → by_ = red (wy ++ inv wx) → H' p = some (.tup [.str "turned", .ref b]) → SqT K H' b (by_.map V.int) → by_ = red by_ → by_.length ≤ 400 → (∀ x ∈ by_, x ∈ red xs ∨ -x ∈ red xs ∨ x ∈ red ys ∨ -x ∈ red ys) → IsRing (red xs) g → IsRing (red ys) g → red (by_ ++ red xs ++ inv by_) = red ys → Q (.ref p) H') ∧
      (∀ p a b g h H', Same H H' → H' p = some (.tup [.str "unlike", .ref a, .ref b]) → SqT K H' a (g.map V.int) → SqT K H' b (h.map V.int) → g.length ≤ 200 → h.length ≤ 200 → IsRing (red xs) g → IsRing (red ys) h → g ≠ h → Q (.ref p) H')
abbrev s_turner : Stmt := top 21
abbrev N_turner : List Str := ["deeds", "one", "other", "first", "second", "ring", "way", "goal", "goal_way"]
theorem sc_turner : FnScope ["deeds", "one", "other", "first", "second", "ring", "way", "goal", "goal_way"] ["deeds", "one", "other"] (defScope s_turner) := ⟨rfl, rfl, rfl, by decide +kernel, rfl, by decide +kernel, by decide +kernel⟩
theorem bd_turner : Bnd s_turner "turner" ["deeds", "one", "other"] := fun _ _ _ _ _ _ us hl => match us, hl with | [_, _, _], _ => rfl

theorem d_turner (T : Bs K mg) (R : Rw K mg "turner" s_turner) (D_check_deeds : Df P w K mg base (L2.CX P w) 3 "check_deeds" s_check_deeds ["deeds"] (spDeeds K))
    (D_taken_row : Df P w K mg base (L2.CX P w) 6 "taken_row" s_taken_row ["deeds", "row"] (spTaken K)) (D_ring_and_way : Df P w K mg base CX0 2 "ring_and_way" s_ring_and_way ["row"] (spWay K))
    (D_plain_letters : Df P w K mg base CX0 1 "plain_letters" s_plain_letters ["letters"] (spPlain K)) (D_undone_letters : Df P w K mg base CX0 1 "undone_letters" s_undone_letters ["letters"] (spUndone K)) :
    Df P w K mg base (L2.CX P w) 7 "turner" s_turner ["deeds", "one", "other"] (spTurner K) := by
  refine mkX R sc_turner bd_turner (fun vs H Q E h => ?_) fun f cdv A outer s H vs Q E hr h => ?_
  · obtain ⟨v1, d1, v2, d2, v3, d3, rfl, _⟩ := h; rfl
  obtain ⟨v1, d1, v2, d2, v3, d3, rfl, h1, h2, h3, q0, q1⟩ := h
  refine ⟨_, (pss_cons (ps_expr (pe_d D_check_deeds hr (by decide) (by rfl) passX (pa_cons (pv 0) pa_nil)))
      (pss_cons (ps_set (i := 3) sc_turner.nd rfl (Or.inl rfl) (pe_d D_taken_row hr (by decide) (by rfl) passX (pa_cons (pv 0) (pa_cons (pv 1) pa_nil))))
      (pss_cons (ps_set (i := 4) sc_turner.nd rfl (Or.inl rfl) (pe_d D_taken_row hr (by decide) (by rfl) passX (pa_cons (pv 0) (pa_cons (pv 2) pa_nil))))
      (pss_cons (ps_asg (pe_d D_ring_and_way hr (by decide) (by rfl) pass0 (pa_cons (pv 3) pa_nil)) (pg_tup (by rfl) (pgs_cons (pg_name (i := 5) sc_turner.nd rfl (Or.inl rfl)) (pgs_cons (pg_name (i := 6) sc_turner.nd rfl (Or.inl rfl)) pgs_nil))))
      (pss_cons (ps_asg (pe_d D_ring_and_way hr (by decide) (by rfl) pass0 (pa_cons (pv 4) pa_nil)) (pg_tup (by rfl) (pgs_cons (pg_name (i := 7) sc_turner.nd rfl (Or.inl rfl)) (pgs_cons (pg_name (i := 8) sc_turner.nd rfl (Or.inl rfl)) pgs_nil))))
      (pss_cons (ps_if (pt_cmpR (op_neU hr.units) (pv 5) (pv 7) (nomark _)) (pss_one (ps_ret (pe_tup (pa_cons pe_str (pa_cons (pv 5) (pa_cons (pv 7) pa_nil)))))) pss_nil)
      (pss_one (ps_ret (pe_tup (pa_cons pe_str (pa_cons (pe_d D_plain_letters hr (by decide) (by rfl) pass0 (pa_cons (pe_op op_addU (pv 8) (pe_d D_undone_letters hr (by decide) (by rfl) pass0 (pa_cons (pv 6) pa_nil))) pa_nil)) pa_nil))))))))))), ?_⟩
  walk_at "rd"
  refine ⟨v1, d1, rfl, h1, fun e => ?_, q0⟩
  obtain ⟨n, rfl, b1, b2⟩ := Dat.from_int e
  obtain ⟨rfl, _⟩ := h1
  walk_at "rd"
  obtain ⟨q2, q3, q4⟩ := q1 n rfl e
  refine ⟨n, v2, d2, rfl, h2, fun xs ex rx p1 H1 s1 t1 => ?_, q2⟩
  walk_at "rd"
  refine ⟨n, v3, d3, rfl, h3.same s1, fun ys ey ry p2 H2 s2 t2 => ?_, fun e3 H2 s2 => q3 e3 H2 (s1.trans s2)⟩
  obtain ⟨q5, q6⟩ := q4 xs ys ex rx ey ry
  have l1 := red_len xs
  have l2 := red_len ys
  have l3 := row_len (by rw [← ex]; exact rx)
  have l4 := row_len (by rw [← ey]; exact ry)
  walk_at "rd"
  refine ⟨p1, red xs, rfl, (t1.same s2).sqT, by omega, fun p3 r v rg way H3 s3 a1 a2 a3 a4 aw a5 a6 a7 a8 a9 => ?_⟩
  refine ⟨p3, _, rfl, .inl (.inl a1), rfl, ?_⟩
  walk_at "rd"
  refine ⟨p2, red ys, rfl, (t2.same s3).sqT, by omega, fun p4 r' v' rg' way' H4 s4 c1 c2 c3 c4 cw c5 c6 c7 c8 c9 => ?_⟩
  refine ⟨p4, _, rfl, .inl (.inl c1), rfl, ?_⟩
  walk_at "rd"
  refine neT (sqT_same s4 a2) c2 ?_
  walk_at "rd"
  refine rd_ite (fun en => ?_) fun en => ?_
  · walk_at "rd"
    refine ⟨lz (by simp), fun p5 h5 => ?_⟩
    obtain ⟨s5, e5⟩ := new_at (o := .tup [.str "unlike", .ref r, .ref r']) h5
    exact q6 p5 r r' rg rg' _ (s1.trans (s2.trans (s3.trans (s4.trans s5)))) e5 (sqT_same (s4.trans s5) a2) (sqT_same s5 c2) (by omega) (by omega) a4 c4 (by simpa using en)
  · have en : rg = rg' := by simpa using en
    subst en
    walk_at "rd"
    refine ⟨v, way, rfl, sqT_same s4 a3, by omega, fun p5 H5 s5 t5 => ?_⟩
    have w1 := inv_len way
    refine catS (sqT_same s5 c3) t5.sqT (by simp only [List.length_map]; omega) fun p6 H6 s6 t6 => ?_
    rw [← List.map_append] at t6
    walk_at "rd"
    refine ⟨p6, way' ++ inv way, rfl, t6, by simp only [List.length_append]; omega, fun p7 H7 s7 t7 => ?_⟩
    walk_at "rd"
    refine ⟨lz (by simp), fun p8 h8 => ?_⟩
    obtain ⟨s8, e8⟩ := new_at (o := .tup [.str "turned", .ref p7]) h8
    have w2 := red_len (way' ++ inv way)
    simp only [List.length_append] at w2
    refine q5 p8 p7 (red (way' ++ inv way)) rg way way' _ (s1.trans (s2.trans (s3.trans (s4.trans (s5.trans (s6.trans (s7.trans s8))))))) aw cw rfl e8 (sqT_same s8 t7.sqT) (red_red _).symm (by omega) (fun x hx => ?_) a4 c4 ?_
    · rcases List.mem_append.mp (red_mem hx) with h | h
      · exact .inr (.inr (.inl (c7 x h)))
      · obtain ⟨y, hy, rfl⟩ := List.mem_map.mp h
        rw [Int.neg_neg]
        exact .inr (.inl (a7 y (List.mem_reverse.mp hy)))
    · exact turn_of (by rw [a5, red_red]) (by rw [c5, red_red])
end
end KP

set_option linter.all false
set_option maxRecDepth 100000
set_option maxHeartbeats 4000000
namespace KP
open PySem PySem.Spec PyProof.Rows L2 XA XB XC XD XM XE XF XG XT XP
local macro_rules | `(tactic| walk_at "rd") => `(tactic| repeat (first
  | (with_reducible refine rd_seq ?_) | (with_reducible refine rd_asg ?_) | ((with_reducible refine' rd_var ?hv ?_); (case hv => exact rfl)) | (with_reducible refine rd_c ?_) | (with_reducible refine rd_gn ?_)
  | (with_reducible refine rd_op ?_) | (with_reducible refine rd_un ?_) | (with_reducible refine rd_cons ?_) | (with_reducible refine rd_nil ?_) | (with_reducible refine rd_cl ?_) | (with_reducible refine rd_ck ?_) | (with_reducible refine rd_cb ?_)
  | (with_reducible refine rd_ret ?_) | (with_reducible refine rd_drop ?_) | (with_reducible refine rd_ifs ?_) | (with_reducible refine rd_if ?_) | (with_reducible refine rd_test ?_) | (with_reducible refine rd_tb ?_) | (with_reducible refine rd_and ?_) | (with_reducible refine rd_or ?_)
  | (with_reducible refine rd_not ?_) | (with_reducible refine rd_andV ?_) | (with_reducible refine rd_orV ?_) | (with_reducible refine rd_notV ?_) | (with_reducible refine rd_chain ?_) | (with_reducible refine rd_tup ?_) | (with_reducible refine rd_lst ?_)
  | (with_reducible refine rd_bm0 ?_) | (with_reducible refine rd_bm ?_) | (with_reducible refine rd_sl ?_) | (with_reducible refine rd_part ?_) | (with_reducible refine rd_nopart ?_) | (with_reducible refine rd_dget ?_) | (with_reducible refine rd_dput ?_)
  | (with_reducible refine rd_next ?_) | (with_reducible refine rd_lc ?_) | ((with_reducible refine' rd_aug ?hv ?_); (case hv => exact rfl)) | (with_reducible refine rd_cont ?_) | (with_reducible refine rd_gcons ?_) | (with_reducible refine rd_gnil ?_) | (with_reducible refine rd_ifT ?_) | (with_reducible refine rd_yes ?_) | (with_reducible refine rd_tru ?_) | (with_reducible refine rd_cntE ?_) | (with_reducible refine rd_rng1 ?_) | (with_reducible refine rd_lrg ?_) | (with_reducible refine rd_rg2 ?_) | (with_reducible refine rd_back ?_) | (with_reducible refine rd_disp ?_) | (with_reducible refine rd_prN ?_) | (with_reducible refine rd_prC ?_) | (with_reducible refine rd_par ?_) | (with_reducible refine rd_par3 ?_) | (with_reducible refine rd_two ?_) | (with_reducible refine rd_three ?_) | (with_reducible refine rd_one ?_) | (with_reducible refine rd_onei ?_) | (with_reducible refine rd_iL ?_) | (with_reducible refine rd_iT ?_) | (with_reducible refine rd_rng2 ?_) | (with_reducible refine rd_bl ?_) | (with_reducible refine rd_int ?_) | (with_reducible refine rd_I0 ?_) | (with_reducible refine rd_U ?_) | (with_reducible refine rd_din ?_) | (with_reducible refine rd_dnin ?_) | (with_reducible refine rd_dnew ?_) | (with_reducible refine rd_lset ?_) | (with_reducible refine rd_enT ?_) | (with_reducible refine rd_idx ?_) | (with_reducible refine rd_rg1 ?_) | (with_reducible refine rd_tupRg ?_)))

/-! ### lists of tuples as data -/
abbrev dLs (xss : List (List Int)) : List PyData := xss.map fun xs => PyData.tuple (dI xs)
theorem can_dL : ∀ xss : List (List Int), PyData.canLayAll0 (dLs xss) = true
  | [] => by simp [dLs, PyData.canLayAll0]
  | x :: xss => by
    have h1 := can_dL xss
    have h2 := can_dI x
    simp only [dLs, List.map_cons, PyData.canLayAll0, PyData.canLay0] at h1 ⊢
    rw [h1, h2] <;> rfl
theorem dep_dL : ∀ xss : List (List Int), PyData.depthAll (dLs xss) ≤ 3
  | [] => by simp [dLs, PyData.depthAll]
  | x :: xss => by
    have h1 := dep_dL xss
    have h2 := dep_dI x
    simp only [dLs, List.map_cons, PyData.depthAll, PyData.depth] at h1 ⊢
    omega
theorem sh_L (xss : List (List Int)) : SeqAt.shaped (.list (dLs xss)) = true := by
  have h := dep_dL xss
  have e : PyData.depth (.list (dLs xss)) ≤ 64 := by
    rw [PyData.depth]
    omega
  have e2 : PyData.canLay0 (.list (dLs xss)) = true := by
    rw [PyData.canLay0]
    exact can_dL xss
  unfold SeqAt.shaped
  rw [e2, decide_eq_true e] <;> rfl
theorem dp_L {K : PySem.W.Frag} {H : Hp} : ∀ {ps : List Addr} {xss : List (List Int)}, ps.length = xss.length → (∀ (i : Nat) (p : Addr) (xs : List Int), ps[i]? = some p → xss[i]? = some xs → SqT K H p (xs.map V.int)) → DpAll K H (ps.map V.ref) (dLs xss)
  | [], [], _, _ => .nil
  | [], _ :: _, h, _ => by simp at h
  | _ :: _, [], h, _ => by simp at h
  | p :: ps, xs :: xss, h, a => .cons (dpT (a 0 p xs rfl rfl)) (dp_L (by simpa using h) fun i q ys e1 e2 => a (i + 1) q ys (by simpa using e1) (by simpa using e2))
theorem neLN {K : PySem.W.Frag} {H : Hp} {a b : Addr} {ps : List Addr} {xss : List (List Int)} {Q : VK} (h1 : SqL K H a (ps.map V.ref)) (hl : ps.length = xss.length) (hs : ∀ (i : Nat) (p : Addr) (xs : List Int), ps[i]? = some p → xss[i]? = some xs → SqT K H p (xs.map V.int)) (h2 : SqL K H b []) (q : Q (.bl (!decide (xss = []))) H) : rNeU K (.ref a) (.ref b) H Q :=
  .inr ⟨_, _, .lst h1 (dp_L hl hs), .lst h2 .nil, sh_L xss, sh_l [], by
    rw [show PyData.eqv (.list (dLs xss)) (.list []) = decide (xss = []) from by
      rw [PyData.eqv]
      cases xss with
      | nil => simp [dLs, PyData.eqvAll]
      | cons x r => simp [dLs, PyData.eqvAll]]
    exact q⟩
theorem at_neg {l : List Int} (h : l ≠ []) : atI (l.map V.int) (-1) = some (.int (l.getD (l.length - 1) 0)) := by
  refine atI_last2 ?_
  rw [List.getLast?_map, List.getLast?_eq_getElem?, List.getD_eq_getElem?_getD]
  have : l.length - 1 < l.length := by
    have := List.length_pos_iff.mpr h
    omega
  rw [List.getElem?_eq_getElem this] <;> rfl
theorem cut_in {xs : List V} (h : 1 ≤ xs.length) : cutV xs (some 1) (some (-1)) = (xs.take (xs.length - 1)).drop 1 := by
  unfold cutV
  have e1 : HT.sIx xs.length 0 (some 1) = 1 := by
    have := HT.sIx_nat xs.length 0 1
    rw [Nat.min_eq_left h] at this
    exact this
  have e2 : HT.sIx xs.length xs.length (some (-1)) = xs.length - 1 := by
    show (if (-1 : Int) < 0 then ((-1 : Int) + (xs.length : Int)).toNat else min (-1 : Int).toNat xs.length) = _
    rw [if_pos (by decide)]
    omega
  rw [e1, e2, List.drop_take]
theorem core_len {w : List Int} {k : Nat} (h : k + k ≤ w.length) : (core w k).length = w.length - k - k := by
  unfold core
  rw [List.length_drop, List.length_take]
  omega
theorem core_next {w : List Int} {k : Nat} (h : k + k + 2 ≤ w.length) : ((core w k).take ((core w k).length - 1)).drop 1 = core w (k + 1) := by
  rw [core_len (by omega)]
  unfold core
  rw [List.take_drop, List.drop_drop, List.take_take, show min (k + (w.length - k - k - 1)) (w.length - k) = w.length - (k + 1) by omega]
theorem core_at {w : List Int} {k i : Nat} (h : k + k ≤ w.length) (hi : i < w.length - k - k) : (core w k).getD i 0 = w.getD (k + i) 0 := by
  unfold core
  rw [List.getD_eq_getElem?_getD, List.getD_eq_getElem?_getD, List.getElem?_drop, List.getElem?_take_of_lt (by omega)]
section
variable {P : Program} {w : World} {K : PySem.W.Frag} {mg : Str → Option Value} {base : Heap}
/-! ### _law_mk_ring -/
def spMkRing (K : PySem.W.Frag) : Sp := fun vs H Q _ => ∃ (a : Addr) (u : List Int), vs = [.ref a] ∧ SqT K H a (u.map V.int) ∧ u.length ≤ 1000 ∧ ∀ p rg H', Same H H' → SqT K H' p (rg.map V.int) → IsRing (red u) rg → rg.length ≤ (red u).length → (∀ x ∈ rg, x ∈ red u) → Q (.ref p) H'
abbrev s__law_mk_ring : Stmt := top 34
abbrev N__law_mk_ring : List Str := ["row", "found", "turns", "at"]
theorem sc__law_mk_ring : FnScope ["row", "found", "turns", "at"] ["row"] (defScope s__law_mk_ring) := ⟨rfl, rfl, rfl, by decide +kernel, rfl, by decide +kernel, by decide +kernel⟩
theorem bd__law_mk_ring : Bnd s__law_mk_ring "_law_mk_ring" ["row"] := fun _ _ _ _ _ _ us hl => match us, hl with | [_], _ => rfl

theorem d__law_mk_ring (T : Bs K mg) (R : Rw K mg "_law_mk_ring" s__law_mk_ring) (D__law_mk_plain : Df P w K mg base CX0 1 "_law_mk_plain" s__law_mk_plain ["letters"] (spPlain K)) : Df P w K mg base CX0 2 "_law_mk_ring" s__law_mk_ring ["row"] (spMkRing K) := by
  refine mk0 R sc__law_mk_ring bd__law_mk_ring (fun vs H Q E h => ?_) fun f cdv A outer s H vs Q E hr h => ?_
  · obtain ⟨a, xs, rfl, _⟩ := h; rfl
  obtain ⟨a, u, rfl, hS, hz, q⟩ := h
  have hw := red_len u
  refine ⟨_, (pss_cons (ps_set (i := 1) sc__law_mk_ring.nd rfl (Or.inr rfl) (pe_callTy call_list_of (by rfl) T.n_list (by decide +kernel) (pa_cons (pe_d D__law_mk_plain hr (by decide) (by rfl) pass0 (pa_cons (pv 0) pa_nil)) pa_nil)))
      (pss_cons (ps_while PassesOwn.never (PW.pt (pw_and (pt_cmpR op_gt (pe_callB call_len (by rfl) T.n_len (by decide +kernel) (pa_cons (pv 1) pa_nil)) pe_int (nomark _)) (pw_and1 (pt_cmpR (op_eqU hr.units) (pe_ix ix_seq (pv 1) pe_int (fun _ _ => rfl)) (pe_op op_sub pe_int (pe_ix ix_seq (pv 1) (pe_un un_neg pe_int) (fun _ _ => rfl))) (nomark _))))) (pss_one (ps_set (i := 1) sc__law_mk_ring.nd rfl (Or.inr rfl) (pe_slice sl_U (pv 1) (po_some pe_int) (po_some (pe_un un_neg pe_int))))))
      (pss_cons (ps_setLc (i := 2) (own := [("at", 3)]) rfl sc__law_mk_ring.nd rfl rfl (sw_true rfl rfl rfl (by decide +kernel)) (pi_range1 (by rfl) T.n_range (pa_cons (pe_callB call_len (by rfl) T.n_len (by decide +kernel) (pa_cons (pv 1) pa_nil)) pa_nil)) (blkOk_by (own := [("at", 3)]) (N := ["row", "found", "turns", "at"]) (sc := defScope s__law_mk_ring) (by decide +kernel)) (fun _ _ _ _ _ => (pg_name (i := 3) sc__law_mk_ring.nd rfl (Or.inl rfl))) (fun _ _ _ _ _ => pts_nil) (fun _ _ _ _ _ => (pe_callTy (show CallR _ (.type "tuple") (rTupOf K) from call_tupN) (by rfl) T.n_tuple (by decide +kernel) (pa_cons (pe_op (show OpR _ _ (rAddU K) from op_addU) (pe_slice (show SlR _ (rSlU K) from sl_U) (pv 1) (po_some (pv 3)) po_none) (pe_slice (show SlR _ (rSlU K) from sl_U) (pv 1) po_none (po_some (pv 3)))) pa_nil))))
      (pss_one (ps_ret (pe_ifExp (pt_cmpR (op_neU hr.units) (pv 2) (pe_lst pa_nil) (nomark _)) (pe_callB (call_minT rfl hr.units) (by rfl) T.n_min (by decide +kernel) (pa_cons (pv 2) pa_nil)) (pe_tup pa_nil))))))), ?_⟩
  walk_at "rd"
  refine ⟨a, u, rfl, hS, by omega, fun p H1 s1 t1 => ?_⟩
  generalize red u = w1 at t1 hw q
  refine ⟨p, _, rfl, .inr t1.sqT, fun k hk => ?_⟩
  obtain ⟨s2, e2⟩ := new_at (o := .lst (w1.map V.int)) hk
  generalize upd H1 k (.lst (w1.map V.int)) = H2 at s2 e2 ⊢
  walk_at "rd"
  refine ⟨fun mu σ H' => ∃ (k : Addr) (off : Nat) (y2 y3 : Option V), σ = [some (.ref a), some (.ref k), y2, y3] ∧ Same H H' ∧ H' k = some (.lst ((core w1 off).map V.int)) ∧ (∀ i, i < off → Cx w1 i) ∧ mu + off = w1.length + 1, ⟨w1.length + 1, k, 0, none, none, rfl, s1.trans s2, by
    rw [e2]
    simp [core], fun i hi => by omega, by omega⟩, fun mu σ H' h => ?_⟩
  obtain ⟨k, off, y2, y3, rfl, sm, ek, ho, hm⟩ := h
  have h2 := off_le ho
  have lc := core_len (w := w1) (k := off) h2
  walk_at "rd"
  refine lenL (.inl (.inl ek)) ?_
  rw [List.length_map, lc]
  walk_at "rd"
  refine rd_exit (P := ¬ Cx w1 off) (fun hn => ?_) fun ex => ?_
  rotate_left
  · refine rd_ite (fun e1 => ?_) fun e1 => ?_
    · have e1 : off < w1.length - 1 - off := by have := of_decide_eq_true e1; omega
      walk_at "rd"
      refine rd_ixL (v := .int (w1.getD off 0)) (.inl (.inl ek)) (by
        have := at_nat (l := core w1 off) (i := 0) (by omega)
        rw [core_at h2 (by omega), Nat.add_zero] at this
        exact this) ?_
      walk_at "rd"
      refine rd_ixL (v := .int (w1.getD (w1.length - 1 - off) 0)) (.inl (.inl ek)) (by
        have := at_neg (l := core w1 off) (by intro z; rw [z] at lc; simp at lc; omega)
        rw [lc, core_at h2 (by omega), show off + (w1.length - off - off - 1) = w1.length - 1 - off by omega] at this
        exact this) ?_
      walk_at "rd"
      refine rd_eqI ?_
      walk_at "rd"
      refine rd_ite (fun e2 => ?_) fun e2 => ?_
      · have e2 := of_decide_eq_true e2
        refine ⟨fun σ' H'' => ∃ m', m' < mu ∧ ∃ (k : Addr) (off : Nat) (y2 y3 : Option V), σ' = [some (.ref a), some (.ref k), y2, y3] ∧ Same H H'' ∧ H'' k = some (.lst ((core w1 off).map V.int)) ∧ (∀ i, i < off → Cx w1 i) ∧ m' + off = w1.length + 1, fun _ _ h => h, ?_⟩
        walk_at "rd"
        refine slL (.inl (.inl ek)) fun p4 h4 => ?_
        rw [cut_in (by rw [List.length_map]; omega), List.length_map, ← List.map_take, ← List.map_drop, core_next (by omega)]
        walk_at "rd"
        refine ⟨mu - 1, by omega, p4, off + 1, _, _, rfl, sm.trans (same_new h4), upd_same, fun i hi => ?_, by omega⟩
        by_cases z : i = off
        · rw [z]; exact ⟨e1, by omega⟩
        · exact ho i (by omega)
      · exact ex fun z => of_decide_eq_false e2 (by have := z.2; omega)
    · exact ex fun z => by have := of_decide_eq_false e1; have := z.1; omega
  have hio : IsOff w1 off := ⟨ho, hn⟩
  have mem_core : ∀ x ∈ core w1 off, x ∈ w1 := fun x hx => List.mem_of_mem_take (List.mem_of_mem_drop hx)
  dsimp only
  walk_at "rd"
  refine lenL (.inl (.inl ek)) ?_
  rw [List.length_map]
  walk_at "rd"
  refine ⟨by omega, by omega, fun D hD => ?_⟩
  generalize hc : core w1 off = m at ek lc hio mem_core ⊢
  rw [show (Int.toNat (m.length : Int)) = m.length by omega]
  refine lc_it walk_range (fun j H3 => ∃ ps : List Addr, H3 D = some (.lst (ps.map V.ref)) ∧ ps.length = j ∧ (∀ (i : Nat) (p : Addr), ps[i]? = some p → SqT K H3 p ((rot m i).map V.int)) ∧ Same H' H3)
    ⟨[], upd_same, rfl, (fun i p hp => by simp at hp), same_new hD⟩ (fun _ _ _ _ => True.intro) (fun j x H40 H4 hj pv y => ?_) fun H4 h4 => ?_
  · obtain ⟨ps, eD, hl2, hps, s4⟩ := pv
    obtain ⟨rfl, ex⟩ := y
    have ex : x = .int (j : Int) := by
      have e := ex
      simpa using e
    subst ex
    have ek4 := s4 _ _ ek
    walk_at "rd"
    refine ⟨rfl, ?_⟩
    walk_at "rd"
    refine iteT ?_
    walk_at "rd"
    refine slL (.inl (.inl ek4)) fun p5 h5 => ?_
    rw [cut_hi (by rw [List.length_map]; omega), ← List.map_drop]
    obtain ⟨s5, e5⟩ := new_at (o := .lst ((m.drop j).map V.int)) h5
    generalize upd H4 p5 (.lst ((m.drop j).map V.int)) = H5 at s5 e5 ⊢
    walk_at "rd"
    refine slL (.inl (.inl (s5 _ _ ek4))) fun p6 h6 => ?_
    rw [cut_lo (by rw [List.length_map]; omega), ← List.map_take]
    obtain ⟨s6, e6⟩ := new_at (o := .lst ((m.take j).map V.int)) h6
    generalize upd H5 p6 (.lst ((m.take j).map V.int)) = H6 at s6 e6 ⊢
    refine catL (s6 _ _ e5) e6 (by simp only [List.length_map, List.length_drop, List.length_take]; omega) fun p7 h7 => ?_
    rw [← List.map_append]
    obtain ⟨s7, e7⟩ := new_at (o := .lst ((m.drop j ++ m.take j).map V.int)) h7
    generalize upd H6 p7 (.lst ((m.drop j ++ m.take j).map V.int)) = H7 at s7 e7 ⊢
    walk_at "rd"
    refine rd_tupOfL (.inl (.inl e7)) fun p8 o h8 ho8 hd8 => ?_
    have s8 : Same H4 (upd H7 p8 (.frz o (.tup ((m.drop j ++ m.take j).map V.int)))) := s5.trans (s6.trans (s7.trans (same_new h8)))
    have t8 : Tp (upd H7 p8 (.frz o (.tup ((m.drop j ++ m.take j).map V.int)))) p8 ((m.drop j ++ m.take j).map V.int) := ⟨o, upd_same, ho8, hd8⟩
    generalize upd H7 p8 (.frz o (.tup ((m.drop j ++ m.take j).map V.int))) = H8 at s8 t8 ⊢
    have eD8 := s8 _ _ eD
    have sD : ∀ {q : Addr} {xs : List V} {o : HO}, SqT K H8 q xs → SqT K (upd H8 D o) q xs := fun h => by
      rcases h with (h | ⟨o2, h⟩) | h
      · exact .inl (.inl (by rw [upd_ne (ne_of h eD8 (by intro z; cases z))]; exact h))
      · exact .inl (.inr ⟨o2, by rw [upd_ne (ne_of h eD8 (by intro z; cases z))]; exact h⟩)
      · exact .inr h
    refine ⟨_, eD8, lzl (by rw [List.length_map]; omega), ps ++ [p8], by rw [upd_same]; simp, by simp [hl2], fun i p hp => ?_, same_mut (s4.trans s8) hD⟩
    by_cases z : i < ps.length
    · rw [List.getElem?_append_left z] at hp
      exact sD (sqT_same s8 (hps i p hp))
    · rw [List.getElem?_append_right (by omega)] at hp
      have hz : i = ps.length := by
        have := (List.getElem?_eq_some_iff.mp hp).1
        simp only [List.length_cons, List.length_nil] at this
        omega
      subst hz
      simp only [Nat.sub_self, List.getElem?_cons_zero, Option.some.injEq] at hp
      subst hp
      rw [hl2]
      exact sD t8.sqT
  obtain ⟨ps, eD, hl2, hps, s4⟩ := h4
  walk_at "rd"
  refine ⟨lz (by simp), fun p9 h9 => ?_⟩
  obtain ⟨s9, e9⟩ := new_at (o := .lst []) h9
  generalize upd H4 p9 (.lst []) = H9 at s9 e9 ⊢
  have hps9 : ∀ (i : Nat) (p : Addr) (xs : List Int), ps[i]? = some p → ((List.range m.length).map (rot m))[i]? = some xs → SqT K H9 p (xs.map V.int) := fun i p xs h1 h2 => by
    have hi : i < m.length := by
      have := (List.getElem?_eq_some_iff.mp h1).1
      omega
    rw [List.getElem?_map, List.getElem?_range hi, Option.map_some] at h2
    cases h2
    exact sqT_same s9 (hps i p h1)
  refine neLN (xss := (List.range m.length).map (rot m)) (.inl (.inl (s9 _ _ eD))) (by simp [hl2]) hps9 (.inl (.inl e9)) ?_
  walk_at "rd"
  have sA := (sm.trans s4).trans s9
  refine rd_ite (fun en => ?_) fun en => ?_
  · have hm0 : 0 < m.length := by
      rcases Nat.eq_zero_or_pos m.length with z | z
      · rw [z] at en
        simp at en
      · exact z
    walk_at "rd"
    refine ⟨D, ps, (List.range m.length).map (rot m), rfl, .inl (.inl (s9 _ _ eD)), by simp [hl2], by simpa using hm0, hps9, fun i p xs h1 h2 h3 => ?_⟩
    have hi : i < m.length := by
      have := (List.getElem?_eq_some_iff.mp h1).1
      omega
    have hx : rot m i = xs := by
      rw [List.getElem?_map, List.getElem?_range hi, Option.map_some] at h2
      exact Option.some.inj h2
    refine q p xs H9 sA (hps9 i p xs h1 h2) ⟨off, hio, .inr ⟨i, by rw [hc]; exact hi, by rw [hc]; exact hx.symm, fun j hj => ?_⟩⟩ (by rw [← hx, rot_len (by omega)]; omega) (fun x hx2 => ?_)
    · rw [hc] at hj ⊢
      exact h3 _ (List.mem_map.mpr ⟨j, List.mem_range.mpr hj, rfl⟩)
    · rw [← hx] at hx2
      rcases List.mem_append.mp hx2 with h | h
      · exact mem_core x (List.mem_of_mem_drop h)
      · exact mem_core x (List.mem_of_mem_take h)
  · have hm0 : m = [] := by
      have : (List.range m.length).map (rot m) = [] := by simpa using en
      have := congrArg List.length this
      simp only [List.length_map, List.length_range, List.length_nil] at this
      exact List.eq_nil_of_length_eq_zero this
    walk_at "rd"
    refine ⟨lz (by simp), fun p10 h10 => ?_⟩
    exact q p10 [] _ (sA.trans (same_new h10)) (.inl (.inl upd_same)) ⟨off, hio, .inl ⟨by rw [hc]; exact hm0, rfl⟩⟩ (by simp) (fun x hx => nomatch hx)
end
end KP

set_option linter.all false
set_option maxRecDepth 100000
set_option maxHeartbeats 4000000
namespace KP
open PySem PySem.Spec PyProof.Rows L2 XA XB XC XD XM XE XF XG XT XP
local macro_rules | `(tactic| walk_at "rd") => `(tactic| repeat (first
  | (with_reducible refine rd_seq ?_) | (with_reducible refine rd_asg ?_) | ((with_reducible refine' rd_var ?hv ?_); (case hv => exact rfl)) | (with_reducible refine rd_c ?_) | (with_reducible refine rd_gn ?_)
  | (with_reducible refine rd_op ?_) | (with_reducible refine rd_un ?_) | (with_reducible refine rd_cons ?_) | (with_reducible refine rd_nil ?_) | (with_reducible refine rd_cl ?_) | (with_reducible refine rd_ck ?_) | (with_reducible refine rd_cb ?_)
  | (with_reducible refine rd_ret ?_) | (with_reducible refine rd_drop ?_) | (with_reducible refine rd_ifs ?_) | (with_reducible refine rd_if ?_) | (with_reducible refine rd_test ?_) | (with_reducible refine rd_tb ?_) | (with_reducible refine rd_and ?_) | (with_reducible refine rd_or ?_)
  | (with_reducible refine rd_not ?_) | (with_reducible refine rd_andV ?_) | (with_reducible refine rd_orV ?_) | (with_reducible refine rd_notV ?_) | (with_reducible refine rd_chain ?_) | (with_reducible refine rd_tup ?_) | (with_reducible refine rd_lst ?_)
  | (with_reducible refine rd_bm0 ?_) | (with_reducible refine rd_bm ?_) | (with_reducible refine rd_sl ?_) | (with_reducible refine rd_part ?_) | (with_reducible refine rd_nopart ?_) | (with_reducible refine rd_dget ?_) | (with_reducible refine rd_dput ?_)
  | (with_reducible refine rd_next ?_) | (with_reducible refine rd_lc ?_) | ((with_reducible refine' rd_aug ?hv ?_); (case hv => exact rfl)) | (with_reducible refine rd_cont ?_) | (with_reducible refine rd_gcons ?_) | (with_reducible refine rd_gnil ?_) | (with_reducible refine rd_ifT ?_) | (with_reducible refine rd_yes ?_) | (with_reducible refine rd_tru ?_) | (with_reducible refine rd_cntE ?_) | (with_reducible refine rd_rng1 ?_) | (with_reducible refine rd_lrg ?_) | (with_reducible refine rd_rg2 ?_) | (with_reducible refine rd_back ?_) | (with_reducible refine rd_disp ?_) | (with_reducible refine rd_prN ?_) | (with_reducible refine rd_prC ?_) | (with_reducible refine rd_par ?_) | (with_reducible refine rd_par3 ?_) | (with_reducible refine rd_two ?_) | (with_reducible refine rd_three ?_) | (with_reducible refine rd_one ?_) | (with_reducible refine rd_onei ?_) | (with_reducible refine rd_iL ?_) | (with_reducible refine rd_iT ?_) | (with_reducible refine rd_rng2 ?_) | (with_reducible refine rd_bl ?_) | (with_reducible refine rd_int ?_) | (with_reducible refine rd_I0 ?_) | (with_reducible refine rd_U ?_) | (with_reducible refine rd_din ?_) | (with_reducible refine rd_dnin ?_) | (with_reducible refine rd_dnew ?_) | (with_reducible refine rd_lset ?_) | (with_reducible refine rd_enT ?_) | (with_reducible refine rd_idx ?_) | (with_reducible refine rd_rg1 ?_) | (with_reducible refine rd_tupRg ?_)))

section
variable {P : Program} {w : World} {K : PySem.W.Frag} {mg : Str → Option Value} {base : Heap}
theorem seq_at {j n : Nat} (h : j < n) : seqIndex? (j : Int) n = some j := by
  simp only [seqIndex?]
  rw [if_neg (show ¬ ((j : Int) < 0) by omega), if_pos (by simp only [Bool.and_eq_true, decide_eq_true_eq]; omega), Int.toNat_natCast]
theorem erase_map : ∀ (l : List Int) (j : Nat), (l.map V.int).eraseIdx j = (l.eraseIdx j).map V.int
  | [], _ => rfl
  | _ :: _, 0 => rfl
  | x :: l, j + 1 => by simp [erase_map l j]
/-! ### _law_shuffled -/
def spShuf (K : PySem.W.Frag) : Sp := fun vs H Q _ => ∃ (s g c a : Addr) (m : Nat) (xs : List Int), vs = [.ref s, .ref a] ∧ StAt m H s g c ∧ m < 100000 ∧ SqL K H a (xs.map V.int) ∧ xs.length ≤ 400 ∧
  ∀ (p : Addr) (ys : List Int) (H' : Hp), StAt (m + 400) H' s g c → XE.Kept s g H H' → H' p = some (.lst (ys.map V.int)) → ys.length = xs.length → (∀ y ∈ ys, y ∈ xs) → p ≠ g → Q (.ref p) H'
abbrev s__law_shuffled : Stmt := top 27
abbrev N__law_shuffled : List Str := ["state", "some", "left", "found"]
theorem sc__law_shuffled : FnScope ["state", "some", "left", "found"] ["state", "some"] (defScope s__law_shuffled) := ⟨rfl, rfl, rfl, by decide +kernel, rfl, by decide +kernel, by decide +kernel⟩
theorem bd__law_shuffled : Bnd s__law_shuffled "_law_shuffled" ["state", "some"] := fun _ _ _ _ _ _ us hl => match us, hl with | [_, _], _ => rfl

theorem d__law_shuffled (T : Bs K mg) (R : Rw K mg "_law_shuffled" s__law_shuffled) (D__law_draw : Df P w K mg base CX0 2 "_law_draw" s__law_draw ["state", "room"] (spDraw K)) : Df P w K mg base CX0 3 "_law_shuffled" s__law_shuffled ["state", "some"] (spShuf K) := by
  refine mk0 R sc__law_shuffled bd__law_shuffled (fun vs H Q E h => ?_) fun f cdv A outer sh H vs Q E hr h => ?_
  · obtain ⟨s, g, c, a, m, xs, rfl, _⟩ := h; rfl
  obtain ⟨s, g, c, a, m, xs, rfl, hS, hm, hL, hl, q⟩ := h
  refine ⟨_, (pss_cons (ps_par (i := 2) (j := 3) rfl sc__law_shuffled.nd rfl rfl (by decide) rfl rfl (pa_cons (pe_callTy call_list_of (by rfl) T.n_list (by decide +kernel) (pa_cons (pv 1) pa_nil)) (pa_cons (pe_lst pa_nil) pa_nil)) (by rfl))
      (pss_cons (ps_while PassesOwn.never (pt_cmpR (op_neU hr.units) (pv 2) (pe_lst pa_nil) (nomark _)) (pss_one (ps_expr (pe_bm PySem.F.plainAttrs_list PySem.F.slot_list_append PySem.F.type_list_append mt_append (pv 3) (pa_cons (pe_bm PySem.F.plainAttrs_list PySem.F.slot_list_pop PySem.F.type_list_pop mt_popAt (pv 2) (pa_cons (pe_d D__law_draw hr (by decide) (by rfl) pass0 (pa_cons (pv 0) (pa_cons (pe_callB call_len (by rfl) T.n_len (by decide +kernel) (pa_cons (pv 2) pa_nil)) pa_nil))) pa_nil)) pa_nil)))))
      (pss_one (ps_ret (pv 3))))), ?_⟩
  walk_at "rd"
  refine ⟨a, _, rfl, .inl hL, fun k hk => ?_⟩
  obtain ⟨s1, e1⟩ := new_at (o := .lst (xs.map V.int)) hk
  walk_at "rd"
  generalize upd H k (.lst (xs.map V.int)) = H1 at s1 e1 ⊢
  refine ⟨lz (by simp), fun l hl2 => ?_⟩
  obtain ⟨s2, e2⟩ := new_at (o := .lst []) hl2
  walk_at "rd"
  have hl0 : H l = none := none_of s1 hl2
  have kl : k ≠ l := ne_of_none e1 hl2
  generalize upd H1 l (.lst []) = H2 at s2 e2 ⊢
  refine ⟨fun mu σ H' => ∃ (ls ys : List Int), σ = [some (.ref s), some (.ref a), some (.ref k), some (.ref l)] ∧ mu = ls.length ∧ StAt (m + ys.length) H' s g c ∧ XE.Kept s g H H' ∧ H' k = some (.lst (ls.map V.int)) ∧ H' l = some (.lst (ys.map V.int)) ∧ ls.length + ys.length = xs.length ∧ (∀ y ∈ ls, y ∈ xs) ∧ (∀ y ∈ ys, y ∈ xs),
    ⟨xs.length, xs, [], rfl, rfl, hS.same (s1.trans s2), .of (s1.trans s2), s2 _ _ e1, e2, rfl, fun y hy => hy, fun y hy => nomatch hy⟩, fun mu σ H' h => ?_⟩
  obtain ⟨ls, ys, rfl, rfl, S3, k3, ek, el, hsum, m1, m2⟩ := h
  walk_at "rd"
  refine ⟨lz (by simp), fun p5 hp5 => ?_⟩
  obtain ⟨s5, e5⟩ := new_at (o := .lst []) hp5
  generalize upd H' p5 (.lst []) = H5 at s5 e5 ⊢
  refine neL (ys := []) (.inl (.inl (s5 _ _ ek))) (.inl (.inl e5)) ?_
  walk_at "rd"
  have S5 := S3.same s5
  refine rd_ite (fun e => ?_) fun e => ?_
  · have hne : ls ≠ [] := by simpa using e
    have hpos := List.length_pos_iff.mpr hne
    refine ⟨fun σ' H'' => ∃ m', m' < ls.length ∧ ∃ (ls ys : List Int), σ' = [some (.ref s), some (.ref a), some (.ref k), some (.ref l)] ∧ m' = ls.length ∧ StAt (m + ys.length) H'' s g c ∧ XE.Kept s g H H'' ∧ H'' k = some (.lst (ls.map V.int)) ∧ H'' l = some (.lst (ys.map V.int)) ∧ ls.length + ys.length = xs.length ∧ (∀ y ∈ ls, y ∈ xs) ∧ (∀ y ∈ ys, y ∈ xs), fun _ _ h => h, ?_⟩
    walk_at "rd"
    refine ⟨tyl (s5 _ _ el), ?_⟩
    walk_at "rd"
    refine ⟨tyl (s5 _ _ ek), ?_⟩
    walk_at "rd"
    refine lenL (.inl (.inl (s5 _ _ ek))) ?_
    rw [List.length_map]
    walk_at "rd"
    refine ⟨s, g, c, m + ys.length, (ls.length : Int), rfl, S5, by omega, by omega, by omega, fun r H6 r0 r1 S6 k6 => ?_⟩
    walk_at "rd"
    obtain ⟨j, rfl⟩ : ∃ j : Nat, r = (j : Int) := ⟨r.toNat, by omega⟩
    have hj : j < ls.length := by omega
    have ek6 := k6.lst S5 (s5 _ _ ek) (hS.ne_n hk)
    have el6 := k6.lst S5 (s5 _ _ el) (hS.ne_n hl0)
    refine ⟨k, _, _, j, .int (ls[j]), rfl, rfl, ek6, by omega, by omega, seq_at (by rw [List.length_map]; exact hj), by rw [List.getElem?_map, List.getElem?_eq_getElem hj] <;> rfl, ?_⟩
    walk_at "rd"
    refine app (l := l) (xs := ys.map V.int) (by rw [upd_ne (Ne.symm kl)]; exact el6) (by rw [List.length_map]; omega) ?_
    walk_at "rd"
    have hmem : ls[j] ∈ xs := m1 _ (List.getElem_mem hj)
    refine ⟨ls.length - 1, by omega, ls.eraseIdx j, ys ++ [ls[j]], rfl, by rw [List.length_eraseIdx_of_lt hj], ?_, ((((k3.trans (.of s5)).trans k6).mut hk).mut hl0), ?_, by rw [upd_same]; simp, ?_, fun y hy => m1 y (List.mem_of_mem_eraseIdx hy), fun y hy => ?_⟩
    · have := StAt.mut (o := .lst ((ls.map V.int).eraseIdx j)) hS hk S6
      have := StAt.mut (o := .lst (ys.map V.int ++ [.int (ls[j])])) hS hl0 this
      exact this.mono (by simp only [List.length_append, List.length_cons, List.length_nil]; omega)
    · rw [upd_ne kl, upd_same, erase_map]
    · rw [List.length_eraseIdx_of_lt hj]
      simp only [List.length_append, List.length_cons, List.length_nil]
      omega
    · rcases List.mem_append.mp hy with h | h
      · exact m2 y h
      · rw [List.mem_singleton.mp h]; exact hmem
  · have hnil : ls = [] := by simpa using e
    subst hnil
    walk_at "rd"
    simp only [List.length_nil] at hsum
    exact q l ys H5 (S5.mono (by omega)) (k3.trans (.of s5)) (s5 _ _ el) (by omega) m2 (hS.ne_n hl0)
/-! ### _law_mr_is_row -/
def spMrIsRow (K : PySem.W.Frag) : Sp := fun vs H Q _ => ∃ (n : Int) (a : Addr) (xs : List Int), vs = [.int n, .ref a] ∧ SqT K H a (xs.map V.int) ∧ xs.length ≤ 10000 ∧ LetS n xs ∧ red xs = xs ∧ ∀ H', Same H H' → Q (.bl true) H'
abbrev s__law_mr_is_row : Stmt := top 39
abbrev N__law_mr_is_row : List Str := ["deeds", "thing", "item"]
theorem sc__law_mr_is_row : FnScope ["deeds", "thing", "item"] ["deeds", "thing"] (defScope s__law_mr_is_row) := ⟨rfl, rfl, rfl, by decide +kernel, rfl, by decide +kernel, by decide +kernel⟩
theorem bd__law_mr_is_row : Bnd s__law_mr_is_row "_law_mr_is_row" ["deeds", "thing"] := fun _ _ _ _ _ _ us hl => match us, hl with | [_, _], _ => rfl

theorem d__law_mr_is_row (T : Bs K mg) (R : Rw K mg "_law_mr_is_row" s__law_mr_is_row) (D__law_mr_whole : Df P w K mg base CX0 1 "_law_mr_whole" s__law_mr_whole ["thing"] (spWhole K)) (D__law_mk_plain : Df P w K mg base CX0 1 "_law_mk_plain" s__law_mk_plain ["letters"] (spPlain K)) :
    Df P w K mg base CX0 2 "_law_mr_is_row" s__law_mr_is_row ["deeds", "thing"] (spMrIsRow K) := by
  refine mk0 R sc__law_mr_is_row bd__law_mr_is_row (fun vs H Q E h => ?_) fun f cdv A outer s H vs Q E hr h => ?_
  · obtain ⟨n, a, xs, rfl, _⟩ := h; rfl
  obtain ⟨n, a, xs, rfl, ha, hl, le, hred, q⟩ := h
  refine ⟨_, (pss_cons (ps_if (PW.pt (pw_or (pt_not (pt_tru (pe_callB call_isU (by rfl) T.n_isinstance (by decide +kernel) (pa_cons (pv 1) (pa_cons (pe_bltn (v := .ty "tuple") (by rfl) T.n_tuple (by decide +kernel) rfl) pa_nil))) (by intro _; rfl))) (pw_or1 (pt_cmpR (op_neU hr.units) (pe_lc (own := [("item", 2)]) rfl sc__law_mr_is_row.nd (pi_U (pv 1)) (blkOk_by (own := [("item", 2)]) (N := ["deeds", "thing", "item"]) (sc := defScope s__law_mr_is_row) (by decide +kernel)) (fun _ _ _ _ _ => (pg_name (i := 2) sc__law_mr_is_row.nd rfl (Or.inl rfl))) (fun _ _ _ _ _ => pts_one (pt_not (show PT _ _ (tTru K _) from pt_tru (pe_d D__law_mr_whole hr (by decide) (by rfl) pass0 (pa_cons (pv 2) pa_nil)) (by intro _; rfl)))) (fun _ _ _ _ _ => pe_int)) (pe_lst pa_nil) (nomark _))))) (pss_one (ps_ret pe_bl)) pss_nil)
      (pss_one (ps_ret (pe_and (pe_cmpR (op_eqU hr.units) (pe_lc (own := [("item", 2)]) rfl sc__law_mr_is_row.nd (pi_U (pv 1)) (blkOk_by (own := [("item", 2)]) (N := ["deeds", "thing", "item"]) (sc := defScope s__law_mr_is_row) (by decide +kernel)) (fun _ _ _ _ _ => (pg_name (i := 2) sc__law_mr_is_row.nd rfl (Or.inl rfl))) (fun _ _ _ _ _ => pts_one (PW.pt (pw_or (pt_cmpR (show OpR _ _ (rEqU K) from (op_eqU hr.units)) (pv 2) pe_int (nomark _)) (pw_or1 (pt_cmpR op_gt (pe_callB call_abs (by rfl) T.n_abs (by decide +kernel) (pa_cons (pv 2) pa_nil)) (pv 0) (nomark _)))))) (fun _ _ _ _ _ => pe_int)) (pe_lst pa_nil) (nomark _)) (pe_one (pe_cmpR (op_eqU hr.units) (pe_d D__law_mk_plain hr (by decide) (by rfl) pass0 (pa_cons (pv 1) pa_nil)) (pv 1) (nomark _))))))), ?_⟩
  walk_at "rd"
  refine rd_isT (d := .tup (xs.map V.int)) ⟨a, rfl, ha, okI (by omega)⟩ (kit_tuple _) ?_
  walk_at "rd"
  refine truB ?_
  refine iteF ?_
  walk_at "rd"
  refine .inr ⟨.ref a, rfl, a, rfl, ⟨_, ha⟩, fun D hD => ?_⟩
  refine lc_pure walk_tup hD (xs.map V.int) (fun _ => false) (fun x => x) rfl (by rw [List.length_map]; omega) (fun H' e => sqT_same e ha) (fun i H x H' hi y => y) (fun x H4 hx e4 R R0 g1 g0 => ?_) fun H1 e1 hD' => ?_
  · obtain ⟨z, rfl⟩ := mem_i hx
    walk_at "rd"
    refine ⟨rfl, ?_⟩
    walk_at "rd"
    refine ⟨.int z, .flat (.int z), rfl, ⟨rfl, rfl⟩, ?_⟩
    refine truB ?_
    exact g0 rfl H4 (Same.refl _)
  rw [show List.map (fun x => x) ((xs.map V.int).filter fun _ => false) = ([] : List Int).map V.int by simp] at hD'
  walk_at "rd"
  refine ⟨lz (by simp), fun p2 h2 => ?_⟩
  obtain ⟨s2, e2⟩ := new_at (o := .lst []) h2
  generalize upd H1 p2 (.lst []) = H2 at s2 e2 ⊢
  refine neL (xs := []) (ys := []) (.inl (.inl (s2 _ _ hD'))) (.inl (.inl e2)) ?_
  rw [decide_eq_true rfl]
  walk_at "rd"
  refine iteF ?_
  walk_at "rd"
  have ha2 := sqT_same (e1.trans s2) ha
  refine .inr ⟨.ref a, rfl, a, rfl, ⟨_, ha2⟩, fun D2 hD2 => ?_⟩
  refine lc_pure walk_tup hD2 (xs.map V.int) (fun _ => false) (fun x => x) rfl (by rw [List.length_map]; omega) (fun H' e => sqT_same e ha2) (fun i H x H' hi y => y) (fun x H4 hx e4 R R0 g1 g0 => ?_) fun H3 e3 hD3 => ?_
  · obtain ⟨z, hz, rfl⟩ := List.mem_map.mp hx
    have hz := le z hz
    walk_at "rd"
    refine ⟨rfl, ?_⟩
    walk_at "rd"
    refine rd_eqI ?_
    walk_at "rd"
    rw [decide_eq_false hz.2.2]
    refine iteF ?_
    walk_at "rd"
    rw [decide_eq_false (show ¬ n < (if z < 0 then -z else z) by split <;> omega)]
    exact iteF (g0 rfl H4 (Same.refl _))
  rw [show List.map (fun x => x) ((xs.map V.int).filter fun _ => false) = ([] : List Int).map V.int by simp] at hD3
  walk_at "rd"
  refine ⟨lz (by simp), fun p4 h4 => ?_⟩
  obtain ⟨s4, e4⟩ := new_at (o := .lst []) h4
  generalize upd H3 p4 (.lst []) = H4 at s4 e4 ⊢
  refine eqL (xs := []) (ys := []) (.inl (.inl (s4 _ _ hD3))) (.inl (.inl e4)) ?_
  walk_at "rd"
  refine iteT ?_
  walk_at "rd"
  have sA := e1.trans (s2.trans (e3.trans s4))
  refine ⟨a, xs, rfl, sqT_same sA ha, hl, fun p5 H5 s5 t5 => ?_⟩
  walk_at "rd"
  refine eqT t5.sqT (sqT_same (sA.trans s5) ha) ?_
  rw [decide_eq_true hred]
  exact q _ (sA.trans s5)
/-! ### _law_mr_mate -/
def spMate (K : PySem.W.Frag) : Sp := fun vs H Q _ => ∃ (s g c a : Addr) (m : Nat) (n : Int) (xs : List Int), vs = [.ref s, .int n, .ref a] ∧ StAt m H s g c ∧ m < 40000 ∧ 1 ≤ n ∧ n ≤ 4 ∧ SqT K H a (xs.map V.int) ∧ xs.length ≤ 200 ∧ LetS n xs ∧
  ∀ (p : Addr) (ys : List Int) (H' : Hp), StAt (m + 500) H' s g c → XE.Kept s g H H' → SqT K H' p (ys.map V.int) → ys.length ≤ 300 → LetS n ys → Q (.ref p) H'
abbrev s__law_mr_mate : Stmt := top 44
abbrev N__law_mr_mate : List Str := ["state", "deeds", "row", "way", "ring", "at"]
theorem sc__law_mr_mate : FnScope ["state", "deeds", "row", "way", "ring", "at"] ["state", "deeds", "row"] (defScope s__law_mr_mate) := ⟨rfl, rfl, rfl, by decide +kernel, rfl, by decide +kernel, by decide +kernel⟩
theorem bd__law_mr_mate : Bnd s__law_mr_mate "_law_mr_mate" ["state", "deeds", "row"] := fun _ _ _ _ _ _ us hl => match us, hl with | [_, _, _], _ => rfl

theorem d__law_mr_mate (T : Bs K mg) (R : Rw K mg "_law_mr_mate" s__law_mr_mate) (D__law_draw : Df P w K mg base CX0 2 "_law_draw" s__law_draw ["state", "room"] (spDraw K)) (D__law_pick : Df P w K mg base CX0 3 "_law_pick" s__law_pick ["state", "some"] (spPick K))
    (D__law_mk_letters : Df P w K mg base CX0 1 "_law_mk_letters" s__law_mk_letters ["deeds"] (spLetters K)) (D__law_mk_row : Df P w K mg base CX0 5 "_law_mk_row" s__law_mk_row ["state", "deeds", "least", "most"] (spMkRow K))
    (D__law_mk_raw : Df P w K mg base CX0 5 "_law_mk_raw" s__law_mk_raw ["state", "deeds", "row"] (spMkRaw K)) (D__law_mk_ring : Df P w K mg base CX0 2 "_law_mk_ring" s__law_mk_ring ["row"] (spMkRing K))
    (D__law_mk_plain : Df P w K mg base CX0 1 "_law_mk_plain" s__law_mk_plain ["letters"] (spPlain K)) (D__law_mk_undone : Df P w K mg base CX0 1 "_law_mk_undone" s__law_mk_undone ["row"] (spUndone K))
    (D__law_mr_turned : Df P w K mg base CX0 2 "_law_mr_turned" s__law_mr_turned ["row", "by"] (spTurned K)) (D__law_shuffled : Df P w K mg base CX0 3 "_law_shuffled" s__law_shuffled ["state", "some"] (spShuf K))
    (D__law_mr_row : Df P w K mg base CX0 6 "_law_mr_row" s__law_mr_row ["state", "deeds"] (spMrRow K)) : Df P w K mg base CX0 7 "_law_mr_mate" s__law_mr_mate ["state", "deeds", "row"] (spMate K) := by
  refine mk0 R sc__law_mr_mate bd__law_mr_mate (fun vs H Q E h => ?_) fun f cdv A outer sh H vs Q E hr h => ?_
  · obtain ⟨s, g, c, a, m, n, xs, rfl, _⟩ := h; rfl
  obtain ⟨s, g, c, a, m, n, xs, rfl, hS, hm, n1, n4, ha, hl, le, q⟩ := h
  have hw := red_len xs
  refine ⟨_, (pss_cons (ps_par (i := 3) (j := 4) rfl sc__law_mr_mate.nd rfl rfl (by decide) rfl rfl (pa_cons (pe_d D__law_draw hr (by decide) (by rfl) pass0 (pa_cons (pv 0) (pa_cons pe_int pa_nil))) (pa_cons (pe_d D__law_mk_ring hr (by decide) (by rfl) pass0 (pa_cons (pv 2) pa_nil)) pa_nil)) (by rfl))
      (pss_cons (ps_if (pt_cmpR op_lt (pv 3) pe_int (nomark _)) (pss_one (ps_ret (pe_d D__law_mk_raw hr (by decide) (by rfl) pass0 (pa_cons (pv 0) (pa_cons (pv 1) (pa_cons (pe_d D__law_mr_turned hr (by decide) (by rfl) pass0 (pa_cons (pv 2) (pa_cons (pe_d D__law_mk_row hr (by decide) (by rfl) pass0 (pa_cons (pv 0) (pa_cons (pv 1) (pa_cons pe_int (pa_cons pe_int pa_nil))))) pa_nil))) pa_nil)))))) pss_nil)
      (pss_cons (ps_if (pt_cmpR (op_eqU hr.units) (pv 3) pe_int (nomark _)) (pss_one (ps_ret (pe_d D__law_mk_undone hr (by decide) (by rfl) pass0 (pa_cons (pv 2) pa_nil)))) pss_nil)
      (pss_cons (ps_if (pt_cmpR (op_eqU hr.units) (pv 3) pe_int (nomark _)) (pss_one (ps_ret (pe_callTy call_tupN (by rfl) T.n_tuple (by decide +kernel) (pa_cons (pe_d D__law_shuffled hr (by decide) (by rfl) pass0 (pa_cons (pv 0) (pa_cons (pe_callTy call_list_of (by rfl) T.n_list (by decide +kernel) (pa_cons (pv 2) pa_nil)) pa_nil))) pa_nil)))) pss_nil)
      (pss_cons (ps_if (PW.pt (pw_and (pt_cmpR (op_eqU hr.units) (pv 3) pe_int (nomark _)) (pw_and1 (pt_cmpR (op_neU hr.units) (pv 4) (pe_tup pa_nil) (nomark _))))) (pss_cons (ps_set (i := 5) sc__law_mr_mate.nd rfl (Or.inl rfl) (pe_d D__law_draw hr (by decide) (by rfl) pass0 (pa_cons (pv 0) (pa_cons (pe_callB call_len (by rfl) T.n_len (by decide +kernel) (pa_cons (pv 4) pa_nil)) pa_nil))))
        (pss_one (ps_ret (pe_op op_addU (pe_op op_addU (pe_slice sl_U (pv 4) po_none (po_some (pv 5))) (pe_tup (pa_cons (pe_d D__law_pick hr (by decide) (by rfl) pass0 (pa_cons (pv 0) (pa_cons (pe_d D__law_mk_letters hr (by decide) (by rfl) pass0 (pa_cons (pv 1) pa_nil)) pa_nil))) pa_nil))) (pe_slice sl_U (pv 4) (po_some (pe_op op_addU (pv 5) pe_int)) po_none))))) pss_nil)
      (pss_cons (ps_if (pt_cmpR (op_eqU hr.units) (pv 3) pe_int (nomark _)) (pss_one (ps_ret (pe_d D__law_mk_plain hr (by decide) (by rfl) pass0 (pa_cons (pe_op op_addU (pv 2) (pe_d D__law_mk_row hr (by decide) (by rfl) pass0 (pa_cons (pv 0) (pa_cons (pv 1) (pa_cons pe_int (pa_cons pe_int pa_nil)))))) pa_nil)))) pss_nil)
      (pss_one (ps_ret (pe_d D__law_mr_row hr (by decide) (by rfl) pass0 (pa_cons (pv 0) (pa_cons (pv 1) pa_nil))))))))))), ?_⟩
  walk_at "rd"
  refine ⟨s, g, c, m, 7, rfl, hS, by omega, by omega, by omega, fun r H1 r0 r1 S1 k1 => ?_⟩
  walk_at "rd"
  have ha1 := k1.sqT hS ha
  refine ⟨a, xs, rfl, ha1, by omega, fun pr rg H2 s2 tr _ lr mr => ?_⟩
  walk_at "rd"
  have S2 := S1.same s2
  have k2 : XE.Kept s g H H2 := k1.trans (.of s2)
  have ha2 := sqT_same s2 ha1
  have leg : LetS n rg := fun x hx => le x (red_mem (mr x hx))
  refine rd_ite (fun e => ?_) fun e => ?_
  · walk_at "rd"
    refine ⟨s, g, c, m + 1, n, 0, 4, rfl, S2, by omega, n1, n4, by omega, by omega, by omega, fun p3 zs H3 S3 k3 t3 l3 _ e3 => ?_⟩
    walk_at "rd"
    refine ⟨a, p3, xs, zs, rfl, k3.sqT S2 ha2, t3.sqT, by omega, by omega, fun p4 H4 s4 t4 => ?_⟩
    walk_at "rd"
    have w4 : (turned xs zs).length ≤ 250 := by
      unfold turned
      have := red_len (zs ++ xs ++ inv zs)
      simp only [List.length_append, inv_len] at this
      omega
    exact ⟨s, g, c, p4, m + 1 + 21, n, turned xs zs, rfl, S3.same s4, by omega, n1, n4, t4.sqT, by omega, le.turned e3, fun p5 ys H5 S5 k5 t5 l5 e5 => q p5 ys H5 (S5.mono (by omega)) (((k2.trans k3).trans (.of s4)).trans k5) t5.sqT (by omega) e5⟩
  walk_at "rd"
  refine rd_eqI ?_
  walk_at "rd"
  refine rd_ite (fun e2 => ?_) fun e2 => ?_
  · walk_at "rd"
    have w3 := inv_len xs
    exact ⟨a, xs, rfl, ha2, by omega, fun p3 H3 s3 t3 => q p3 _ H3 ((S2.same s3).mono (by omega)) (k2.trans (.of s3)) t3.sqT (by omega) le.inv⟩
  walk_at "rd"
  refine rd_eqI ?_
  walk_at "rd"
  refine rd_ite (fun e3 => ?_) fun e3 => ?_
  · walk_at "rd"
    refine ⟨a, _, rfl, .inr ha2, fun k hk => ?_⟩
    obtain ⟨s3, e4⟩ := new_at (o := .lst (xs.map V.int)) hk
    walk_at "rd"
    generalize upd H2 k (.lst (xs.map V.int)) = H3 at s3 e4 ⊢
    refine ⟨s, g, c, k, m + 1, xs, rfl, S2.same s3, by omega, .inl (.inl e4), by omega, fun p5 ys H5 S5 k5 e5 l5 m5 _ => ?_⟩
    walk_at "rd"
    refine rd_tupOfL (.inl (.inl e5)) fun p6 o h6 ho hd => ?_
    exact q p6 ys _ ((S5.mono (by omega)).same (same_new h6)) (((k2.trans (.of s3)).trans k5).trans (.of (same_new h6))) (Tp.sqT ⟨o, upd_same, ho, hd⟩) (by omega) (fun y hy => le y (m5 y hy))
  walk_at "rd"
  refine rd_eqI ?_
  walk_at "rd"
  refine rd_exitH (C := fun H3 => Same H2 H3) (fun H3 s3 => ?_) fun ex => ?_
  rotate_left
  · refine rd_ite (fun e4 => ?_) fun e4 => ?_
    rotate_left
    · exact iteF (ex H2 (Same.refl _))
    walk_at "rd"
    refine ⟨lz (by simp), fun p3 h3 => ?_⟩
    obtain ⟨s3, e3⟩ := new_at (o := .tup []) h3
    generalize upd H2 p3 (.tup []) = H3 at s3 e3 ⊢
    refine neT (ys := []) (sqT_same s3 tr) (.inl (.inl e3)) ?_
    walk_at "rd"
    refine rd_ite (fun e5 => ?_) fun e5 => ?_
    rotate_left
    · exact ex H3 s3
    have hg : rg ≠ [] := by simpa using e5
    have hpos := List.length_pos_iff.mpr hg
    have tr3 := sqT_same s3 tr
    walk_at "rd"
    refine lenT tr3 ?_
    rw [List.length_map]
    walk_at "rd"
    refine ⟨s, g, c, m + 1, (rg.length : Int), rfl, S2.same s3, by omega, by omega, by omega, fun r2 H4 a0 a1 S4 k4 => ?_⟩
    obtain ⟨j, rfl⟩ : ∃ j : Nat, r2 = (j : Int) := ⟨r2.toNat, by omega⟩
    have tr4 := k4.sqT (S2.same s3) tr3
    have hj : j < rg.length := by omega
    walk_at "rd"
    refine slS tr4 fun p5 H5 s5 t5 => ?_
    rw [cut_lo (by rw [List.length_map]; omega), ← List.map_take] at t5
    walk_at "rd"
    refine ⟨n, rfl, n1, n4, fun p6 H6 s6 hp6 ep6 => ?_⟩
    walk_at "rd"
    refine ⟨s, g, c, p6, m + 1 + 1, _, rfl, S4.same (s5.trans s6), by omega, .inl (.inl ep6), (S4.same s5).ne_n hp6, ?_, by rw [List.length_map, lets_len]; omega, fun x H7 hx S7 k7 => ?_⟩
    · intro z
      have z := congrArg List.length z
      rw [List.length_map, lets_len] at z
      simp only [List.length_nil] at z
      omega
    obtain ⟨z, hz, rfl⟩ := List.mem_map.mp hx
    walk_at "rd"
    refine ⟨lz (by simp), fun p8 h8 => ?_⟩
    obtain ⟨s8, e8⟩ := new_at (o := .tup [.int z]) h8
    generalize upd H7 p8 (.tup [.int z]) = H8 at s8 e8 ⊢
    have t5' := k7.sqT (S4.same (s5.trans s6)) (sqT_same s6 t5)
    have tr7 := k7.sqT (S4.same (s5.trans s6)) (sqT_same (s5.trans s6) tr4)
    refine catS (sqT_same s8 t5') (.inl (.inl e8)) (by simp only [List.length_map, List.length_take, List.length_cons, List.length_nil]; omega) fun p9 H9 s9 t9 => ?_
    walk_at "rd"
    refine rd_addI ?_
    walk_at "rd"
    refine slS (sqT_same (s8.trans s9) tr7) fun p10 H10 s10 t10 => ?_
    rw [show (j : Int) + 1 = ((j + 1 : Nat) : Int) by omega, cut_hi (by rw [List.length_map]; omega), ← List.map_drop] at t10
    refine catS (sqT_same s10 t9) t10 (by simp only [List.length_append, List.length_map, List.length_take, List.length_cons, List.length_nil, List.length_drop]; omega) fun p11 H11 s11 t11 => ?_
    have t11 : SqT K H11 p11 ((rg.take j ++ [z] ++ rg.drop (j + 1)).map V.int) := by rw [List.map_append, List.map_append]; exact t11
    refine q p11 _ H11 ((S7.same (s8.trans (s9.trans (s10.trans s11)))).mono (by omega)) ((((k2.trans (.of s3)).trans k4).trans (.of (s5.trans s6))).trans (k7.trans (.of (s8.trans (s9.trans (s10.trans s11)))))) t11 (by simp only [List.length_append, List.length_take, List.length_cons, List.length_nil, List.length_drop]; omega) fun y hy => ?_
    rcases List.mem_append.mp hy with h | h
    · rcases List.mem_append.mp h with h | h
      · exact leg y (List.mem_of_mem_take h)
      · rw [List.mem_singleton.mp h]; exact lets_mem.mp hz
    · exact leg y (List.mem_of_mem_drop h)
  have S3 := S2.same s3
  have ha3 := sqT_same s3 ha2
  walk_at "rd"
  refine rd_eqI ?_
  walk_at "rd"
  refine rd_ite (fun e5 => ?_) fun e5 => ?_
  · walk_at "rd"
    refine ⟨s, g, c, m + 1, n, 1, 1, rfl, S3, by omega, n1, n4, by omega, by omega, by omega, fun p4 zs H4 S4 k4 t4 l4 _ e4 => ?_⟩
    refine catS (k4.sqT S3 ha3) t4.sqT (by simp only [List.length_map]; omega) fun p5 H5 s5 t5 => ?_
    rw [← List.map_append] at t5
    walk_at "rd"
    have w5 := red_len (xs ++ zs)
    simp only [List.length_append] at w5
    exact ⟨p5, xs ++ zs, rfl, t5, by simp only [List.length_append]; omega, fun p6 H6 s6 t6 => q p6 _ H6 ((S4.same (s5.trans s6)).mono (by omega)) (((k2.trans (.of s3)).trans k4).trans (.of (s5.trans s6))) t6.sqT (by omega) (le.app e4).red⟩
  walk_at "rd"
  exact ⟨s, g, c, m + 1, n, rfl, S3, by omega, n1, n4, fun p4 zs H4 S4 k4 t4 l4 e4 => q p4 zs H4 (S4.mono (by omega)) ((k2.trans (.of s3)).trans k4) t4.sqT (by omega) e4⟩
end
end KP

set_option linter.all false
set_option maxRecDepth 100000
set_option maxHeartbeats 4000000
namespace KP
open PySem PySem.Spec PyProof.Rows L2 XA XB XC XD XM XE XF XG XT XP
local macro_rules | `(tactic| walk_at "rd") => `(tactic| repeat (first
  | (with_reducible refine rd_seq ?_) | (with_reducible refine rd_asg ?_) | ((with_reducible refine' rd_var ?hv ?_); (case hv => exact rfl)) | (with_reducible refine rd_c ?_) | (with_reducible refine rd_gn ?_)
  | (with_reducible refine rd_op ?_) | (with_reducible refine rd_un ?_) | (with_reducible refine rd_cons ?_) | (with_reducible refine rd_nil ?_) | (with_reducible refine rd_cl ?_) | (with_reducible refine rd_ck ?_) | (with_reducible refine rd_cb ?_)
  | (with_reducible refine rd_ret ?_) | (with_reducible refine rd_drop ?_) | (with_reducible refine rd_ifs ?_) | (with_reducible refine rd_if ?_) | (with_reducible refine rd_test ?_) | (with_reducible refine rd_tb ?_) | (with_reducible refine rd_and ?_) | (with_reducible refine rd_or ?_)
  | (with_reducible refine rd_not ?_) | (with_reducible refine rd_andV ?_) | (with_reducible refine rd_orV ?_) | (with_reducible refine rd_notV ?_) | (with_reducible refine rd_chain ?_) | (with_reducible refine rd_tup ?_) | (with_reducible refine rd_lst ?_)
  | (with_reducible refine rd_bm0 ?_) | (with_reducible refine rd_bm ?_) | (with_reducible refine rd_sl ?_) | (with_reducible refine rd_part ?_) | (with_reducible refine rd_nopart ?_) | (with_reducible refine rd_dget ?_) | (with_reducible refine rd_dput ?_)
  | (with_reducible refine rd_next ?_) | (with_reducible refine rd_lc ?_) | ((with_reducible refine' rd_aug ?hv ?_); (case hv => exact rfl)) | (with_reducible refine rd_cont ?_) | (with_reducible refine rd_gcons ?_) | (with_reducible refine rd_gnil ?_) | (with_reducible refine rd_ifT ?_) | (with_reducible refine rd_yes ?_) | (with_reducible refine rd_tru ?_) | (with_reducible refine rd_cntE ?_) | (with_reducible refine rd_rng1 ?_) | (with_reducible refine rd_lrg ?_) | (with_reducible refine rd_rg2 ?_) | (with_reducible refine rd_back ?_) | (with_reducible refine rd_disp ?_) | (with_reducible refine rd_prN ?_) | (with_reducible refine rd_prC ?_) | (with_reducible refine rd_par ?_) | (with_reducible refine rd_par3 ?_) | (with_reducible refine rd_two ?_) | (with_reducible refine rd_three ?_) | (with_reducible refine rd_one ?_) | (with_reducible refine rd_onei ?_) | (with_reducible refine rd_iL ?_) | (with_reducible refine rd_iT ?_) | (with_reducible refine rd_rng2 ?_) | (with_reducible refine rd_bl ?_) | (with_reducible refine rd_int ?_) | (with_reducible refine rd_I0 ?_) | (with_reducible refine rd_U ?_) | (with_reducible refine rd_din ?_) | (with_reducible refine rd_dnin ?_) | (with_reducible refine rd_dnew ?_) | (with_reducible refine rd_lset ?_) | (with_reducible refine rd_enT ?_) | (with_reducible refine rd_idx ?_) | (with_reducible refine rd_rg1 ?_) | (with_reducible refine rd_tupRg ?_)))

section
variable {K : PySem.W.Frag} {H : Hp} {Q : VK} {p : Addr} {xs : List V}
theorem rd_isTup (h : H p = some (.tup xs)) (q : Q (.bl true) H) : rIsU K [.ref p, .ty "tuple"] H Q := .inl ⟨.ref p, .ty "tuple", .type "tuple", .type "tuple", true, rfl, .ty _, .base (.tup h), kit_ty (by decide +kernel), q⟩
theorem kit_str : kitB "str" "str" = some true := by decide +kernel
end
/-- what a turner tells of two plain words -/
def Told (K : PySem.W.Frag) (H : Hp) (p : Addr) (n : Int) (xs ys : List Int) : Prop :=
  (∃ (t : Addr) (by_ : List Int), H p = some (.tup [.str "turned", .ref t]) ∧ SqT K H t (by_.map V.int) ∧ red by_ = by_ ∧ LetS n by_ ∧ by_.length ≤ 400 ∧ red (by_ ++ xs ++ inv by_) = ys) ∨
  (∃ (t1 t2 : Addr) (g h : List Int), H p = some (.tup [.str "unlike", .ref t1, .ref t2]) ∧ SqT K H t1 (g.map V.int) ∧ SqT K H t2 (h.map V.int) ∧ g.length ≤ 200 ∧ h.length ≤ 200 ∧ IsRing xs g ∧ IsRing ys h ∧ g ≠ h)
theorem tup_same {H H' : Hp} {p : Addr} {xs : List V} (e : Same H H') (h : H p = some (.tup xs)) : H' p = some (.tup xs) := e _ _ h
section
variable {P : Program} {w : World} {K : PySem.W.Frag} {mg : Str → Option Value} {base : Heap}
/-! ### _law_mr_is_turner -/
def spIsTurner (K : PySem.W.Frag) : Sp := fun vs H Q _ => ∃ (n : Int) (a b p : Addr) (xs ys : List Int), vs = [.int n, .ref a, .ref b, .ref p] ∧ SqT K H a (xs.map V.int) ∧ SqT K H b (ys.map V.int) ∧ xs.length ≤ 200 ∧ ys.length ≤ 200 ∧ red xs = xs ∧ red ys = ys ∧ Told K H p n xs ys ∧ ∀ H', Same H H' → Q (.bl true) H'
abbrev s__law_mr_is_turner : Stmt := top 45
abbrev N__law_mr_is_turner : List Str := ["deeds", "one", "other", "found", "first", "second"]
theorem sc__law_mr_is_turner : FnScope ["deeds", "one", "other", "found", "first", "second"] ["deeds", "one", "other", "found"] (defScope s__law_mr_is_turner) := ⟨rfl, rfl, rfl, by decide +kernel, rfl, by decide +kernel, by decide +kernel⟩
theorem bd__law_mr_is_turner : Bnd s__law_mr_is_turner "_law_mr_is_turner" ["deeds", "one", "other", "found"] := fun _ _ _ _ _ _ us hl => match us, hl with | [_, _, _, _], _ => rfl

theorem d__law_mr_is_turner (T : Bs K mg) (R : Rw K mg "_law_mr_is_turner" s__law_mr_is_turner) (D__law_mr_is_row : Df P w K mg base CX0 2 "_law_mr_is_row" s__law_mr_is_row ["deeds", "thing"] (spMrIsRow K)) (D__law_mr_turned : Df P w K mg base CX0 2 "_law_mr_turned" s__law_mr_turned ["row", "by"] (spTurned K))
    (D__law_mk_ring : Df P w K mg base CX0 2 "_law_mk_ring" s__law_mk_ring ["row"] (spMkRing K)) (D__law_mr_same : Df P w K mg base CX0 2 "_law_mr_same" s__law_mr_same ["found", "due"] (spSame K)) :
    Df P w K mg base CX0 3 "_law_mr_is_turner" s__law_mr_is_turner ["deeds", "one", "other", "found"] (spIsTurner K) := by
  refine mk0 R sc__law_mr_is_turner bd__law_mr_is_turner (fun vs H Q E h => ?_) fun f cdv A outer s H vs Q E hr h => ?_
  · obtain ⟨n, a, b, p, xs, ys, rfl, _⟩ := h; rfl
  obtain ⟨n, a, b, p, xs, ys, rfl, ha, hb, la, lb, hx, hy, told, q⟩ := h
  refine ⟨_, (pss_cons (ps_if (PW.pt (pw_or (pt_not (pt_tru (pe_callB call_isU (by rfl) T.n_isinstance (by decide +kernel) (pa_cons (pv 3) (pa_cons (pe_bltn (v := .ty "tuple") (by rfl) T.n_tuple (by decide +kernel) rfl) pa_nil))) (by intro _; rfl))) (pw_or (pt_cmpR op_lt (pe_callB call_len (by rfl) T.n_len (by decide +kernel) (pa_cons (pv 3) pa_nil)) pe_int (nomark _)) (pw_or1 (pt_not (pt_tru (pe_callB call_isU (by rfl) T.n_isinstance (by decide +kernel) (pa_cons (pe_ix ix_seq (pv 3) pe_int (fun _ _ => rfl)) (pa_cons (pe_bltn (v := .ty "str") (by rfl) T.n_str (by decide +kernel) rfl) pa_nil))) (by intro _; rfl))))))) (pss_one (ps_ret pe_bl)) pss_nil)
      (pss_cons (ps_if (pt_cmpR (op_eqU hr.units) (pe_ix ix_seq (pv 3) pe_int (fun _ _ => rfl)) pe_str (nomark _)) (pss_one (ps_ret (pe_and (pe_cmpR (op_eqU hr.units) (pe_callB call_len (by rfl) T.n_len (by decide +kernel) (pa_cons (pv 3) pa_nil)) pe_int (nomark _)) (pe_and (pe_d D__law_mr_is_row hr (by decide) (by rfl) pass0 (pa_cons (pv 0) (pa_cons (pe_ix ix_seq (pv 3) pe_int (fun _ _ => rfl)) pa_nil))) (pe_one (pe_cmpR (op_eqU hr.units) (pe_d D__law_mr_turned hr (by decide) (by rfl) pass0 (pa_cons (pv 1) (pa_cons (pe_ix ix_seq (pv 3) pe_int (fun _ _ => rfl)) pa_nil))) (pv 2) (nomark _))))))) pss_nil)
      (pss_cons (ps_par (i := 4) (j := 5) rfl sc__law_mr_is_turner.nd rfl rfl (by decide) rfl rfl (pa_cons (pe_d D__law_mk_ring hr (by decide) (by rfl) pass0 (pa_cons (pv 1) pa_nil)) (pa_cons (pe_d D__law_mk_ring hr (by decide) (by rfl) pass0 (pa_cons (pv 2) pa_nil)) pa_nil)) (by rfl))
      (pss_cons (ps_if (PW.pt (pw_or (pt_cmpR (op_eqU hr.units) (pv 4) (pv 5) (nomark _)) (pw_or (pt_cmpR (op_neU hr.units) (pe_callB call_len (by rfl) T.n_len (by decide +kernel) (pa_cons (pv 3) pa_nil)) pe_int (nomark _)) (pw_or1 (pt_cmpR (op_neU hr.units) (pe_ix ix_seq (pv 3) pe_int (fun _ _ => rfl)) pe_str (nomark _)))))) (pss_one (ps_ret pe_bl)) pss_nil)
      (pss_one (ps_ret (pe_and (pe_d D__law_mr_same hr (by decide) (by rfl) pass0 (pa_cons (pe_ix ix_seq (pv 3) pe_int (fun _ _ => rfl)) (pa_cons (pv 4) pa_nil))) (pe_one (pe_d D__law_mr_same hr (by decide) (by rfl) pass0 (pa_cons (pe_ix ix_seq (pv 3) pe_int (fun _ _ => rfl)) (pa_cons (pv 5) pa_nil))))))))))), ?_⟩
  rcases told with ⟨t, by_, hp, ht, hr1, hle, hlen, heq⟩ | ⟨t1, t2, g, h, hp, ht1, ht2, lg, lh, rg, rh, hne⟩
  · walk_at "rd"
    refine rd_isTup hp ?_
    walk_at "rd"
    refine truB ?_
    refine iteF ?_
    walk_at "rd"
    refine lenT (.inl (.inl hp)) ?_
    walk_at "rd"
    refine iteF ?_
    walk_at "rd"
    refine rd_ixT (v := .str "turned") (.inl (.inl hp)) rfl ?_
    walk_at "rd"
    refine rd_isT (d := .flat (.str "turned")) ⟨rfl, rfl⟩ kit_str ?_
    walk_at "rd"
    refine truB ?_
    refine iteF ?_
    walk_at "rd"
    refine rd_ixT (v := .str "turned") (.inl (.inl hp)) rfl ?_
    walk_at "rd"
    refine rd_eqS rfl ?_
    rw [decide_eq_true rfl]
    walk_at "rd"
    refine iteT ?_
    walk_at "rd"
    refine lenT (.inl (.inl hp)) ?_
    walk_at "rd"
    refine rd_eqI ?_
    refine ⟨true, rfl, iteT ?_⟩
    walk_at "rd"
    refine rd_ixT (v := .ref t) (.inl (.inl hp)) rfl ?_
    walk_at "rd"
    refine ⟨n, t, by_, rfl, ht, by omega, hle, hr1, fun H1 s1 => ?_⟩
    walk_at "rd"
    refine iteT ?_
    walk_at "rd"
    refine rd_ixT (v := .ref t) (.inl (.inl (s1 _ _ hp))) rfl ?_
    walk_at "rd"
    refine ⟨a, t, xs, by_, rfl, sqT_same s1 ha, sqT_same s1 ht, by omega, by omega, fun p2 H2 s2 t2 => ?_⟩
    walk_at "rd"
    refine eqT t2.sqT (sqT_same (s1.trans s2) hb) ?_
    rw [decide_eq_true (show turned xs by_ = ys from heq)]
    exact q H2 (s1.trans s2)
  · walk_at "rd"
    refine rd_isTup hp ?_
    walk_at "rd"
    refine truB ?_
    refine iteF ?_
    walk_at "rd"
    refine lenT (.inl (.inl hp)) ?_
    walk_at "rd"
    refine iteF ?_
    walk_at "rd"
    refine rd_ixT (v := .str "unlike") (.inl (.inl hp)) rfl ?_
    walk_at "rd"
    refine rd_isT (d := .flat (.str "unlike")) ⟨rfl, rfl⟩ kit_str ?_
    walk_at "rd"
    refine truB ?_
    refine iteF ?_
    walk_at "rd"
    refine rd_ixT (v := .str "unlike") (.inl (.inl hp)) rfl ?_
    walk_at "rd"
    refine rd_eqS rfl ?_
    rw [show decide (V.str "unlike" = V.str "turned") = false by decide +kernel]
    walk_at "rd"
    refine iteF ?_
    walk_at "rd"
    refine ⟨a, xs, rfl, ha, by omega, fun p1 g1 H1 s1 a1 b1 c1 _ => ?_⟩
    walk_at "rd"
    refine ⟨b, ys, rfl, sqT_same s1 hb, by omega, fun p2 h1 H2 s2 a2 b2 c2 _ => ?_⟩
    rw [hx] at b1
    rw [hy] at b2
    obtain rfl := ring_one rg b1
    obtain rfl := ring_one rh b2
    have sA := s1.trans s2
    walk_at "rd"
    refine eqT (sqT_same s2 a1) a2 ?_
    rw [decide_eq_false hne]
    walk_at "rd"
    refine iteF ?_
    walk_at "rd"
    refine lenT (.inl (.inl (sA _ _ hp))) ?_
    walk_at "rd"
    refine rd_neI ?_
    refine ⟨false, rfl, iteF ?_⟩
    walk_at "rd"
    refine rd_ixT (v := .str "unlike") (.inl (.inl (sA _ _ hp))) rfl ?_
    walk_at "rd"
    refine rd_neS rfl ?_
    rw [decide_eq_true rfl]
    walk_at "rd"
    refine iteF ?_
    walk_at "rd"
    refine rd_ixT (v := .ref t1) (.inl (.inl (sA _ _ hp))) rfl ?_
    walk_at "rd"
    refine ⟨t1, p1, g, g, rfl, sqT_same sA ht1, sqT_same s2 a1, by omega, fun H3 s3 => ?_⟩
    rw [decide_eq_true rfl]
    walk_at "rd"
    refine iteT ?_
    walk_at "rd"
    refine rd_ixT (v := .ref t2) (.inl (.inl ((sA.trans s3) _ _ hp))) rfl ?_
    walk_at "rd"
    refine ⟨t2, p2, h, h, rfl, sqT_same (sA.trans s3) ht2, sqT_same s3 a2, by omega, fun H4 s4 => ?_⟩
    rw [decide_eq_true rfl]
    exact q H4 (sA.trans (s3.trans s4))
end
end KP

set_option linter.all false
set_option maxRecDepth 100000
set_option maxHeartbeats 4000000
namespace KP
open PySem PySem.Spec PyProof.Rows L2 XA XB XC XD XM XE XF XG XT XP
local macro_rules | `(tactic| walk_at "rd") => `(tactic| repeat (first
  | (with_reducible refine rd_seq ?_) | (with_reducible refine rd_asg ?_) | ((with_reducible refine' rd_var ?hv ?_); (case hv => exact rfl)) | (with_reducible refine rd_c ?_) | (with_reducible refine rd_gn ?_)
  | (with_reducible refine rd_op ?_) | (with_reducible refine rd_un ?_) | (with_reducible refine rd_cons ?_) | (with_reducible refine rd_nil ?_) | (with_reducible refine rd_cl ?_) | (with_reducible refine rd_ck ?_) | (with_reducible refine rd_cb ?_)
  | (with_reducible refine rd_ret ?_) | (with_reducible refine rd_drop ?_) | (with_reducible refine rd_ifs ?_) | (with_reducible refine rd_if ?_) | (with_reducible refine rd_test ?_) | (with_reducible refine rd_tb ?_) | (with_reducible refine rd_and ?_) | (with_reducible refine rd_or ?_)
  | (with_reducible refine rd_not ?_) | (with_reducible refine rd_andV ?_) | (with_reducible refine rd_orV ?_) | (with_reducible refine rd_notV ?_) | (with_reducible refine rd_chain ?_) | (with_reducible refine rd_tup ?_) | (with_reducible refine rd_lst ?_)
  | (with_reducible refine rd_bm0 ?_) | (with_reducible refine rd_bm ?_) | (with_reducible refine rd_sl ?_) | (with_reducible refine rd_part ?_) | (with_reducible refine rd_nopart ?_) | (with_reducible refine rd_dget ?_) | (with_reducible refine rd_dput ?_)
  | (with_reducible refine rd_next ?_) | (with_reducible refine rd_lc ?_) | ((with_reducible refine' rd_aug ?hv ?_); (case hv => exact rfl)) | (with_reducible refine rd_cont ?_) | (with_reducible refine rd_gcons ?_) | (with_reducible refine rd_gnil ?_) | (with_reducible refine rd_ifT ?_) | (with_reducible refine rd_yes ?_) | (with_reducible refine rd_tru ?_) | (with_reducible refine rd_cntE ?_) | (with_reducible refine rd_rng1 ?_) | (with_reducible refine rd_lrg ?_) | (with_reducible refine rd_rg2 ?_) | (with_reducible refine rd_back ?_) | (with_reducible refine rd_disp ?_) | (with_reducible refine rd_prN ?_) | (with_reducible refine rd_prC ?_) | (with_reducible refine rd_par ?_) | (with_reducible refine rd_par3 ?_) | (with_reducible refine rd_two ?_) | (with_reducible refine rd_three ?_) | (with_reducible refine rd_one ?_) | (with_reducible refine rd_onei ?_) | (with_reducible refine rd_iL ?_) | (with_reducible refine rd_iT ?_) | (with_reducible refine rd_rng2 ?_) | (with_reducible refine rd_bl ?_) | (with_reducible refine rd_int ?_) | (with_reducible refine rd_I0 ?_) | (with_reducible refine rd_U ?_) | (with_reducible refine rd_din ?_) | (with_reducible refine rd_dnin ?_) | (with_reducible refine rd_dnew ?_) | (with_reducible refine rd_lset ?_) | (with_reducible refine rd_enT ?_) | (with_reducible refine rd_idx ?_) | (with_reducible refine rd_rg1 ?_) | (with_reducible refine rd_tupRg ?_)))

/-! ### _law_caught -/
abbrev s__law_caught : Stmt := top 28
abbrev N__law_caught : List Str := ["action", "found", "error"]
theorem sc__law_caught : FnScope ["action", "found", "error"] ["action"] (defScope s__law_caught) := ⟨rfl, rfl, rfl, by decide +kernel, rfl, by decide +kernel, by decide +kernel⟩
theorem bd__law_caught : Bnd s__law_caught "_law_caught" ["action"] := fun _ _ _ _ _ _ us hl => match us, hl with | [_], _ => rfl

theorem gives__law_caught {X : Cx} {g CS : Addr} {cdg : Value} {q : Str} (hme : X.mg "KeepError" = some (.ref CS)) : LamX.GivesTo X ["action", "found", "error"] "_law_caught" (defScope s__law_caught) g cdg (defBody s__law_caught) "action" q (TCaught X.K CS) :=
  caught_gives (p15 := ⟨0, 0, 0, 0⟩) (e := "KeepError") (by decide) rfl hme (by decide) rfl rfl
theorem pe_lam__law_caught {X : Cx} {st0 : Stmt} {P c CS : Addr} {k : Nat} {params : Arguments} {body : Expr} {scope : Scope} {t : XK → TE} {p lpos pos : Pos} (R : Rw X.K X.mg "_law_caught" s__law_caught) (TB : LamX.TabB X.base X.mg c P) (hcode : X.env.code = .ref c) (hme : X.mg "KeepError" = some (.ref CS))
    (hr : Room (k + 2) X.A) (hg : Gl X "_law_caught") (hsc : X.env.scope = defScope st0) (L : LamX.lamSB (defScope st0) scope = true)
    (hbody : ∀ (A : Around) (outer : List Env) (s : Shared) (H : Hp) (E : XK) (f c' : Addr), Room k (A.deeper (LamX.lamEnv X scope s.heap.objs.size f c')) → PE (LamX.lamCx X A outer s H E scope f c') body (t E))
    (hdef : defaultsOf params X.env = ([], []) := by rfl)
    (hbind : ∀ (q : Str) (cl : List (Str × Addr)) (pm cv ctv : Value), bindArgs (PySem.W.kla_fn "<lambda>" q params body scope cl pm cv ctv) ⟨[], []⟩ = pure [] := by intros; rfl) :
    PE X (.Call (.Name "_law_caught" p) [.Lambda params body scope lpos] [] pos) (LamX.tLam [(P, X.env.qual ++ "<lambda>")] (TCaught X.K CS) t) := by
  obtain ⟨g, fd, F, hm⟩ := R
  have b := F.bindsN bd__law_caught
  have kp := F.kp
  obtain ⟨oc, od, dV, kV, doc, pm, an, cdv, ct, osl, rfl, lk, hcd, _, _⟩ := F.ex
  exact LamX.pe_lamcall hg hm kp lk hcd b sc__law_caught rfl (.inl rfl) (gives__law_caught hme) TB hcode (List.mem_singleton_self _) (fun q hq _ => by rw [List.mem_singleton.mp hq]) hr (LamX.lamS_by (by rw [hsc]; exact L)) hdef hbind hbody
section
variable {P : Program} {w : World} {K : PySem.W.Frag} {mg : Str → Option Value} {base : Heap}
theorem bdk_ring_of_0 : Bndk s_ring_of "ring_of" ["deeds", "row"] 0 ["deeds", "row"] := fun _ _ _ _ _ _ us ws hl hk => match us, ws, hl, hk with | [], [_, _], _, _ => rfl

theorem bdk_turner_0 : Bndk s_turner "turner" ["deeds", "one", "other"] 0 ["deeds", "one", "other"] := fun _ _ _ _ _ _ us ws hl hk => match us, ws, hl, hk with | [], [_, _, _], _, _ => rfl

/-- what is known of error classes -/
structure Es (K : PySem.W.Frag) : Prop where
  mD : PySem.W.exmOne K (eDeeds K) (.ref (He.ga K "KeepError")) = some true
  mR : PySem.W.exmOne K (eRow K) (.ref (He.ga K "KeepError")) = some true
  kD : PySem.W.kitOne K (eDeeds K) (eDeeds K) = some true
  kR : PySem.W.kitOne K (eRow K) (eRow K) = some true
theorem map_int {xs ys : List Int} (h : xs.map V.int = ys.map V.int) : xs = ys := by
  have e : (xs.map V.int).map (fun v => match v with | .int i => i | _ => 0) = (ys.map V.int).map (fun v => match v with | .int i => i | _ => 0) := by rw [h]
  simpa [List.map_map, Function.comp_def] using e
section
variable {H : Hp} {Q : VK} {E : XK} {n : Int} {a b : Addr} {xs ys : List Int} {v : V} {d : Dat}
theorem deeds_in (n1 : 1 ≤ n) (n4 : n ≤ 4) : (Dat.flat (.int n)).from 1 4 = true := by
  show (decide (1 ≤ n) && decide (n ≤ 4)) = true
  rw [decide_eq_true n1, decide_eq_true n4] <;> rfl
theorem rp_int {xs : List Int} (h : SqT K H a (xs.map V.int)) (hl : xs.length ≤ 20000) : Rp K H (.ref a) (.tup (xs.map V.int)) := ⟨a, rfl, h, okI hl⟩
theorem no_deeds {p : Prop} (n1 : 1 ≤ n) (n4 : n ≤ 4) (e : (Dat.flat (.int n)).from 1 4 = false) : p := by
  rw [deeds_in n1 n4] at e
  cases e
theorem no_row {p : Prop} (l : xs.length ≤ 200) (le : LetS n xs) (e : (Dat.tup (xs.map V.int)).row n = false) : p := by
  rw [le.row l] at e
  cases e
theorem ring_call (n1 : 1 ≤ n) (n4 : n ≤ 4) (t : SqT K H a (xs.map V.int)) (l : xs.length ≤ 200) (le : LetS n xs) (h : ∀ p rg H', Same H H' → SqT K H' p (rg.map V.int) → IsRing (red xs) rg → rg.length ≤ 200 → Q (.ref p) H') : spRingOf K [.int n, .ref a] H Q E :=
  ⟨.int n, .flat (.int n), .ref a, _, rfl, ⟨rfl, rfl⟩, rp_int t (by omega), fun e => no_deeds n1 n4 e, fun k e1 _ => by
    cases e1
    exact ⟨fun e => no_row l le e, fun zs e2 _ => by
      obtain rfl := map_int (Dat.tup.inj e2)
      exact h⟩⟩
/-- what a turner's call gives, told so that two calls give one -/
def Gave (K : PySem.W.Frag) (H : Hp) (p : Addr) (xs ys : List Int) : Prop :=
  ∃ (x : Str) (ps : List Addr) (zss : List (List Int)), H p = some (.tup (.str x :: ps.map V.ref)) ∧ ps.length = zss.length ∧ (∀ (i : Nat) (q : Addr) (zs : List Int), ps[i]? = some q → zss[i]? = some zs → SqT K H q (zs.map V.int)) ∧
    ((x = "turned" ∧ (∃ g wx wy, IsRing xs g ∧ IsRing ys g ∧ IsWay xs wx ∧ IsWay ys wy ∧ zss = [red (wy ++ inv wx)])) ∨ (x = "unlike" ∧ ∃ g h, IsRing xs g ∧ IsRing ys h ∧ g ≠ h ∧ zss = [g, h]))
theorem turner_call (n1 : 1 ≤ n) (n4 : n ≤ 4) (t1 : SqT K H a (xs.map V.int)) (l1 : xs.length ≤ 200) (le1 : LetS n xs) (t2 : SqT K H b (ys.map V.int)) (l2 : ys.length ≤ 200) (le2 : LetS n ys)
    (h : ∀ p H', Same H H' → Told K H' p n (red xs) (red ys) → Gave K H' p (red xs) (red ys) → Q (.ref p) H') : spTurner K [.int n, .ref a, .ref b] H Q E :=
  ⟨.int n, .flat (.int n), .ref a, _, .ref b, _, rfl, ⟨rfl, rfl⟩, rp_int t1 (by omega), rp_int t2 (by omega), fun e => no_deeds n1 n4 e, fun k e1 _ => by
    cases e1
    refine ⟨fun e => no_row l1 le1 e, fun e => no_row l2 le2 e, fun zs ws e2 _ e3 _ => ?_⟩
    obtain rfl := map_int (Dat.tup.inj e2)
    obtain rfl := map_int (Dat.tup.inj e3)
    have w1 := le1.red
    have w2 := le2.red
    refine ⟨fun p t by_ g wx wy H' s hw1 hw2 he hp ht hr hl hm rg rh heq => ?_, fun p t1 t2 g g' H' s hp ht1 ht2 lg lh rg rh hne => ?_⟩
    · refine h p H' s (.inl ⟨t, by_, hp, ht, hr.symm, fun x hx => ?_, hl, heq⟩) ⟨"turned", [t], [by_], hp, rfl, fun i q zs h1 h2 => ?_, .inl ⟨rfl, g, wx, wy, rg, rh, hw1, hw2, by rw [he]⟩⟩
      · rcases hm x hx with z | z | z | z
        · exact w1 x z
        · have := w1 _ z; omega
        · exact w2 x z
        · have := w2 _ z; omega
      · cases i with
        | zero => cases h1; cases h2; exact ht
        | succ i => simp at h1
    · refine h p H' s (.inr ⟨t1, t2, g, g', hp, ht1, ht2, lg, lh, rg, rh, hne⟩) ⟨"unlike", [t1, t2], [g, g'], hp, rfl, fun i q zs h1 h2 => ?_, .inr ⟨rfl, g, g', rg, rh, hne, rfl⟩⟩
      match i, h1, h2 with
      | 0, h1, h2 => cases h1; cases h2; exact ht1
      | 1, h1, h2 => cases h1; cases h2; exact ht2
      | i + 2, h1, h2 => simp at h1⟩
theorem gave_same {H H' : Hp} {p : Addr} (e : Same H H') (h : Gave K H p xs ys) : Gave K H' p xs ys := by
  obtain ⟨x, ps, zss, h1, h2, h3, h4⟩ := h
  exact ⟨x, ps, zss, e _ _ h1, h2, fun i q zs a b => sqT_same e (h3 i q zs a b), h4⟩
theorem told_same {H H' : Hp} {p : Addr} (e : Same H H') (h : Told K H p n xs ys) : Told K H' p n xs ys := by
  rcases h with ⟨t, by_, hp, ht, r⟩ | ⟨t1, t2, g, h, hp, ht1, ht2, r⟩
  · exact .inl ⟨t, by_, e _ _ hp, sqT_same e ht, r⟩
  · exact .inr ⟨t1, t2, g, h, e _ _ hp, sqT_same e ht1, sqT_same e ht2, r⟩
/-- two calls give one -/
theorem gave_ne {p q : Addr} (h1 : Gave K H p xs ys) (h2 : Gave K H q xs ys) (r : Q (.bl false) H) : rNeU K (.ref p) (.ref q) H Q := by
  obtain ⟨x, ps, zss, a1, a2, a3, a4⟩ := h1
  obtain ⟨y, qs, uss, b1, b2, b3, b4⟩ := h2
  have e : x = y ∧ zss = uss := by
    rcases a4 with ⟨c1, g, wx, wy, c2, c3, c4, c5, c6⟩ | ⟨c1, g, g', c2, c3, c4, c5⟩
    · rcases b4 with ⟨d1, h, vx, vy, d2, d3, d4, d5, d6⟩ | ⟨d1, h, h', d2, d3, d4, d5⟩
      · rw [c1, d1, c6, d6, way_one c4 d4, way_one c5 d5]
        exact ⟨rfl, rfl⟩
      · exact absurd (by rw [← ring_one c2 d2, ← ring_one c3 d3]) d4
    · rcases b4 with ⟨d1, h, vx, vy, d2, d3, d4, d5, d6⟩ | ⟨d1, h, h', d2, d3, d4, d5⟩
      · exact absurd (by rw [ring_one c2 d2, ring_one c3 d3]) c4
      · rw [c1, d1, c5, d5, ring_one c2 d2, ring_one c3 d3]
        exact ⟨rfl, rfl⟩
  obtain ⟨rfl, rfl⟩ := e
  have hx : PyData.canLay0 (.str x) = true := by
    rcases a4 with ⟨c1, _⟩ | ⟨c1, _⟩
    · rw [c1]; decide +kernel
    · rw [c1]; decide +kernel
  have cl : PyData.canLay0 (.tuple (.str x :: dLs zss)) = true := by
    rw [PyData.canLay0, PyData.canLayAll0, hx, can_dL] <;> rfl
  have sh : SeqAt.shaped (.tuple (.str x :: dLs zss)) = true := by
    have h := dep_dL zss
    have e : PyData.depth (.tuple (.str x :: dLs zss)) ≤ 64 := by
      rw [PyData.depth, PyData.depthAll, PyData.depth]
      omega
    unfold SeqAt.shaped
    rw [cl, decide_eq_true e] <;> rfl
  refine .inr ⟨_, _, .tup (.inl (.inl a1)) (.cons (.str x) (dp_L a2 a3)), .tup (.inl (.inl b1)) (.cons (.str x) (dp_L b2 b3)), sh, sh, ?_⟩
  rw [SeqAt.eqv_refl _ cl]
  exact r
end
end
end KP

set_option linter.all false
set_option maxRecDepth 100000
set_option maxHeartbeats 4000000
namespace KP
open PySem PySem.Spec PyProof.Rows L2 XA XB XC XD XM XE XF XG XT XP
local macro_rules | `(tactic| walk_at "rd") => `(tactic| repeat (first
  | (with_reducible refine rd_seq ?_) | (with_reducible refine rd_asg ?_) | ((with_reducible refine' rd_var ?hv ?_); (case hv => exact rfl)) | (with_reducible refine rd_c ?_) | (with_reducible refine rd_gn ?_)
  | (with_reducible refine rd_op ?_) | (with_reducible refine rd_un ?_) | (with_reducible refine rd_cons ?_) | (with_reducible refine rd_nil ?_) | (with_reducible refine rd_cl ?_) | (with_reducible refine rd_ck ?_) | (with_reducible refine rd_cb ?_)
  | (with_reducible refine rd_ret ?_) | (with_reducible refine rd_drop ?_) | (with_reducible refine rd_ifs ?_) | (with_reducible refine rd_if ?_) | (with_reducible refine rd_test ?_) | (with_reducible refine rd_tb ?_) | (with_reducible refine rd_and ?_) | (with_reducible refine rd_or ?_)
  | (with_reducible refine rd_not ?_) | (with_reducible refine rd_andV ?_) | (with_reducible refine rd_orV ?_) | (with_reducible refine rd_notV ?_) | (with_reducible refine rd_chain ?_) | (with_reducible refine rd_tup ?_) | (with_reducible refine rd_lst ?_)
  | (with_reducible refine rd_bm0 ?_) | (with_reducible refine rd_bm ?_) | (with_reducible refine rd_sl ?_) | (with_reducible refine rd_part ?_) | (with_reducible refine rd_nopart ?_) | (with_reducible refine rd_dget ?_) | (with_reducible refine rd_dput ?_)
  | (with_reducible refine rd_next ?_) | (with_reducible refine rd_lc ?_) | ((with_reducible refine' rd_aug ?hv ?_); (case hv => exact rfl)) | (with_reducible refine rd_cont ?_) | (with_reducible refine rd_gcons ?_) | (with_reducible refine rd_gnil ?_) | (with_reducible refine rd_ifT ?_) | (with_reducible refine rd_yes ?_) | (with_reducible refine rd_tru ?_) | (with_reducible refine rd_cntE ?_) | (with_reducible refine rd_rng1 ?_) | (with_reducible refine rd_lrg ?_) | (with_reducible refine rd_rg2 ?_) | (with_reducible refine rd_back ?_) | (with_reducible refine rd_disp ?_) | (with_reducible refine rd_prN ?_) | (with_reducible refine rd_prC ?_) | (with_reducible refine rd_par ?_) | (with_reducible refine rd_par3 ?_) | (with_reducible refine rd_two ?_) | (with_reducible refine rd_three ?_) | (with_reducible refine rd_one ?_) | (with_reducible refine rd_onei ?_) | (with_reducible refine rd_iL ?_) | (with_reducible refine rd_iT ?_) | (with_reducible refine rd_rng2 ?_) | (with_reducible refine rd_bl ?_) | (with_reducible refine rd_int ?_) | (with_reducible refine rd_I0 ?_) | (with_reducible refine rd_U ?_) | (with_reducible refine rd_din ?_) | (with_reducible refine rd_dnin ?_) | (with_reducible refine rd_dnew ?_) | (with_reducible refine rd_lset ?_) | (with_reducible refine rd_enT ?_) | (with_reducible refine rd_idx ?_) | (with_reducible refine rd_rg1 ?_) | (with_reducible refine rd_tupRg ?_)))

section
variable {P : Program} {w : World} {K : PySem.W.Frag} {mg : Str → Option Value} {base : Heap}
theorem cut_to {xs : List V} {k : Nat} : cutV xs none (some (k : Int)) = xs.take k := by
  unfold cutV
  rw [HT.sIx_none, HT.sIx_nat, List.drop_zero, Nat.sub_zero]
  by_cases z : k ≤ xs.length
  · rw [Nat.min_eq_left z]
  · rw [Nat.min_eq_right (by omega), List.take_of_length_le (by omega), List.take_of_length_le (by omega)]
def spLaw (K : PySem.W.Frag) (Tb : List (Addr × Str)) : Sp := fun vs H Q _ => ∃ (a : Addr) (ns : List Int), vs = [.ref a] ∧ SqL K H a (ns.map V.int) ∧ ns.length ≤ 63 ∧ LamX.Tabs Tb H ∧ ∀ H', Q (.bl true) H'
abbrev s_law : Stmt := top 46
abbrev N_law : List Str := ["script", "state", "turn", "row", "one", "mate", "other", "found", "bad", "deeds", "first", "second", "wrong"]
theorem sc_law : FnScope ["script", "state", "turn", "row", "one", "mate", "other", "found", "bad", "deeds", "first", "second", "wrong"] ["script"] (defScope s_law) := ⟨rfl, rfl, rfl, by decide +kernel, rfl, by decide +kernel, by decide +kernel⟩
theorem bd_law : Bnd s_law "law" ["script"] := fun _ _ _ _ _ _ us hl => match us, hl with | [_], _ => rfl

theorem ok_law {Pt c0 f : Addr} {fd : FuncData} (T : Bs K mg) (Ec : Es K) (TB : LamX.TabB base mg c0 Pt) (F : FunD K "law" "law" (defArgs s_law) (defBody s_law) (defScope s_law) [] [] f fd) (hc : fd.code = .ref c0) (R__law_caught : Rw K mg "_law_caught" s__law_caught)
    (D__law_begun : Df P w K mg base CX0 1 "_law_begun" s__law_begun ["script"] (spBegun K))
    (D__law_draw : Df P w K mg base CX0 2 "_law_draw" s__law_draw ["state", "room"] (spDraw K))
    (D__law_mk_plain : Df P w K mg base CX0 1 "_law_mk_plain" s__law_mk_plain ["letters"] (spPlain K))
    (D__law_mk_ring : Df P w K mg base CX0 2 "_law_mk_ring" s__law_mk_ring ["row"] (spMkRing K))
    (D__law_mk_bad_deeds : Df P w K mg base CX0 5 "_law_mk_bad_deeds" s__law_mk_bad_deeds ["state"] (spBadDeeds K))
    (D__law_mk_bad_row : Df P w K mg base CX0 5 "_law_mk_bad_row" s__law_mk_bad_row ["state", "deeds"] (spBadRow K))
    (D__law_mr_row : Df P w K mg base CX0 6 "_law_mr_row" s__law_mr_row ["state", "deeds"] (spMrRow K))
    (D__law_mr_long : Df P w K mg base CX0 6 "_law_mr_long" s__law_mr_long ["state", "deeds"] (spMrLong K))
    (D__law_mr_mate : Df P w K mg base CX0 7 "_law_mr_mate" s__law_mr_mate ["state", "deeds", "row"] (spMate K))
    (D__law_mr_same : Df P w K mg base CX0 2 "_law_mr_same" s__law_mr_same ["found", "due"] (spSame K))
    (D__law_mr_is_turner : Df P w K mg base CX0 3 "_law_mr_is_turner" s__law_mr_is_turner ["deeds", "one", "other", "found"] (spIsTurner K))
    (D_ring_of : Df P w K mg base (L2.CX P w) 7 "ring_of" s_ring_of ["deeds", "row"] (spRingOf K))
    (D_turner : Df P w K mg base (L2.CX P w) 7 "turner" s_turner ["deeds", "one", "other"] (spTurner K)) :
    FnOk P w K mg base CX0 12 f fd ["script"] (spLaw K [(Pt, "law.<locals>.<lambda>")]) := by
  refine mk0FC F hc sc_law (fun vs H Q E h => ?_) fun A outer sh H vs Q E hr h => ?_
  · obtain ⟨a, ns, rfl, _⟩ := h; rfl
  obtain ⟨a, ns, rfl, hS, hl, hT, q⟩ := h
  refine ⟨_, (pss_cons (ps_set (i := 1) sc_law.nd rfl (Or.inl rfl) (pe_d D__law_begun hr (by decide) (by rfl) pass0 (pa_cons (pv 0) pa_nil)))
      (pss_cons (ps_for PassesOwn.never rfl (pi_range1 (by rfl) T.n_range (pa_cons (pe_op op_addU pe_int (pe_callB (call_min2 rfl) (by rfl) T.n_min (by decide +kernel) (pa_cons (pe_callB call_len (by rfl) T.n_len (by decide +kernel) (pa_cons (pv 0) pa_nil)) (pa_cons pe_int pa_nil)))) pa_nil)) (pg_name (i := 2) sc_law.nd rfl (Or.inl rfl))
        (pss_cons (ps_set (i := 9) sc_law.nd rfl (Or.inr rfl) (pe_op op_addU pe_int (pe_d D__law_draw hr (by decide) (by rfl) pass0 (pa_cons (pv 1) (pa_cons pe_int pa_nil)))))
        (pss_cons (ps_set (i := 3) sc_law.nd rfl (Or.inl rfl) (pe_d D__law_mr_row hr (by decide) (by rfl) pass0 (pa_cons (pv 1) (pa_cons (pv 9) pa_nil))))
        (pss_cons (ps_if (pt_cmpR (op_eqU hr.units) (pe_d D__law_draw hr (by decide) (by rfl) pass0 (pa_cons (pv 1) (pa_cons pe_int pa_nil))) pe_int (nomark _)) (pss_one (ps_set (i := 3) sc_law.nd rfl (Or.inl rfl) (pe_d D__law_mk_plain hr (by decide) (by rfl) pass0 (pa_cons (pe_d D__law_mr_long hr (by decide) (by rfl) pass0 (pa_cons (pv 1) (pa_cons (pv 9) pa_nil))) pa_nil)))) pss_nil)
        (pss_cons (ps_set (i := 4) sc_law.nd rfl (Or.inl rfl) (pe_d D__law_mk_plain hr (by decide) (by rfl) pass0 (pa_cons (pv 3) pa_nil)))
        (pss_cons (ps_set (i := 5) sc_law.nd rfl (Or.inl rfl) (pe_slice sl_U (pe_d D__law_mr_mate hr (by decide) (by rfl) pass0 (pa_cons (pv 1) (pa_cons (pv 9) (pa_cons (pv 4) pa_nil)))) po_none (po_some pe_int)))
        (pss_cons (ps_set (i := 6) sc_law.nd rfl (Or.inl rfl) (pe_d D__law_mk_plain hr (by decide) (by rfl) pass0 (pa_cons (pv 5) pa_nil)))
        (pss_cons (ps_if (pt_not (pt_tru (pe_d D__law_mr_same hr (by decide) (by rfl) pass0 (pa_cons (pe_dk0 D_ring_of bdk_ring_of_0 hr (by decide) (by rfl) passL (pk_cons (pv 9) (pk_cons (pv 3) pk_nil))) (pa_cons (pe_d D__law_mk_ring hr (by decide) (by rfl) pass0 (pa_cons (pv 4) pa_nil)) pa_nil))) (by intro _; rfl))) (pss_one (ps_ret pe_bl)) pss_nil)
        (pss_cons (ps_if (pt_not (pt_tru (pe_d D__law_mr_same hr (by decide) (by rfl) pass0 (pa_cons (pe_d D_ring_of hr (by decide) (by rfl) passL (pa_cons (pv 9) (pa_cons (pv 5) pa_nil))) (pa_cons (pe_d D__law_mk_ring hr (by decide) (by rfl) pass0 (pa_cons (pv 6) pa_nil)) pa_nil))) (by intro _; rfl))) (pss_one (ps_ret pe_bl)) pss_nil)
        (pss_cons (ps_set (i := 7) sc_law.nd rfl (Or.inl rfl) (pe_dk0 D_turner bdk_turner_0 hr (by decide) (by rfl) passL (pk_cons (pv 9) (pk_cons (pv 3) (pk_cons (pv 5) pk_nil)))))
        (pss_cons (ps_if (PW.pt (pw_or (pt_not (pt_tru (pe_d D__law_mr_is_turner hr (by decide) (by rfl) pass0 (pa_cons (pv 9) (pa_cons (pv 4) (pa_cons (pv 6) (pa_cons (pv 7) pa_nil))))) (by intro _; rfl))) (pw_or1 (pt_cmpR (op_neU hr.units) (pe_d D_turner hr (by decide) (by rfl) passL (pa_cons (pv 9) (pa_cons (pv 3) (pa_cons (pv 5) pa_nil)))) (pv 7) (nomark _))))) (pss_one (ps_ret pe_bl)) pss_nil)
        (pss_cons (ps_if (pt_not (pt_tru (pe_d D__law_mr_is_turner hr (by decide) (by rfl) pass0 (pa_cons (pv 9) (pa_cons (pv 6) (pa_cons (pv 4) (pa_cons (pe_d D_turner hr (by decide) (by rfl) passL (pa_cons (pv 9) (pa_cons (pv 5) (pa_cons (pv 3) pa_nil)))) pa_nil))))) (by intro _; rfl))) (pss_one (ps_ret pe_bl)) pss_nil)
        (pss_cons (ps_asg (pe_tup (pa_cons (pe_d D__law_mk_bad_deeds hr (by decide) (by rfl) pass0 (pa_cons (pv 1) pa_nil)) (pa_cons (pe_d D__law_mk_bad_row hr (by decide) (by rfl) pass0 (pa_cons (pv 1) (pa_cons (pv 9) pa_nil))) pa_nil))) (pg_tup (by rfl) (pgs_cons (pg_name (i := 12) sc_law.nd rfl (Or.inr rfl)) (pgs_cons (pg_name (i := 8) sc_law.nd rfl (Or.inr rfl)) pgs_nil))))
        (pss_cons (ps_for PassesOwn.never rfl (pi_U (pe_lst (pa_cons (pe_tup (pa_cons (pv 8) (pa_cons (pv 5) pa_nil))) (pa_cons (pe_tup (pa_cons (pv 3) (pa_cons (pv 8) pa_nil))) (pa_cons (pe_tup (pa_cons (pv 8) (pa_cons (pv 8) pa_nil))) pa_nil))))) (pg_tup (by rfl) (pgs_cons (pg_name (i := 10) sc_law.nd rfl (Or.inr rfl)) (pgs_cons (pg_name (i := 11) sc_law.nd rfl (Or.inr rfl)) pgs_nil)))
          (pss_cons (ps_if (pt_not (pt_tru (pe_callB call_isU (by rfl) T.n_isinstance (by decide +kernel) (pa_cons (pe_lam__law_caught R__law_caught TB rfl T.x_KeepError.g hr (by rfl) (st0 := s_law) rfl (by decide +kernel) (fun A outer s H E f c' hr => (pe_d D_turner hr (by decide) (by rfl) passLam (pa_cons (pv 9) (pa_cons (pv 10) (pa_cons (pv 11) pa_nil)))))) (pa_cons (pe_gc T.x_BadRow.g (by rfl)) pa_nil))) (by intro _; rfl))) (pss_one (ps_ret pe_bl)) pss_nil)
          (pss_one (ps_if (pt_not (pt_tru (pe_callB call_isU (by rfl) T.n_isinstance (by decide +kernel) (pa_cons (pe_lam__law_caught R__law_caught TB rfl T.x_KeepError.g hr (by rfl) (st0 := s_law) rfl (by decide +kernel) (fun A outer s H E f c' hr => (pe_d D_turner hr (by decide) (by rfl) passLam (pa_cons (pv 12) (pa_cons (pv 10) (pa_cons (pv 11) pa_nil)))))) (pa_cons (pe_gc T.x_BadDeeds.g (by rfl)) pa_nil))) (by intro _; rfl))) (pss_one (ps_ret pe_bl)) pss_nil))))
        (pss_cons (ps_if (pt_not (pt_tru (pe_callB call_isU (by rfl) T.n_isinstance (by decide +kernel) (pa_cons (pe_lam__law_caught R__law_caught TB rfl T.x_KeepError.g hr (by rfl) (st0 := s_law) rfl (by decide +kernel) (fun A outer s H E f c' hr => (pe_d D_ring_of hr (by decide) (by rfl) passLam (pa_cons (pv 12) (pa_cons (pv 8) pa_nil))))) (pa_cons (pe_gc T.x_BadDeeds.g (by rfl)) pa_nil))) (by intro _; rfl))) (pss_one (ps_ret pe_bl)) pss_nil)
        (pss_one (ps_if (pt_not (pt_tru (pe_callB call_isU (by rfl) T.n_isinstance (by decide +kernel) (pa_cons (pe_lam__law_caught R__law_caught TB rfl T.x_KeepError.g hr (by rfl) (st0 := s_law) rfl (by decide +kernel) (fun A outer s H E f c' hr => (pe_d D_ring_of hr (by decide) (by rfl) passLam (pa_cons (pv 9) (pa_cons (pv 8) pa_nil))))) (pa_cons (pe_gc T.x_BadRow.g (by rfl)) pa_nil))) (by intro _; rfl))) (pss_one (ps_ret pe_bl)) pss_nil)))))))))))))))))
      (pss_one (ps_ret pe_bl)))), ?_⟩
  walk_at "rd"
  refine ⟨a, ns, rfl, hS, by omega, fun s g c H1 s1 S1 => ?_⟩
  walk_at "rd"
  have T1 := tabs_same hT s1
  refine rd_for ?_
  walk_at "rd"
  refine lenL (s1.seq hS) ?_
  walk_at "rd"
  refine ⟨((ns.map V.int).length : Nat), 4, rfl, ?_⟩
  refine rd_addI ?_
  walk_at "rd"
  refine ⟨by omega, by omega, ?_⟩
  refine for_range (fun i σ H' => ∃ (y2 y3 y4 y5 y6 y7 y8 y9 y10 y11 y12 : Option V), σ = [some (.ref a), some (.ref s), y2, y3, y4, y5, y6, y7, y8, y9, y10, y11, y12] ∧ StAt (2000 * i) H' s g c ∧ LamX.Tabs [(Pt, "law.<locals>.<lambda>")] H')
    ⟨_, _, _, _, _, _, _, _, _, _, _, rfl, S1, T1⟩ (fun i σ H' hi h => ?_) (fun σ H' h => ?_)
  rotate_left
  · obtain ⟨y2, y3, y4, y5, y6, y7, y8, y9, y10, y11, y12, rfl, S2, T2⟩ := h
    walk_at "rd"
    exact q H'
  obtain ⟨y2, y3, y4, y5, y6, y7, y8, y9, y10, y11, y12, rfl, S2, T2⟩ := h
  have hi7 : i < 8 := by
    have e : (if (4 : Int) < ((ns.map V.int).length : Nat) then (4 : Int) else ((ns.map V.int).length : Nat)) ≤ 4 := by split <;> omega
    omega
  clear hT T1 S1 s1 hS
  walk_at "rd"
  refine ⟨s, g, c, 2000 * i, 4, rfl, S2, by omega, by omega, by omega, fun r H3 r0 r1 S3 k3 => ?_⟩
  refine rd_addI ?_
  have T3 := tabs_kept T2 k3 S2
  obtain ⟨n, en⟩ : ∃ n, n = 1 + r := ⟨_, rfl⟩
  rw [← en]
  have n1 : 1 ≤ n := by omega
  have n4 : n ≤ 4 := by omega
  clear k3 S2 T2
  walk_at "rd"
  refine ⟨s, g, c, 2000 * i + 1, n, rfl, S3, by omega, n1, n4, fun p1 x1 H4 S4 k4 t1 l1 e1 => ?_⟩
  have T4 := tabs_kept T3 k4 S3
  walk_at "rd"
  refine ⟨s, g, c, 2000 * i + 1 + 60, 12, rfl, S4, by omega, by omega, by omega, fun r5 H5 _ _ S5 k5 => ?_⟩
  walk_at "rd"
  refine rd_eqI ?_
  walk_at "rd"
  have T5 := tabs_kept T4 k5 S4
  have t1 := k5.tp S4 t1
  clear k4 k5 S4 T4 T3 S3
  refine rd_joinS (C := fun σ H6 => ∃ (p1 : Addr) (x1 : List Int), σ = [some (.ref a), some (.ref s), some (.int (0 + (i : Int))), some (.ref p1), y4, y5, y6, y7, y8, some (.int n), y10, y11, y12] ∧ StAt (2000 * i + 300) H6 s g c ∧ LamX.Tabs [(Pt, "law.<locals>.<lambda>")] H6 ∧
    SqT K H6 p1 (x1.map V.int) ∧ x1.length ≤ 200 ∧ LetS n x1) (fun σ H6 hc => ?_) fun key => ?_
  rotate_left
  · refine rd_ite (fun e => ?_) fun e => ?_
    · walk_at "rd"
      refine ⟨s, g, c, 2000 * i + 1 + 60 + 1, n, rfl, S5, by omega, n1, n4, fun p xs H6 S6 k6 t6 l6 e6 => ?_⟩
      walk_at "rd"
      refine ⟨p, xs, rfl, t6.sqT, by omega, fun p2 H7 s7 t7 => ?_⟩
      have w7 := red_len xs
      exact key _ _ ⟨p2, red xs, rfl, (S6.same s7).mono (by omega), tabs_same (tabs_kept T5 k6 S5) s7, t7.sqT, by omega, e6.red⟩
    · exact key _ _ ⟨p1, x1, rfl, S5.mono (by omega), T5, t1.sqT, by omega, e1⟩
  clear t1 l1 e1 S5 T5
  obtain ⟨p1, x1, rfl, S6, T6, t1, l1, e1⟩ := hc
  have w1 := red_len x1
  dsimp only
  walk_at "rd"
  refine ⟨p1, x1, rfl, t1, by omega, fun pm H7 s7 tm => ?_⟩
  walk_at "rd"
  refine ⟨s, g, c, pm, 2000 * i + 300, n, red x1, rfl, S6.same s7, by omega, n1, n4, tm.sqT, by omega, e1.red, fun pz0 z0 H8 S8 k8 tz0 lz0 ez0 => ?_⟩
  have T8 := tabs_kept (tabs_same T6 s7) k8 (S6.same s7)
  have t1 := k8.sqT (S6.same s7) (sqT_same s7 t1)
  have tm : SqT K H8 pm ((red x1).map V.int) := k8.sqT (S6.same s7) tm.sqT
  walk_at "rd"
  refine slS tz0 fun pz H9 s9 tz => ?_
  rw [show (some (200 : Int)) = some ((200 : Nat) : Int) from rfl, cut_to, ← List.map_take] at tz
  obtain ⟨z, ez⟩ : ∃ z, z = z0.take 200 := ⟨_, rfl⟩
  rw [← ez] at tz
  have lz : z.length ≤ 200 := by rw [ez, List.length_take]; omega
  have lez : LetS n z := fun x hx => ez0 x (List.mem_of_mem_take (by rw [← ez]; exact hx))
  have wz := red_len z
  walk_at "rd"
  refine ⟨pz, z, rfl, tz, by omega, fun po H10 s10 to_ => ?_⟩
  have sB := s9.trans s10
  have SB := S8.same sB
  have TB2 := tabs_same T8 sB
  have t1 := sqT_same sB t1
  have tm := sqT_same sB tm
  have tz := sqT_same s10 tz
  have to_ : SqT K H10 po ((red z).map V.int) := to_.sqT
  clear S6 T6 S8 k8 T8 sB s9 s10 s7 tz0
  -- rings
  walk_at "rd"
  refine ⟨rfl, rfl, ?_⟩
  refine ring_call n1 n4 t1 l1 e1 fun p2 rg H11 s11 t11 r11 lg => ?_
  walk_at "rd"
  refine ⟨pm, red x1, rfl, sqT_same s11 tm, by omega, fun p3 rg2 H12 s12 t12 r12 _ _ => ?_⟩
  rw [red_red] at r12
  obtain rfl := ring_one r11 r12
  walk_at "rd"
  refine ⟨p2, p3, rg, rg, rfl, sqT_same s12 t11, t12, by omega, fun H13 s13 => ?_⟩
  rw [decide_eq_true rfl]
  refine truB ?_
  refine iteF ?_
  have u := s11.trans (s12.trans s13)
  walk_at "rd"
  refine ring_call n1 n4 (sqT_same u tz) lz lez fun p4 rg4 H14 s14 t14 r14 lg4 => ?_
  walk_at "rd"
  refine ⟨po, red z, rfl, sqT_same (u.trans s14) to_, by omega, fun p5 rg5 H15 s15 t15 r15 _ _ => ?_⟩
  rw [red_red] at r15
  obtain rfl := ring_one r14 r15
  walk_at "rd"
  refine ⟨p4, p5, rg4, rg4, rfl, sqT_same s15 t14, t15, by omega, fun H16 s16 => ?_⟩
  rw [decide_eq_true rfl]
  refine truB ?_
  refine iteF ?_
  have u := u.trans (s14.trans (s15.trans s16))
  -- turner
  walk_at "rd"
  refine ⟨rfl, rfl, ?_⟩
  refine turner_call n1 n4 (sqT_same u t1) l1 e1 (sqT_same u tz) lz lez fun pf H17 s17 told gave => ?_
  walk_at "rd"
  have u := u.trans s17
  refine ⟨n, pm, po, pf, red x1, red z, rfl, sqT_same u tm, sqT_same u to_, by omega, by omega, red_red _, red_red _, told, fun H18 s18 => ?_⟩
  refine truB ?_
  refine iteF ?_
  have u := u.trans s18
  walk_at "rd"
  refine turner_call n1 n4 (sqT_same u t1) l1 e1 (sqT_same u tz) lz lez fun pf2 H19 s19 told2 gave2 => ?_
  walk_at "rd"
  have u := u.trans s19
  refine gave_ne gave2 (gave_same (s18.trans s19) gave) ?_
  walk_at "rd"
  refine iteF ?_
  walk_at "rd"
  refine turner_call n1 n4 (sqT_same u tz) lz lez (sqT_same u t1) l1 e1 fun pf3 H20 s20 told3 gave3 => ?_
  walk_at "rd"
  have u := u.trans s20
  refine ⟨n, po, pm, pf3, red z, red x1, rfl, sqT_same u to_, sqT_same u tm, by omega, by omega, red_red _, red_red _, told3, fun H21 s21 => ?_⟩
  refine truB ?_
  refine iteF ?_
  have u := u.trans s21
  -- what is wrong
  walk_at "rd"
  refine ⟨s, g, c, 2000 * i + 300 + 500, rfl, SB.same u, by omega, fun vw dw H22 rw_ bw gw S22 k22 => ?_⟩
  walk_at "rd"
  refine ⟨s, g, c, 2000 * i + 300 + 500 + 1, n, rfl, S22, by omega, n1, n4, fun vb db H23 rb bb gb S23 k23 => ?_⟩
  walk_at "rd"
  refine ⟨XD.lz (by simp), fun p24 h24 => ?_⟩
  obtain ⟨s24, e24⟩ := new_at (o := .tup [vw, vb]) h24
  have kA := k22.trans k23
  have T23 := tabs_kept (tabs_same TB2 u) kA (SB.same u)
  have R23w : Rp K H23 vw dw := k23.rp S22 rw_ gw
  have t23 := kA.sqT (SB.same u) (sqT_same u t1)
  have z23 := kA.sqT (SB.same u) (sqT_same u tz)
  generalize upd H23 p24 (.tup [vw, vb]) = H24 at s24 e24 ⊢
  have w24 := R23w.same s24
  have b24 := rb.same s24
  have t24 := rp_int (sqT_same s24 t23) (by omega)
  have z24 := rp_int (sqT_same s24 z23) (by omega)
  have T24 := tabs_same T23 s24
  have S24 := S23.same s24
  clear T23 R23w t23 z23 rb rw_ kA k22 k23 S22 S23 SB TB2 t1 tm tz to_ told told2 told3 gave gave2 gave3 u
  refine ⟨p24, _, rfl, .inl (.inl e24), rfl, ?_⟩
  walk_at "rd"
  refine .inl ?_
  walk_at "rd"
  refine ⟨XD.lz (by simp), fun a1 h1 => ?_⟩
  obtain ⟨s25, f1⟩ := new_at (o := .tup [vb, .ref pz]) h1
  walk_at "rd"
  generalize upd H24 a1 (.tup [vb, .ref pz]) = H25 at s25 f1 ⊢
  refine ⟨XD.lz (by simp), fun a2 h2 => ?_⟩
  obtain ⟨s26, f2⟩ := new_at (o := .tup [.ref p1, vb]) h2
  walk_at "rd"
  generalize upd H25 a2 (.tup [.ref p1, vb]) = H26 at s26 f2 ⊢
  refine ⟨XD.lz (by simp), fun a3 h3 => ?_⟩
  obtain ⟨s27, f3⟩ := new_at (o := .tup [vb, vb]) h3
  walk_at "rd"
  generalize upd H26 a3 (.tup [vb, vb]) = H27 at s27 f3 ⊢
  refine ⟨XD.lz (by simp), fun a4 h4 => ?_⟩
  obtain ⟨s28, f4⟩ := new_at (o := .lst [.ref a1, .ref a2, .ref a3]) h4
  walk_at "rd"
  generalize upd H27 a4 (.lst [.ref a1, .ref a2, .ref a3]) = H28 at s28 f4 ⊢
  have f3 := s28 _ _ f3
  have f2 := (s27.trans s28) _ _ f2
  have f1 := (s26.trans (s27.trans s28)) _ _ f1
  have v := s25.trans (s26.trans (s27.trans s28))
  have w28 := w24.same v
  have b28 := b24.same v
  have t28 := t24.same v
  have z28 := z24.same v
  have T28 := tabs_same T24 v
  have S28 := S24.same v
  have dn := deeds_in n1 n4
  clear w24 b24 t24 z24 T24 S24 s24 s25 s26 s27 s28 v
  refine ⟨a4, rfl, ⟨_, .inl (.inl f4)⟩, ?_⟩
  refine for_list (xs := [.ref a1, .ref a2, .ref a3]) (fun i' σ H' => ∃ (y2 y4 y6 y7 y10 y11 : Option V), σ = [some (.ref a), some (.ref s), y2, some (.ref p1), y4, some (.ref pz), y6, y7, some vb, some (.int n), y10, y11, some vw] ∧ LamX.ExtN H28 H' ∧ LamX.Tabs [(Pt, "law.<locals>.<lambda>")] H')
    ⟨_, _, _, _, _, _, rfl, .refl _, T28⟩ (fun i' σ H' _ h => ?_) (fun i' x σ H' hx h => ?_) (fun σ H' h => ?_)
  · obtain ⟨y2, y4, y6, y7, y10, y11, rfl, ex, tx⟩ := h
    exact .inl (.inl (ex _ _ f4 (by intro _ z; cases z)))
  · obtain ⟨y2, y4, y6, y7, y10, y11, rfl, ex, tx⟩ := h
    obtain ⟨pt, v2, d2, v3, d3, rfl, et, r2, r3, bad⟩ : ∃ pt v2 d2 v3 d3, x = .ref pt ∧ H28 pt = some (.tup [v2, v3]) ∧ Rp K H28 v2 d2 ∧ Rp K H28 v3 d3 ∧ ¬ (d2.row n = true ∧ d3.row n = true) := by
      rcases List.mem_cons.mp (List.mem_of_getElem? hx) with e | e
      · exact ⟨a1, vb, db, .ref pz, _, e, f1, b28, z28, fun z => by rw [bb] at z; cases z.1⟩
      rcases List.mem_cons.mp e with e | e
      · exact ⟨a2, .ref p1, _, vb, db, e, f2, t28, b28, fun z => by rw [bb] at z; cases z.2⟩
      · exact ⟨a3, vb, db, vb, db, List.mem_singleton.mp e, f3, b28, b28, fun z => by rw [bb] at z; cases z.1⟩
    refine ⟨pt, _, rfl, .inl (.inl (ex _ _ et (by intro _ z; cases z))), rfl, ?_⟩
    walk_at "rd"
    refine rd_caught tx Ec.mR fun Ha Ech Q' xa ta he => ?_
    walk_at "rd"
    have he2 : ∀ H3, Same Ha H3 → Ech (eRow K) none H3 := fun H3 s3 => he _ fun v H4 s4 er => by
      walk_at "rd"
      refine rd_isErr er T.x_BadRow.c (.own _) Ec.kR ?_
      refine truB ?_
      refine iteF ?_
      walk_at "rd"
      have xb := (ex.trans xa).trans (.of (s3.trans s4))
      refine rd_caught (tabs_same ta (s3.trans s4)) Ec.mD fun Hb Ech2 Q2 xc tc he3 => ?_
      walk_at "rd"
      have xd := xb.trans xc
      refine ⟨vw, dw, v2, d2, v3, d3, rfl, ext_rp xd w28, ext_rp xd r2, ext_rp xd r3, fun _ => he3 _ fun v5 H5 s5 er5 => ?_, fun k e1 e2 => ?_⟩
      rotate_left
      · rw [bw] at e2
        cases e2
      walk_at "rd"
      refine rd_isErr er5 T.x_BadDeeds.c (.own _) Ec.kD ?_
      refine truB ?_
      refine iteF ?_
      walk_at "rd"
      exact ⟨_, _, _, _, _, _, rfl, xd.trans (.of s5), tabs_same tc s5⟩
    have xe := ex.trans xa
    refine ⟨.int n, .flat (.int n), v2, d2, v3, d3, rfl, ⟨rfl, rfl⟩, ext_rp xe r2, ext_rp xe r3, fun e => ?_, fun k e1 e2 => ?_⟩
    · rw [dn] at e
      cases e
    · cases e1
      exact ⟨fun _ H3 s3 => he2 H3 s3, fun _ H3 s3 => he2 H3 s3, fun _ _ _ z1 _ z2 => absurd ⟨z1, z2⟩ bad⟩
  obtain ⟨y2, y4, y6, y7, y10, y11, rfl, ex, tx⟩ := h
  walk_at "rd"
  refine rd_caught tx Ec.mD fun H31 Ech Q' x31 t31 he => ?_
  walk_at "rd"
  have xe := ex.trans x31
  refine ⟨vw, dw, vb, db, rfl, ext_rp xe w28, ext_rp xe b28, fun _ => he _ fun u H32 s32 er => ?_, fun k e1 e2 => ?_⟩
  rotate_left
  · rw [bw] at e2
    cases e2
  walk_at "rd"
  refine rd_isErr er T.x_BadDeeds.c (.own _) Ec.kD ?_
  refine truB ?_
  refine iteF ?_
  walk_at "rd"
  refine rd_caught (tabs_same t31 s32) Ec.mR fun H33 Ech Q' x33 t33 he => ?_
  walk_at "rd"
  have xf := (xe.trans (.of s32)).trans x33
  refine ⟨.int n, .flat (.int n), vb, db, rfl, ⟨rfl, rfl⟩, ext_rp xf b28, fun e => ?_, fun k e1 e2 => ?_⟩
  · rw [dn] at e
    cases e
  cases e1
  refine ⟨fun _ H34 s34 => he _ fun u H35 s35 er => ?_, fun _ _ e3 => ?_⟩
  rotate_left
  · rw [bb] at e3
    cases e3
  walk_at "rd"
  refine rd_isErr er T.x_BadRow.c (.own _) Ec.kR ?_
  refine truB ?_
  refine iteF ?_
  exact ⟨_, _, _, _, _, _, _, _, _, _, _, rfl, ((ext_st xf S28).same (s34.trans s35)).mono (by omega), tabs_same t33 (s34.trans s35)⟩
end
end KP

set_option linter.all false
set_option maxRecDepth 100000
set_option maxHeartbeats 0
namespace KP
open PySem PySem.Spec PyProof.Rows L2
def topR (i : Nat) : Stmt := PySem.Challenge.pw_meankept_k01_rings_and_turned_rows.main.body.getD i (.Pass ⟨0, 0, 0, 0⟩)
def dfn (x : Str) (i : Nat) : He.DefD := ⟨(x, none), x, x, defArgs (topR i), defBody (topR i), defScope (topR i), [], []⟩
def hf1 : List He.DefD := [dfn "plain_letters" 5, dfn "undone_letters" 6, dfn "is_whole" 10, dfn "is_whole_from" 11, dfn "is_letter" 12, dfn "are_letters" 13, dfn "is_letter_row" 14, dfn "check_deeds" 15, dfn "taken_row" 16, dfn "first_turn" 18, dfn "ring_and_way" 19, dfn "ring_of" 20, dfn "turner" 21, dfn "_law_begun" 23]
def hf2 : List He.DefD := [dfn "_law_blended" 24, dfn "_law_draw" 25, dfn "_law_pick" 26, dfn "_law_shuffled" 27, dfn "_law_caught" 28, dfn "_law_mk_plain" 29, dfn "_law_mk_undone" 30, dfn "_law_mk_letters" 31, dfn "_law_mk_row" 32, dfn "_law_mk_raw" 33, dfn "_law_mk_ring" 34, dfn "_law_mk_bad_deeds" 35, dfn "_law_mk_bad_row" 36, dfn "_law_mr_whole" 37]
def hf3 : List He.DefD := [dfn "_law_mr_same" 38, dfn "_law_mr_is_row" 39, dfn "_law_mr_times" 40, dfn "_law_mr_turned" 41, dfn "_law_mr_row" 42, dfn "_law_mr_long" 43, dfn "_law_mr_mate" 44, dfn "_law_mr_is_turner" 45, dfn "law" 46]
def hfn : List He.DefD := hf1 ++ hf2 ++ hf3
def hfr : List Str := ["isinstance", "int", "bool", "tuple", "list", "len", "all", "abs", "min", "range", "reversed", "str"]
def hfx : List Str := ["KeepError", "BadDeeds", "BadRow"]
def hfa : List He.Fa := hfr.map He.Fa.free ++ (hfn.map fun d => He.Fa.glo d.name) ++ hfx.map He.Fa.glo ++ hfx.map He.Fa.exc ++ [.int "MOST_DEEDS" 4, .int "MOST_LETTERS" 200, .exm "BadDeeds" "KeepError" true, .exm "BadRow" "KeepError" true]
def htf : List He.Defn := [("law", none)]
def excCB (K : PySem.W.Frag) (x : Str) : Bool := He.eqO (PySem.W.findIn K (.ref (He.ga K x)) "__getattribute__") (some (some (.builtin "BaseException.__getattribute__"))) && (He.eqO (PySem.W.findIn K (.ref (He.ga K x)) "__getattr__") (some none) &&
  (decide (PySem.W.subIn K (.ref (He.ga K x)) (.type "BaseException") = some true) && (PySem.W.hasDictIn K (He.ga K x) && (He.eqO (PySem.W.findIn K (.ref (He.ga K x)) "__class__") (some (some (.builtin "object.__class__"))) &&
  (He.eqO (PySem.W.specialIn K (.builtin "object.__class__") "__get__") (some (some (.builtin "getset_descriptor.__get__"))) && (decide (PySem.W.takesIn K (.builtin "object.__class__") = some true) && decide (PySem.W.mroIn K (He.ga K x) (.type "object") = some true)))))))
def kitB1 (K : PySem.W.Frag) (x : Str) : Bool := decide (PySem.W.kitOne K (.ref (He.ga K x)) (.ref (He.ga K x)) = some true)
def hex_ (K : PySem.W.Frag) : Bool := hfx.all (excCB K) && hfx.all (kitB1 K)
abbrev HR : PySem.W.OpenRow := PySem.W.OpenLaw.row PySem.Challenge.rw_meankept_k01_rings_and_turned_rows
abbrev hk : PySem.W.Hook := He.hookX 5 hfa hfn [] htf hex_
def hob (s : PySem.W.SharedT) : He.AlX := He.obsX 5 hfa hfn [] htf hex_ (HandSHeadRun.getT s)
theorem hob_eq (s : PySem.W.SharedT) : hob s = hk.obs s.abs := He.obsX_eq (HandSHeadRun.getT_eq s)
def hl1 : List Str := ["KeepError", "BadDeeds", "BadRow", "plain_letters", "undone_letters", "MOST_DEEDS", "MOST_LETTERS", "is_whole", "is_whole_from", "is_letter", "are_letters", "is_letter_row", "check_deeds", "taken_row", "first_turn"]
def hl2 : List Str := ["ring_and_way", "ring_of", "turner", "_law_begun", "_law_blended", "_law_draw", "_law_pick", "_law_shuffled", "_law_caught", "_law_mk_plain", "_law_mk_undone", "_law_mk_letters", "_law_mk_row", "_law_mk_raw", "_law_mk_ring"]
def hl3 : List Str := ["_law_mk_bad_deeds", "_law_mk_bad_row", "_law_mr_whole", "_law_mr_same", "_law_mr_is_row", "_law_mr_times", "_law_mr_turned", "_law_mr_row", "_law_mr_long", "_law_mr_mate", "_law_mr_is_turner"]
def hloose : List Str := hl1 ++ hl2 ++ hl3
theorem hrun (w : World) : HandSHeadRun.RunEq HR (PySem.W.view HR.prog [46]) hk hob 2600 hloose w := by
  intro os
  kernel_rfl
end KP

set_option linter.all false
set_option maxRecDepth 100000
set_option maxHeartbeats 4000000
namespace KP
open PySem PySem.Spec PyProof.Rows L2 XA XB XC XD XM XE XF XG
theorem all_of {α : Type} {l : List α} {p : α → Bool} (h : l.all p = true) (i : Nat) {x : α} (e : l[i]? = some x := by rfl) : p x = true := List.all_eq_true.mp h x (List.mem_of_getElem? e)
theorem excC_of {K : PySem.W.Frag} {x : Str} (h : excCB K x = true) : ExcC K (He.ga K x) := by
  obtain ⟨h1, h⟩ := He.ba h
  obtain ⟨h2, h⟩ := He.ba h
  obtain ⟨h3, h⟩ := He.ba h
  obtain ⟨h4, h⟩ := He.ba h
  obtain ⟨h5, h⟩ := He.ba h
  obtain ⟨h6, h⟩ := He.ba h
  obtain ⟨h7, h8⟩ := He.ba h
  exact ⟨He.eqO_ok h1, He.eqO_ok h2, of_decide_eq_true h3, h4, He.eqO_ok h5, He.eqO_ok h6, of_decide_eq_true h7, of_decide_eq_true h8⟩
section
variable {w : World} {K : PySem.W.Frag} {h : Heap} {mg : Str → Option Value}
theorem xc_of (X : K.In h) (G : h.Ns mainGlobals mg) {x : Str} (g : (He.Fa.glo x).ok K = true) (c : (He.Fa.exc x).ok K = true) (e : excCB K x = true) : Xc K mg x (He.ga K x) := by
  obtain ⟨a1, a2, a3, a4⟩ := He.exc_ok c
  exact ⟨He.glo_ok X G g, a1, a2, a3, a4, excC_of e⟩
theorem bs_of (X : K.In h) (G : h.Ns mainGlobals mg) (c : He.SaysX hfa hfn [] htf hex_ w h K) : Bs K mg := by
  have d := c.t.d
  obtain ⟨m1, m2⟩ := He.ba (show (hfx.all (excCB K) && hfx.all (kitB1 K)) = true from c.more)
  exact ⟨He.free_ok X G (d.fact 0 (f := .free "isinstance") rfl),
    He.free_ok X G (d.fact 1 (f := .free "int") rfl),
    He.free_ok X G (d.fact 2 (f := .free "bool") rfl),
    He.free_ok X G (d.fact 3 (f := .free "tuple") rfl),
    He.free_ok X G (d.fact 4 (f := .free "list") rfl),
    He.free_ok X G (d.fact 5 (f := .free "len") rfl),
    He.free_ok X G (d.fact 6 (f := .free "all") rfl),
    He.free_ok X G (d.fact 7 (f := .free "abs") rfl),
    He.free_ok X G (d.fact 8 (f := .free "min") rfl),
    He.free_ok X G (d.fact 9 (f := .free "range") rfl),
    He.free_ok X G (d.fact 10 (f := .free "reversed") rfl),
    He.free_ok X G (d.fact 11 (f := .free "str") rfl),
    He.int_ok X G (d.fact 55 (f := .int "MOST_DEEDS" 4) rfl),
    He.int_ok X G (d.fact 56 (f := .int "MOST_LETTERS" 200) rfl),
    xc_of X G (d.fact 49 (f := .glo "KeepError") rfl) (d.fact 52 (f := .exc "KeepError") rfl) (all_of m1 0),
    xc_of X G (d.fact 50 (f := .glo "BadDeeds") rfl) (d.fact 53 (f := .exc "BadDeeds") rfl) (all_of m1 1),
    xc_of X G (d.fact 51 (f := .glo "BadRow") rfl) (d.fact 54 (f := .exc "BadRow") rfl) (all_of m1 2)⟩
theorem es_of (c : He.SaysX hfa hfn [] htf hex_ w h K) : Es K := by
  have d := c.t.d
  obtain ⟨m1, m2⟩ := He.ba (show (hfx.all (excCB K) && hfx.all (kitB1 K)) = true from c.more)
  exact ⟨He.exm_ok (d.fact 57 (f := .exm "BadDeeds" "KeepError" true) rfl), He.exm_ok (d.fact 58 (f := .exm "BadRow" "KeepError" true) rfl), of_decide_eq_true (all_of m2 1), of_decide_eq_true (all_of m2 2)⟩
abbrev tbQ (K : PySem.W.Frag) : List (Addr × Str) := [((He.cT K ("law", none)).2, "law.<locals>.<lambda>")]
theorem lawAt {f : Addr} (X : K.In h) (G : h.Ns mainGlobals mg) (hf : mg ("law" : Str) = some (.ref f)) (c : He.SaysX hfa hfn [] htf hex_ w h K) :
    LamX.LawAtS PySem.Challenge.rw_meankept_k01_rings_and_turned_rows w K CX0 12 63 "script" mg f h := by
  have d := c.t.d
  have T := bs_of X G c
  have Ec := es_of c
  obtain ⟨f_plain_letters, F_plain_letters⟩ := d.def_ 0 (d := dfn "plain_letters" 5) rfl
  have R_plain_letters : Rw K mg "plain_letters" s_plain_letters := ⟨_, _, F_plain_letters, He.glo_ok X G (d.fact 12 (f := .glo "plain_letters") rfl)⟩
  obtain ⟨f_undone_letters, F_undone_letters⟩ := d.def_ 1 (d := dfn "undone_letters" 6) rfl
  have R_undone_letters : Rw K mg "undone_letters" s_undone_letters := ⟨_, _, F_undone_letters, He.glo_ok X G (d.fact 13 (f := .glo "undone_letters") rfl)⟩
  obtain ⟨f_is_whole, F_is_whole⟩ := d.def_ 2 (d := dfn "is_whole" 10) rfl
  have R_is_whole : Rw K mg "is_whole" s_is_whole := ⟨_, _, F_is_whole, He.glo_ok X G (d.fact 14 (f := .glo "is_whole") rfl)⟩
  obtain ⟨f_is_whole_from, F_is_whole_from⟩ := d.def_ 3 (d := dfn "is_whole_from" 11) rfl
  have R_is_whole_from : Rw K mg "is_whole_from" s_is_whole_from := ⟨_, _, F_is_whole_from, He.glo_ok X G (d.fact 15 (f := .glo "is_whole_from") rfl)⟩
  obtain ⟨f_is_letter, F_is_letter⟩ := d.def_ 4 (d := dfn "is_letter" 12) rfl
  have R_is_letter : Rw K mg "is_letter" s_is_letter := ⟨_, _, F_is_letter, He.glo_ok X G (d.fact 16 (f := .glo "is_letter") rfl)⟩
  obtain ⟨f_are_letters, F_are_letters⟩ := d.def_ 5 (d := dfn "are_letters" 13) rfl
  have R_are_letters : Rw K mg "are_letters" s_are_letters := ⟨_, _, F_are_letters, He.glo_ok X G (d.fact 17 (f := .glo "are_letters") rfl)⟩
  obtain ⟨f_is_letter_row, F_is_letter_row⟩ := d.def_ 6 (d := dfn "is_letter_row" 14) rfl
  have R_is_letter_row : Rw K mg "is_letter_row" s_is_letter_row := ⟨_, _, F_is_letter_row, He.glo_ok X G (d.fact 18 (f := .glo "is_letter_row") rfl)⟩
  obtain ⟨f_check_deeds, F_check_deeds⟩ := d.def_ 7 (d := dfn "check_deeds" 15) rfl
  have R_check_deeds : Rw K mg "check_deeds" s_check_deeds := ⟨_, _, F_check_deeds, He.glo_ok X G (d.fact 19 (f := .glo "check_deeds") rfl)⟩
  obtain ⟨f_taken_row, F_taken_row⟩ := d.def_ 8 (d := dfn "taken_row" 16) rfl
  have R_taken_row : Rw K mg "taken_row" s_taken_row := ⟨_, _, F_taken_row, He.glo_ok X G (d.fact 20 (f := .glo "taken_row") rfl)⟩
  obtain ⟨f_first_turn, F_first_turn⟩ := d.def_ 9 (d := dfn "first_turn" 18) rfl
  have R_first_turn : Rw K mg "first_turn" s_first_turn := ⟨_, _, F_first_turn, He.glo_ok X G (d.fact 21 (f := .glo "first_turn") rfl)⟩
  obtain ⟨f_ring_and_way, F_ring_and_way⟩ := d.def_ 10 (d := dfn "ring_and_way" 19) rfl
  have R_ring_and_way : Rw K mg "ring_and_way" s_ring_and_way := ⟨_, _, F_ring_and_way, He.glo_ok X G (d.fact 22 (f := .glo "ring_and_way") rfl)⟩
  obtain ⟨f_ring_of, F_ring_of⟩ := d.def_ 11 (d := dfn "ring_of" 20) rfl
  have R_ring_of : Rw K mg "ring_of" s_ring_of := ⟨_, _, F_ring_of, He.glo_ok X G (d.fact 23 (f := .glo "ring_of") rfl)⟩
  obtain ⟨f_turner, F_turner⟩ := d.def_ 12 (d := dfn "turner" 21) rfl
  have R_turner : Rw K mg "turner" s_turner := ⟨_, _, F_turner, He.glo_ok X G (d.fact 24 (f := .glo "turner") rfl)⟩
  obtain ⟨f__law_begun, F__law_begun⟩ := d.def_ 13 (d := dfn "_law_begun" 23) rfl
  have R__law_begun : Rw K mg "_law_begun" s__law_begun := ⟨_, _, F__law_begun, He.glo_ok X G (d.fact 25 (f := .glo "_law_begun") rfl)⟩
  obtain ⟨f__law_blended, F__law_blended⟩ := d.def_ 14 (d := dfn "_law_blended" 24) rfl
  have R__law_blended : Rw K mg "_law_blended" s__law_blended := ⟨_, _, F__law_blended, He.glo_ok X G (d.fact 26 (f := .glo "_law_blended") rfl)⟩
  obtain ⟨f__law_draw, F__law_draw⟩ := d.def_ 15 (d := dfn "_law_draw" 25) rfl
  have R__law_draw : Rw K mg "_law_draw" s__law_draw := ⟨_, _, F__law_draw, He.glo_ok X G (d.fact 27 (f := .glo "_law_draw") rfl)⟩
  obtain ⟨f__law_pick, F__law_pick⟩ := d.def_ 16 (d := dfn "_law_pick" 26) rfl
  have R__law_pick : Rw K mg "_law_pick" s__law_pick := ⟨_, _, F__law_pick, He.glo_ok X G (d.fact 28 (f := .glo "_law_pick") rfl)⟩
  obtain ⟨f__law_shuffled, F__law_shuffled⟩ := d.def_ 17 (d := dfn "_law_shuffled" 27) rfl
  have R__law_shuffled : Rw K mg "_law_shuffled" s__law_shuffled := ⟨_, _, F__law_shuffled, He.glo_ok X G (d.fact 29 (f := .glo "_law_shuffled") rfl)⟩
  obtain ⟨f__law_caught, F__law_caught⟩ := d.def_ 18 (d := dfn "_law_caught" 28) rfl
  have R__law_caught : Rw K mg "_law_caught" s__law_caught := ⟨_, _, F__law_caught, He.glo_ok X G (d.fact 30 (f := .glo "_law_caught") rfl)⟩
  obtain ⟨f__law_mk_plain, F__law_mk_plain⟩ := d.def_ 19 (d := dfn "_law_mk_plain" 29) rfl
  have R__law_mk_plain : Rw K mg "_law_mk_plain" s__law_mk_plain := ⟨_, _, F__law_mk_plain, He.glo_ok X G (d.fact 31 (f := .glo "_law_mk_plain") rfl)⟩
  obtain ⟨f__law_mk_undone, F__law_mk_undone⟩ := d.def_ 20 (d := dfn "_law_mk_undone" 30) rfl
  have R__law_mk_undone : Rw K mg "_law_mk_undone" s__law_mk_undone := ⟨_, _, F__law_mk_undone, He.glo_ok X G (d.fact 32 (f := .glo "_law_mk_undone") rfl)⟩
  obtain ⟨f__law_mk_letters, F__law_mk_letters⟩ := d.def_ 21 (d := dfn "_law_mk_letters" 31) rfl
  have R__law_mk_letters : Rw K mg "_law_mk_letters" s__law_mk_letters := ⟨_, _, F__law_mk_letters, He.glo_ok X G (d.fact 33 (f := .glo "_law_mk_letters") rfl)⟩
  obtain ⟨f__law_mk_row, F__law_mk_row⟩ := d.def_ 22 (d := dfn "_law_mk_row" 32) rfl
  have R__law_mk_row : Rw K mg "_law_mk_row" s__law_mk_row := ⟨_, _, F__law_mk_row, He.glo_ok X G (d.fact 34 (f := .glo "_law_mk_row") rfl)⟩
  obtain ⟨f__law_mk_raw, F__law_mk_raw⟩ := d.def_ 23 (d := dfn "_law_mk_raw" 33) rfl
  have R__law_mk_raw : Rw K mg "_law_mk_raw" s__law_mk_raw := ⟨_, _, F__law_mk_raw, He.glo_ok X G (d.fact 35 (f := .glo "_law_mk_raw") rfl)⟩
  obtain ⟨f__law_mk_ring, F__law_mk_ring⟩ := d.def_ 24 (d := dfn "_law_mk_ring" 34) rfl
  have R__law_mk_ring : Rw K mg "_law_mk_ring" s__law_mk_ring := ⟨_, _, F__law_mk_ring, He.glo_ok X G (d.fact 36 (f := .glo "_law_mk_ring") rfl)⟩
  obtain ⟨f__law_mk_bad_deeds, F__law_mk_bad_deeds⟩ := d.def_ 25 (d := dfn "_law_mk_bad_deeds" 35) rfl
  have R__law_mk_bad_deeds : Rw K mg "_law_mk_bad_deeds" s__law_mk_bad_deeds := ⟨_, _, F__law_mk_bad_deeds, He.glo_ok X G (d.fact 37 (f := .glo "_law_mk_bad_deeds") rfl)⟩
  obtain ⟨f__law_mk_bad_row, F__law_mk_bad_row⟩ := d.def_ 26 (d := dfn "_law_mk_bad_row" 36) rfl
  have R__law_mk_bad_row : Rw K mg "_law_mk_bad_row" s__law_mk_bad_row := ⟨_, _, F__law_mk_bad_row, He.glo_ok X G (d.fact 38 (f := .glo "_law_mk_bad_row") rfl)⟩
  obtain ⟨f__law_mr_whole, F__law_mr_whole⟩ := d.def_ 27 (d := dfn "_law_mr_whole" 37) rfl
  have R__law_mr_whole : Rw K mg "_law_mr_whole" s__law_mr_whole := ⟨_, _, F__law_mr_whole, He.glo_ok X G (d.fact 39 (f := .glo "_law_mr_whole") rfl)⟩
  obtain ⟨f__law_mr_same, F__law_mr_same⟩ := d.def_ 28 (d := dfn "_law_mr_same" 38) rfl
  have R__law_mr_same : Rw K mg "_law_mr_same" s__law_mr_same := ⟨_, _, F__law_mr_same, He.glo_ok X G (d.fact 40 (f := .glo "_law_mr_same") rfl)⟩
  obtain ⟨f__law_mr_is_row, F__law_mr_is_row⟩ := d.def_ 29 (d := dfn "_law_mr_is_row" 39) rfl
  have R__law_mr_is_row : Rw K mg "_law_mr_is_row" s__law_mr_is_row := ⟨_, _, F__law_mr_is_row, He.glo_ok X G (d.fact 41 (f := .glo "_law_mr_is_row") rfl)⟩
  obtain ⟨f__law_mr_times, F__law_mr_times⟩ := d.def_ 30 (d := dfn "_law_mr_times" 40) rfl
  have R__law_mr_times : Rw K mg "_law_mr_times" s__law_mr_times := ⟨_, _, F__law_mr_times, He.glo_ok X G (d.fact 42 (f := .glo "_law_mr_times") rfl)⟩
  obtain ⟨f__law_mr_turned, F__law_mr_turned⟩ := d.def_ 31 (d := dfn "_law_mr_turned" 41) rfl
  have R__law_mr_turned : Rw K mg "_law_mr_turned" s__law_mr_turned := ⟨_, _, F__law_mr_turned, He.glo_ok X G (d.fact 43 (f := .glo "_law_mr_turned") rfl)⟩
  obtain ⟨f__law_mr_row, F__law_mr_row⟩ := d.def_ 32 (d := dfn "_law_mr_row" 42) rfl
  have R__law_mr_row : Rw K mg "_law_mr_row" s__law_mr_row := ⟨_, _, F__law_mr_row, He.glo_ok X G (d.fact 44 (f := .glo "_law_mr_row") rfl)⟩
  obtain ⟨f__law_mr_long, F__law_mr_long⟩ := d.def_ 33 (d := dfn "_law_mr_long" 43) rfl
  have R__law_mr_long : Rw K mg "_law_mr_long" s__law_mr_long := ⟨_, _, F__law_mr_long, He.glo_ok X G (d.fact 45 (f := .glo "_law_mr_long") rfl)⟩
  obtain ⟨f__law_mr_mate, F__law_mr_mate⟩ := d.def_ 34 (d := dfn "_law_mr_mate" 44) rfl
  have R__law_mr_mate : Rw K mg "_law_mr_mate" s__law_mr_mate := ⟨_, _, F__law_mr_mate, He.glo_ok X G (d.fact 46 (f := .glo "_law_mr_mate") rfl)⟩
  obtain ⟨f__law_mr_is_turner, F__law_mr_is_turner⟩ := d.def_ 35 (d := dfn "_law_mr_is_turner" 45) rfl
  have R__law_mr_is_turner : Rw K mg "_law_mr_is_turner" s__law_mr_is_turner := ⟨_, _, F__law_mr_is_turner, He.glo_ok X G (d.fact 47 (f := .glo "_law_mr_is_turner") rfl)⟩
  obtain ⟨f_law, F_law⟩ := d.def_ 36 (d := dfn "law" 46) rfl
  have hc : ∃ c0, f_law.code = .ref c0 := by
    obtain ⟨oc, od, dV, kV, doc, pm, an, cdv, ct, osl, e, lk, hcd, _, _⟩ := F_law.ex
    subst e
    exact He.codeIn_ref hcd
  obtain ⟨c0, hc⟩ := hc
  have hcT : (He.cT K ("law", none)).1 = c0 := by
    obtain ⟨oc, od, dV, kV, doc, pm, an, cdv, ct, osl, e, lk, hcd, _, _⟩ := F_law.ex
    subst e
    exact He.codeOf_eq lk hc
  have hg := He.glo_ok X G (d.fact 48 (f := .glo "law") rfl)
  have ef := hf.symm.trans hg
  cases ef
  have b := FunD.bindsA (ps := ["script"]) F_law fun _ _ _ _ _ _ us hl => match us, hl with | [_], _ => rfl
  refine ⟨f_law, [He.cT K ("law", none)], spLaw K (tbQ K), fun p hp => ?_, fun p hp => ?_, fun p hp => ?_, fun s v => b s [v] rfl, fun H a ns hl _ hT hS => ?_, fun base hK hN hT => ?_⟩
  · rw [List.mem_singleton.mp hp]
    exact c.empty _ (List.mem_singleton_self _)
  · rw [List.mem_singleton.mp hp]
    exact c.out _ (List.mem_singleton_self _)
  · rw [List.mem_singleton.mp hp]
    exact PySem.W.codeHd_of_K X (c.hd _ (List.mem_singleton_self _))
  · refine ⟨a, ns, rfl, hS, hl, fun p hp => ?_, fun _ => rfl⟩
    rw [List.mem_singleton.mp hp]
    exact LamX.TabS.nil (hT _ (List.mem_singleton_self _))
  · have TB := hT _ (List.mem_singleton_self _)
    rw [hcT] at TB
    have D_plain_letters := d_plain_letters (P := (PySem.Challenge.rw_meankept_k01_rings_and_turned_rows).prog) (w := w) (base := base) T R_plain_letters
    have D_undone_letters := d_undone_letters (P := (PySem.Challenge.rw_meankept_k01_rings_and_turned_rows).prog) (w := w) (base := base) T R_undone_letters
    have D_is_whole := d_is_whole (P := (PySem.Challenge.rw_meankept_k01_rings_and_turned_rows).prog) (w := w) (base := base) T R_is_whole
    have D_is_whole_from := d_is_whole_from (P := (PySem.Challenge.rw_meankept_k01_rings_and_turned_rows).prog) (w := w) (base := base) T R_is_whole_from D_is_whole
    have D_is_letter := d_is_letter (P := (PySem.Challenge.rw_meankept_k01_rings_and_turned_rows).prog) (w := w) (base := base) T R_is_letter D_is_whole_from
    have D_are_letters := d_are_letters (P := (PySem.Challenge.rw_meankept_k01_rings_and_turned_rows).prog) (w := w) (base := base) T R_are_letters D_is_letter
    have D_is_letter_row := d_is_letter_row (P := (PySem.Challenge.rw_meankept_k01_rings_and_turned_rows).prog) (w := w) (base := base) T R_is_letter_row D_are_letters
    have D_check_deeds := d_check_deeds (P := (PySem.Challenge.rw_meankept_k01_rings_and_turned_rows).prog) (w := w) (base := base) T R_check_deeds D_is_whole_from
    have D_taken_row := d_taken_row (P := (PySem.Challenge.rw_meankept_k01_rings_and_turned_rows).prog) (w := w) (base := base) T R_taken_row D_is_letter_row D_plain_letters
    have D_first_turn := d_first_turn (P := (PySem.Challenge.rw_meankept_k01_rings_and_turned_rows).prog) (w := w) (base := base) T R_first_turn
    have D_ring_and_way := d_ring_and_way (P := (PySem.Challenge.rw_meankept_k01_rings_and_turned_rows).prog) (w := w) (base := base) T R_ring_and_way D_first_turn
    have D_ring_of := d_ring_of (P := (PySem.Challenge.rw_meankept_k01_rings_and_turned_rows).prog) (w := w) (base := base) T R_ring_of D_check_deeds D_taken_row D_ring_and_way
    have D_turner := d_turner (P := (PySem.Challenge.rw_meankept_k01_rings_and_turned_rows).prog) (w := w) (base := base) T R_turner D_check_deeds D_taken_row D_ring_and_way D_plain_letters D_undone_letters
    have D__law_begun := d__law_begun (P := (PySem.Challenge.rw_meankept_k01_rings_and_turned_rows).prog) (w := w) (base := base) T R__law_begun
    have D__law_blended := d__law_blended (P := (PySem.Challenge.rw_meankept_k01_rings_and_turned_rows).prog) (w := w) (base := base) T R__law_blended
    have D__law_draw := d__law_draw (P := (PySem.Challenge.rw_meankept_k01_rings_and_turned_rows).prog) (w := w) (base := base) T R__law_draw D__law_blended
    have D__law_pick := d__law_pick (P := (PySem.Challenge.rw_meankept_k01_rings_and_turned_rows).prog) (w := w) (base := base) T R__law_pick D__law_draw
    have D__law_shuffled := d__law_shuffled (P := (PySem.Challenge.rw_meankept_k01_rings_and_turned_rows).prog) (w := w) (base := base) T R__law_shuffled D__law_draw
    have D__law_mk_plain := d__law_mk_plain (P := (PySem.Challenge.rw_meankept_k01_rings_and_turned_rows).prog) (w := w) (base := base) T R__law_mk_plain
    have D__law_mk_undone := d__law_mk_undone (P := (PySem.Challenge.rw_meankept_k01_rings_and_turned_rows).prog) (w := w) (base := base) T R__law_mk_undone
    have D__law_mk_letters := d__law_mk_letters (P := (PySem.Challenge.rw_meankept_k01_rings_and_turned_rows).prog) (w := w) (base := base) T R__law_mk_letters
    have D__law_mk_row := d__law_mk_row (P := (PySem.Challenge.rw_meankept_k01_rings_and_turned_rows).prog) (w := w) (base := base) T R__law_mk_row D__law_draw D__law_pick D__law_mk_letters
    have D__law_mk_raw := d__law_mk_raw (P := (PySem.Challenge.rw_meankept_k01_rings_and_turned_rows).prog) (w := w) (base := base) T R__law_mk_raw D__law_draw D__law_pick D__law_mk_letters
    have D__law_mk_ring := d__law_mk_ring (P := (PySem.Challenge.rw_meankept_k01_rings_and_turned_rows).prog) (w := w) (base := base) T R__law_mk_ring D__law_mk_plain
    have D__law_mk_bad_deeds := d__law_mk_bad_deeds (P := (PySem.Challenge.rw_meankept_k01_rings_and_turned_rows).prog) (w := w) (base := base) T R__law_mk_bad_deeds D__law_pick
    have D__law_mk_bad_row := d__law_mk_bad_row (P := (PySem.Challenge.rw_meankept_k01_rings_and_turned_rows).prog) (w := w) (base := base) T R__law_mk_bad_row D__law_pick
    have D__law_mr_whole := d__law_mr_whole (P := (PySem.Challenge.rw_meankept_k01_rings_and_turned_rows).prog) (w := w) (base := base) T R__law_mr_whole
    have D__law_mr_same := d__law_mr_same (P := (PySem.Challenge.rw_meankept_k01_rings_and_turned_rows).prog) (w := w) (base := base) T R__law_mr_same D__law_mr_whole
    have D__law_mr_is_row := d__law_mr_is_row (P := (PySem.Challenge.rw_meankept_k01_rings_and_turned_rows).prog) (w := w) (base := base) T R__law_mr_is_row D__law_mr_whole D__law_mk_plain
    have D__law_mr_times := d__law_mr_times (P := (PySem.Challenge.rw_meankept_k01_rings_and_turned_rows).prog) (w := w) (base := base) T R__law_mr_times D__law_mk_plain D__law_mk_undone
    have D__law_mr_turned := d__law_mr_turned (P := (PySem.Challenge.rw_meankept_k01_rings_and_turned_rows).prog) (w := w) (base := base) T R__law_mr_turned D__law_mk_plain D__law_mk_undone
    have D__law_mr_row := d__law_mr_row (P := (PySem.Challenge.rw_meankept_k01_rings_and_turned_rows).prog) (w := w) (base := base) T R__law_mr_row D__law_draw D__law_mk_row D__law_mk_raw D__law_mr_times D__law_mr_turned
    have D__law_mr_long := d__law_mr_long (P := (PySem.Challenge.rw_meankept_k01_rings_and_turned_rows).prog) (w := w) (base := base) T R__law_mr_long D__law_mk_row
    have D__law_mr_mate := d__law_mr_mate (P := (PySem.Challenge.rw_meankept_k01_rings_and_turned_rows).prog) (w := w) (base := base) T R__law_mr_mate D__law_draw D__law_pick D__law_mk_letters D__law_mk_row D__law_mk_raw D__law_mk_ring D__law_mk_plain D__law_mk_undone D__law_mr_turned D__law_shuffled D__law_mr_row
    have D__law_mr_is_turner := d__law_mr_is_turner (P := (PySem.Challenge.rw_meankept_k01_rings_and_turned_rows).prog) (w := w) (base := base) T R__law_mr_is_turner D__law_mr_is_row D__law_mr_turned D__law_mk_ring D__law_mr_same
    exact ok_law T Ec TB F_law hc R__law_caught D__law_begun D__law_draw D__law_mk_plain D__law_mk_ring D__law_mk_bad_deeds D__law_mk_bad_row D__law_mr_row D__law_mr_long D__law_mr_mate D__law_mr_same D__law_mr_is_turner D_ring_of D_turner
end
end KP
open PySem PySem.W PySem.Calls PyProof.Rows
theorem PySem.Challenge.cw_meankept_k01_rings_and_turned_rows_holds : PySem.Challenge.rw_meankept_k01_rings_and_turned_rows.Holds := by
  w_on; o_law
  refine HandSHeadRun.head_any (r := OpenLaw.row PySem.Challenge.rw_meankept_k01_rings_and_turned_rows) (q := view (OpenLaw.row PySem.Challenge.rw_meankept_k01_rings_and_turned_rows).prog [46]) (H := KP.hk) (ob := KP.hob) (M := 2600) (loose := KP.hloose) (d := HandSHeadRun.topDef (OpenLaw.row PySem.Challenge.rw_meankept_k01_rings_and_turned_rows).prog 46) (kwd := []) KP.hob_eq
    (by kernel_rfl) (fun s => by kernel_rfl) KP.hrun (by kernel_rfl) (by kernel_rfl) (by kernel_rfl) (by rfl) (by first | assumption | decide +kernel) (by decide +kernel) ⟨rfl, rfl, rfl, rfl, rfl, by decide +kernel⟩ ?hw ?hc
  case hw => w_witness2
  case hc =>
    refine LamX.walk_ofTsE (l := PySem.Challenge.rw_meankept_k01_rings_and_turned_rows) (n := 63) (k := 12) (x := "script") (CX := fun _ => L2.CX0) rfl (by decide) (by kernel_rfl) ⟨rfl, by decide, by decide⟩ ?F (fun _ _ _ _ _ z => z)
    intro w mg fa h Y G hmg0
    obtain ⟨K, KX, c⟩ := Y
    have hmg : mg ("law" : PySem.Str) = some (.ref fa) := by
      have e : (HandSHeadRun.topDef (OpenLaw.row PySem.Challenge.rw_meankept_k01_rings_and_turned_rows).prog 46).name = ("law" : PySem.Str) := by kernel_rfl
      rw [← e]
      exact hmg0
    exact ⟨K, KX, KP.lawAt KX G hmg c⟩
