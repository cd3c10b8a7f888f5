import PyProof.Rows.All
import Wide.All
import OpenK.AllK
import Wide.FinOn
import HandS.Base
import HandS.Call
import HandS.CallLocal
import HandS.Conv
import HandS.Defaults
import HandS.EndTab
import HandS.Ends
import HandS.ExcIs
import HandS.ExcValue
import HandS.FStr
import HandS.ForExc
import HandS.ForMost
import HandS.Gcd
import HandS.Head0
import HandS.Head1
import HandS.Head2
import HandS.HeadEnd
import HandS.HeadHook1
import HandS.HeadHook2
import HandS.HeadHook3
import HandS.HeadHook4
import HandS.HeadWalk
import HandS.IsInst
import HandS.Lambda
import HandS.LawCells
import HandS.More
import HandS.RaiseMore
import HandS.Rev
import HandS.SetFor
import HandS.Small
import HandS.Strs
import HandS.Style
import HandS.TryOnly
import HandS.TupAny
import HandS.TupMul
import HandS.Walk
import HandS.Wide
import HandS.Words
import HandS.WordsExc
import HandS.Zip0
import PyProof.EqAt
import PyProof.FactsAll.tuple_2
import PyProof.ListMulRoad
import PySem.Challenge.RW_meankept_k03_houses_and_kept_places
set_option Elab.async false
set_option linter.all false
set_option maxRecDepth 100000
set_option maxHeartbeats 4000000
/-! XA: tuple * int in all cases, tuple.count, unions of operators by kind. -/
namespace XA
open PySem PySem.Spec PyProof.Rows L2
theorem tuple_mul1 (l : Addr) (items : Array Value) (n : Nat) (dd : Option Addr) (sl : Array (Option Value)) (x : Int) (u : Tok) (c0 : (decide (x < -(2 ^ 63)) || decide (x ≥ 2 ^ 63)) = false) (c1 : (items.isEmpty || x == 1) = true) :
    Meets (Builtin.«tuple.__mul__» ⟨[.ref l, .int x u], []⟩) (fun _ R s => s.heap.get? l = some { cls := .type "tuple", dict := dd, data := .seq items n, slots := sl } ∧
      R (.ok (.ret (Value.ref l))) s) :=
  .of_wp fun prog w A R s h => by
    obtain ⟨hp, g, d, tk, os⟩ := s
    obtain ⟨hl, h⟩ := h
    have f1 := AutoSeq1.idx_int
    wp_walk using wpAny_loadPart' hl
    repeat (first
      | (refine wpAny_ite_false (decide_eq_false (by rw [c0]; exact Bool.false_ne_true)) ?_; wp_walk using wpAny_loadPart' hl)
      | (refine wpAny_ite_true (decide_eq_true (by rw [c1])) ?_; wp_walk using wpAny_loadPart' hl))
    all_goals first | exact ⟨_, rfl, h⟩ | exact h | skip
theorem tuple_mul0 (l : Addr) (items : Array Value) (n : Nat) (dd : Option Addr) (sl : Array (Option Value)) (x : Int) (u : Tok) (c0 : (decide (x < -(2 ^ 63)) || decide (x ≥ 2 ^ 63)) = false) (c1 : (items.isEmpty || x == 1) = false) (c2 : (decide (x ≤ 0) || items.isEmpty) = true) :
    Meets (Builtin.«tuple.__mul__» ⟨[.ref l, .int x u], []⟩) (fun _ R s => s.heap.get? l = some { cls := .type "tuple", dict := dd, data := .seq items n, slots := sl } ∧
      R (.ok (.ret (Value.ref s.heap.objs.size))) { s with heap := s.heap.push { cls := Value.type "tuple", data := Data.seq #[] }, toks := s.toks }) :=
  .of_wp fun prog w A R s h => by
    obtain ⟨hp, g, d, tk, os⟩ := s
    obtain ⟨hl, h⟩ := h
    have f1 := AutoSeq1.idx_int
    wp_walk using wpAny_loadPart' hl
    repeat (first
      | (refine wpAny_ite_false (decide_eq_false (by rw [c0]; exact Bool.false_ne_true)) ?_; wp_walk using wpAny_loadPart' hl)
      | (refine wpAny_ite_false (decide_eq_false (by rw [c1]; exact Bool.false_ne_true)) ?_; wp_walk using wpAny_loadPart' hl)
      | (refine wpAny_ite_true (decide_eq_true (by rw [c2])) ?_; wp_walk using wpAny_loadPart' hl))
    all_goals first | exact ⟨_, rfl, h⟩ | exact h | skip
/-- tuple * int: the same tuple, or a new one -/
def rRepA (K : PySem.W.Frag) : R2 := fun x y H Q => ∃ l k xs, x = .ref l ∧ y = .int k ∧ SqT K H l xs ∧ -1000 ≤ k ∧ k ≤ 1000 ∧ xs.length ≤ 1000 ∧
  ((xs = [] ∨ k = 1) → Q (.ref l) H) ∧ (¬ (xs = [] ∨ k = 1) → ∀ p, H p = none → Q (.ref p) (upd H p (.tup (List.replicate k.toNat xs).flatten)))
section
variable {X : Cx}
theorem op_repA : OpR X (binaryOp .Mult) (rRepA X.K) := by
  intro pins s σ H x y v u Q I rx ry h
  obtain ⟨l, k, xs, rfl, rfl, hT, h1, h2, hz, q1, q2⟩ := h
  by_cases hc : xs = [] ∨ k = 1
  · have q := q1 hc
    cases rx
    obtain ⟨t, rfl⟩ := ry
    obtain ⟨its, r, ⟨⟨cls, dd, data, sl⟩, ho, hcl, n, hd⟩, hs⟩ := I.tuple hT
    simp only at hcl hd
    subst hcl hd
    have c0 : (decide (k < -(2 ^ 63)) || decide (k ≥ 2 ^ 63)) = false := by
      rw [decide_eq_false (by omega), decide_eq_false (by omega)] <;> rfl
    have c1 : (its.toArray.isEmpty || k == 1) = true := by
      rcases hc with e | e
      · subst e
        cases r
        rfl
      · subst e
        simp
    exact wpAny_binaryOp_repeat_ref (T := "tuple") (U := "int") (by decide) ⟨_, ho, rfl⟩ (fun s' => typeIs_int s' k t) noFill_tuple_mul F.fills_int_mul F.slot_int_rmul repeat_tuple F.slot_int_index.lookup
      (call_meets F.slot_int_rmul (typeIs_int s k t) F.entry_int_rmul (F.args_int_rmul_2 _ _) (int_rmul_tuple k t l its.toArray n dd sl)
        ⟨ho, rfl, ⟨_, ho, rfl⟩, call_meets F.slot_tuple_mul ⟨_, ho, rfl⟩ F.entry_tuple_mul (F.args_tuple_mul_2 _ _) (tuple_mul1 l its.toArray n dd sl k t c0 c1) ⟨ho, ⟨.ref l, H, I, rfl, q⟩⟩⟩)
  · have q := q2 hc
    have hne : xs ≠ [] := fun e => hc (.inl e)
    have hk1 : k ≠ 1 := fun e => hc (.inr e)
    by_cases hk : k ≤ 0
    · have e0 : (List.replicate k.toNat xs).flatten = [] := by
        rw [show k.toNat = 0 by omega] <;> rfl
      rw [e0] at q
      cases rx
      obtain ⟨t, rfl⟩ := ry
      obtain ⟨its, r, ⟨⟨cls, dd, data, sl⟩, ho, hcl, n, hd⟩, hs⟩ := I.tuple hT
      simp only at hcl hd
      subst hcl hd
      have c0 : (decide (k < -(2 ^ 63)) || decide (k ≥ 2 ^ 63)) = false := by
        rw [decide_eq_false (by omega), decide_eq_false (by omega)] <;> rfl
      have hi : its.toArray.isEmpty = false := by
        cases r with
        | nil => exact absurd rfl hne
        | cons a b => rfl
      have c1 : (its.toArray.isEmpty || k == 1) = false := by
        rw [hi, Bool.false_or]
        exact beq_eq_false_iff_ne.mpr hk1
      have c2 : (decide (k ≤ 0) || its.toArray.isEmpty) = true := by
        rw [decide_eq_true hk] <;> rfl
      refine wpAny_binaryOp_repeat_ref (T := "tuple") (U := "int") (by decide) ⟨_, ho, rfl⟩ (fun s' => typeIs_int s' k t) noFill_tuple_mul F.fills_int_mul F.slot_int_rmul repeat_tuple F.slot_int_index.lookup
        (call_meets F.slot_int_rmul (typeIs_int s k t) F.entry_int_rmul (F.args_int_rmul_2 _ _) (int_rmul_tuple k t l its.toArray n dd sl)
          ⟨ho, rfl, ⟨_, ho, rfl⟩, call_meets F.slot_tuple_mul ⟨_, ho, rfl⟩ F.entry_tuple_mul (F.args_tuple_mul_2 _ _) (tuple_mul0 l its.toArray n dd sl k t c0 c1 c2) ⟨ho, ?_⟩⟩)
      refine ⟨.ref s.heap.objs.size, _, I.laid (t' := s.toks) (o := .tup []) (fun b ob q => Heap.get?_push_of_some _ q) (Nat.le_refl _) ?_, rfl, q _ (I.hok.fresh (Nat.le_refl _))⟩
      exact ⟨Nat.zero_le _, [], .nil, IsTup.new _ _⟩
    · exact op_repT pins s σ H _ _ v u Q I rx ry ⟨l, k, xs, rfl, rfl, hT, hne, by omega, h2, hz, q⟩
end
/-! ### tuples whose object is known: no dict of their own -/
def Tp (H : Hp) (p : Addr) (xs : List V) : Prop := ∃ o, H p = some (.frz o (.tup xs)) ∧ o.cls = .type "tuple" ∧ o.dict = none
theorem Tp.sqT {K : PySem.W.Frag} {H : Hp} {p : Addr} {xs : List V} (t : Tp H p xs) : SqT K H p xs := by
  obtain ⟨o, h, _⟩ := t
  exact .inl (.inr ⟨o, h⟩)
theorem Tp.same {H H' : Hp} {p : Addr} {xs : List V} (t : Tp H p xs) (k : Same H H') : Tp H' p xs := by
  obtain ⟨o, h, a, b⟩ := t
  exact ⟨o, k _ _ h, a, b⟩
/-- a new such tuple -/
def NewT (H : Hp) (xs : List V) (Q : VK) : Prop := ∀ p o, H p = none → o.cls = .type "tuple" → o.dict = none → Q (.ref p) (upd H p (.frz o (.tup xs)))
section
variable {X : Cx} {pins : List (Addr × Obj)} {σ : L2.St} {H : Hp} {s : Shared}
theorem newT_laid {h' : Heap} {tk : Nat} {xs : List V} {its : List Value} {Q : VK} (I : Inv X pins σ H { s with heap := h', toks := tk }) (hz : xs.length ≤ sizeLine) (r : Vals xs its) (q : NewT H xs Q) :
    EP X pins σ Q (.ref h'.objs.size) { s with heap := h'.push { cls := .type "tuple", data := .seq its.toArray }, toks := tk } :=
  ⟨.ref h'.objs.size, _, I.laid (t' := tk) (o := .frz { cls := .type "tuple", data := .seq its.toArray } (.tup xs)) (fun b ob e => Heap.get?_push_of_some _ e) (Nat.le_refl _)
    ⟨Heap.get?_push_size _ rfl, hz, its, r, IsTup.new _ _⟩, rfl, q _ _ (I.hok.fresh (Nat.le_refl _)) rfl rfl⟩
end
section
variable {X : Cx}
/-- tuple(xs), a list: a new one; a tuple: itself -/
def rTupOf (K : PySem.W.Frag) : List V → Hp → VK → Prop := fun xs H Q => ∃ p ys, xs = [.ref p] ∧ ((SqL K H p ys ∧ NewT H ys Q) ∨ (SqT K H p ys ∧ Q (.ref p) H))
theorem call_tupN : CallR X (.type "tuple") (rTupOf X.K) := by
  intro pins s σ H xs us Q I r h
  obtain ⟨p, ys, rfl, h⟩ := h
  obtain ⟨u, rfl, rx⟩ := vals1 r
  cases rx
  rcases h with ⟨hq, q⟩ | ⟨hq, q⟩
  · obtain ⟨its, r', pl, hz⟩ := I.list hq
    have hlen := r'.length
    refine call_tuple_list pl.isList (fun h' kp => ?_) (by simp only [List.size_toArray] <;> omega)
    have I1 : Inv X pins σ H { s with heap := h', toks := s.toks } := I.kept (t' := s.toks) kp
    exact newT_laid I1 hz r' q
  · obtain ⟨its, r', pl, hz⟩ := I.tuple hq
    exact call_tuple_same pl ⟨.ref p, H, I, rfl, q⟩
/-- t[lo:hi] -/
def rSlN (K : PySem.W.Frag) : V → Option Int → Option Int → Hp → VK → Prop := fun x lo hi H Q => ∃ a xs, x = .ref a ∧ SqT K H a xs ∧
  (HT.sIx xs.length 0 lo = 0 ∧ HT.sIx xs.length xs.length hi = xs.length → Q (.ref a) H) ∧ (¬ (HT.sIx xs.length 0 lo = 0 ∧ HT.sIx xs.length xs.length hi = xs.length) → NewT H (cutV xs lo hi) Q)
theorem sl_tupN : SlR X (rSlN X.K) := by
  intro pins s σ H x v vl vu lo hi sl Q I rx hs pl pu h
  obtain ⟨a, xs, rfl, hx, q1, q2⟩ := h
  by_cases hw : HT.sIx xs.length 0 lo = 0 ∧ HT.sIx xs.length xs.length hi = xs.length
  · exact sl_tupA pins s σ H _ v vl vu lo hi sl Q I rx hs pl pu ⟨a, xs, rfl, hx, q1, fun z => absurd hw z⟩
  · have q := q2 hw
    cases rx
    obtain ⟨its, r, ht, hz⟩ := I.tuple hx
    have hlen : its.toArray.size = xs.length := by rw [List.size_toArray]; exact r.length.symm
    refine ⟨"tuple", _, PyProof.Rows.slot_tuple_getitem.lookup, ht.typeIs, ?_⟩
    refine HT.getItem_tuple_cut ht hs pl pu (by rw [hlen]; exact hw) ?_ (by rw [hlen]; exact hz)
    rw [hlen]
    exact newT_laid (h' := s.heap) (tk := s.toks) I (Nat.le_trans (cutV_length xs lo hi) hz) ((r.drop (HT.sIx xs.length 0 lo)).take (HT.sIx xs.length xs.length hi - HT.sIx xs.length 0 lo)) q
/-- tuple * int -/
def rRepN (K : PySem.W.Frag) : R2 := fun x y H Q => ∃ l k xs, x = .ref l ∧ y = .int k ∧ SqT K H l xs ∧ -1000 ≤ k ∧ k ≤ 1000 ∧ xs.length ≤ 1000 ∧
  ((xs = [] ∨ k = 1) → Q (.ref l) H) ∧ (¬ (xs = [] ∨ k = 1) → NewT H (List.replicate k.toNat xs).flatten Q)
theorem op_repN : OpR X (binaryOp .Mult) (rRepN X.K) := by
  intro pins s σ H x y v u Q I rx ry h
  obtain ⟨l, k, xs, rfl, rfl, hT, h1, h2, hz, q1, q2⟩ := h
  by_cases hc : xs = [] ∨ k = 1
  · exact op_repA pins s σ H _ _ v u Q I rx ry ⟨l, k, xs, rfl, rfl, hT, h1, h2, hz, q1, fun z => absurd hc z⟩
  · have q := q2 hc
    have hne : xs ≠ [] := fun e => hc (.inl e)
    have hk1 : k ≠ 1 := fun e => hc (.inr e)
    cases rx
    obtain ⟨t, rfl⟩ := ry
    obtain ⟨its, r, ⟨⟨cls, dd, data, sl⟩, ho, hcl, n, hd⟩, hs⟩ := I.tuple hT
    simp only at hcl hd
    subst hcl hd
    have hle : its.length = xs.length := r.length.symm
    have c0 : (decide (k < -(2 ^ 63)) || decide (k ≥ 2 ^ 63)) = false := by
      rw [decide_eq_false (by omega), decide_eq_false (by omega)] <;> rfl
    have hi : its.toArray.isEmpty = false := by
      cases r with
      | nil => exact absurd rfl hne
      | cons a b => rfl
    have c1 : (its.toArray.isEmpty || k == 1) = false := by
      rw [hi, Bool.false_or]
      exact beq_eq_false_iff_ne.mpr hk1
    by_cases hk : k ≤ 0
    · have e0 : (List.replicate k.toNat xs).flatten = [] := by
        rw [show k.toNat = 0 by omega] <;> rfl
      rw [e0] at q
      have c2 : (decide (k ≤ 0) || its.toArray.isEmpty) = true := by
        rw [decide_eq_true hk] <;> rfl
      refine wpAny_binaryOp_repeat_ref (T := "tuple") (U := "int") (by decide) ⟨_, ho, rfl⟩ (fun s' => typeIs_int s' k t) noFill_tuple_mul F.fills_int_mul F.slot_int_rmul repeat_tuple F.slot_int_index.lookup
        (call_meets F.slot_int_rmul (typeIs_int s k t) F.entry_int_rmul (F.args_int_rmul_2 _ _) (int_rmul_tuple k t l its.toArray n dd sl)
          ⟨ho, rfl, ⟨_, ho, rfl⟩, call_meets F.slot_tuple_mul ⟨_, ho, rfl⟩ F.entry_tuple_mul (F.args_tuple_mul_2 _ _) (tuple_mul0 l its.toArray n dd sl k t c0 c1 c2) ⟨ho, ?_⟩⟩)
      exact newT_laid (h' := s.heap) (tk := s.toks) (xs := []) (its := []) I (Nat.zero_le _) .nil q
    · have hsz0 : its.toArray.size = xs.length := by rw [List.size_toArray, hle]
      have hm : ((its.toArray.size : Nat) : Int) * k ≤ 1000000 := by
        rw [hsz0]
        have a1 : ((xs.length : Nat) : Int) * k ≤ 1000 * k := Int.mul_le_mul_of_nonneg_right (by omega) (by omega)
        omega
      have flen : (List.replicate k.toNat its).flatten.length ≤ sizeLine := by
        rw [PyProof.Rows.lm_len_rep_flat, hle, sizeLine_eq]
        have a1 : k.toNat * xs.length ≤ 1000 * 1000 := Nat.mul_le_mul (by omega) hz
        omega
      have c2 : (decide (k ≤ 0) || its.toArray.isEmpty) = false := by
        rw [hi, Bool.or_false]
        exact decide_eq_false (by omega)
      have c4 : Builtin.Tuple.tupleTooMany (((its.toArray.size : Nat) : Int) * k) = false := by
        unfold Builtin.Tuple.tupleTooMany
        rw [sizeLine_eq]
        exact decide_eq_false (by omega)
      refine wpAny_binaryOp_repeat_ref (T := "tuple") (U := "int") (by decide) ⟨_, ho, rfl⟩ (fun s' => typeIs_int s' k t) noFill_tuple_mul F.fills_int_mul F.slot_int_rmul repeat_tuple F.slot_int_index.lookup
        (call_meets F.slot_int_rmul (typeIs_int s k t) F.entry_int_rmul (F.args_int_rmul_2 _ _) (int_rmul_tuple k t l its.toArray n dd sl)
          ⟨ho, rfl, ⟨_, ho, rfl⟩, call_meets F.slot_tuple_mul ⟨_, ho, rfl⟩ F.entry_tuple_mul (F.args_tuple_mul_2 _ _) (tuple_mulW l its.toArray n dd sl k t c0 c1 c2 (by omega) c4 (by rw [size_rep, List.size_toArray]; exact flen)) ⟨ho, ?_⟩⟩)
      rw [size_rep]
      refine newT_laid (h' := s.heap) (tk := s.toks) I ?_ (r.rep k.toNat) q
      rw [PyProof.Rows.lm_len_rep_flat, sizeLine_eq]
      have a1 : k.toNat * xs.length ≤ 1000 * 1000 := Nat.mul_le_mul (by omega) hz
      omega
/-! ### t.count(k), whole numbers -/
def tCnt (to te : TE) : TE := fun σ H Q => to σ H fun x H1 => ∃ (p : Addr) (ns : List Int), x = .ref p ∧ Tp H1 p (ns.map V.int) ∧ tCons te tNil σ H1 fun vs H2 => ∃ y, vs = [y] ∧ ∃ k, y = .int k ∧ Tp H2 p (ns.map V.int) ∧ Q (.int (ns.count k : Nat)) H2
variable {o e : Expr} {to te : TE} {apos cpos : Pos}
theorem pe_cnt (ho : PE X o to) (he : PE X e te)
    (hbase : attributeBase o "count" X.env (eval o X.env) = eval o X.env := by rfl)
    (hfew : ((backTo cpos (starEach [e] X.env)).all (fun x => !x.1) && (backToKw cpos (keywordEach [] X.env)).all (fun x => x.1.isSome)
      && decide (([e] : List Expr).length + ([] : List Keyword).length + (if ([] : List Keyword).isEmpty then 0 else 1) < 30)) = true := by rfl)
    (hline : (apos.endLine == cpos.line) = true := by rfl) (hs : starEach [e] X.env = (false, eval e X.env) :: starEach [] X.env := by rfl) (hplain : (backTo cpos (starEach [] X.env)).any (·.1) = false := by rfl) :
    PE X (.Call (.Attribute o "count" apos) [e] [] cpos) (tCnt to te) := by
  refine ⟨fun pins s σ H Q I h => ?_⟩
  refine wpAny_Call_method_late hbase hfew hline rfl (thn (ho.run pins s σ H _ I h) fun v s1 ⟨x, H1, I1, r1, p, ns, ex, hT, q1⟩ => ?_)
  subst ex
  obtain rfl : v = Value.ref p := r1
  obtain ⟨ob, hp, hc, hd⟩ := hT
  obtain ⟨ho', _⟩ := (show ObjOk X.prog X.w H1 s1.heap p (.frz ob (.tup (ns.map V.int))) from I1.hok p _ hp)
  refine ⟨"tuple", "tuple.count", PySem.F.plainAttrs_tuple, PySem.F.slot_tuple_count, PySem.F.type_tuple_count, ⟨ob, ho', hc⟩, fun a ea => by cases ea; exact ⟨ob, ho', hd⟩, ?_⟩
  have hA := (show PA X [e] (tCons te tNil) from pa_cons he pa_nil hs).run cpos pins s1 σ H1 (fun vs H2 => ∃ y, vs = [y] ∧ ∃ k, y = .int k ∧ Tp H2 p (ns.map V.int) ∧ Q (.int (ns.count k : Nat)) H2) I1 q1
  rw [hs] at hA ⊢
  refine Calls.callWith_builtin (by show (false || (backTo cpos (starEach [] X.env)).any (·.1)) = false; rw [hplain] <;> rfl) (Calls.evalArgs_plain ?_)
  refine thn hA fun us s2 ⟨vs, H2, I2, r2, y, ev, k, ey, hT2, q2⟩ => ?_
  subst ev ey
  obtain ⟨u, rfl, t, rfl⟩ := vals1 r2
  obtain ⟨ob2, hp2, hc2, hd2⟩ := hT2
  obtain ⟨ho2, hz, its, rv, ob3, ho3, hc3, n3, hd3⟩ := (show ObjOk X.prog X.w H2 s2.heap p (.frz ob2 (.tup (ns.map V.int))) from I2.hok p _ hp2)
  obtain ⟨oc, od, dt, sl⟩ := ob3
  simp only at hc3 hd3
  subst hc3 hd3
  have hi := ints_of_vals rv
  refine call_meets PySem.F.slot_tuple_count ⟨_, ho3, rfl⟩ PySem.F.entry_tuple_count (PySem.F.args_tuple_count_2 _ _)
    (SeqAt.tuple_countAt p its.toArray n3 od sl (.int k t) (eqk k)) ⟨ho3, fun y hy => (eqk_gives hi y (by simpa using hy)).at _ _, ?_⟩
  have ec : its.toArray.toList.countP (eqk k) = ns.count k := eqk_count hi
  refine ⟨.int (ns.count k : Nat), H2, I2.tok _, ⟨s2.toks, ?_⟩, q2⟩
  show Value.int ((its.toArray.toList.countP (eqk k) : Nat) : Int) s2.toks = Value.int ((ns.count k : Nat) : Int) s2.toks
  rw [ec]
end
end XA

set_option linter.all false
set_option maxRecDepth 100000
set_option maxHeartbeats 4000000
/-! XB: a caught exception kept as a value; isinstance of it. -/
namespace XB
open PySem PySem.Spec PyProof.Rows L2
/-- a caught exception at a -/
def ExV (cls : Value) (d : Option Addr) (a : Addr) : HO := .ext fun h => ∃ (oe : Obj) (vs : Array Value), h.get? a = some oe ∧ Zc cls d oe ∧ oe.data = .fields vs
theorem exV_ok {P : Program} {w : World} {H : Hp} {h : Heap} {a : Addr} {cls : Value} {d : Option Addr} {oe : Obj} {vs : Array Value} (e : h.get? a = some oe) (z : Zc cls d oe) (dd : oe.data = .fields vs) : ObjOk P w H h a (ExV cls d a) :=
  ⟨⟨oe, vs, e, z, dd⟩, ⟨oe, e⟩, fun _ _ ⟨o, v, q, r⟩ k => ⟨o, v, k o q, r⟩⟩
section
variable {X : Cx} {pins : List (Addr × Obj)} {σ : L2.St} {H : Hp} {s : Shared}
theorem track {a : Addr} {oe : Obj} {vs : Array Value} {cls : Value} {d : Option Addr} (I : Inv X ((a, oe) :: pins) σ H s) (n0 : X.s_0.heap.get? a = none) (hz : Zc cls d oe) (hd : oe.data = .fields vs) (hp : ∀ p ∈ X.pn ++ pins, p.1 ≠ a) :
    Inv X pins σ (upd H a (ExV cls d a)) s := by
  obtain ⟨ha, na, nL, nF, hc⟩ := I.pin (a, oe) (List.mem_append_right _ List.mem_cons_self)
  have ne0 : ∀ b o, X.s_0.heap.get? b = some o → b ≠ a := fun b o e z => by
    rw [z, n0] at e
    cases e
  have neS : ∀ b u, H b = some u → b ≠ a := fun b u e => ne_of_none e na
  have neC : ∀ x c, X.env.cells.lookup x = some c → c ≠ a := fun x c e z => by
    obtain ⟨v, o, ho, hd'⟩ := I.cell x c e
    rw [z, ha] at ho
    cases ho
    exact hc v hd'
  refine ⟨I.ok, I.os, I.bare, ⟨I.base.keep, I.base.slot, fun b o e n hx => ?_, I.base.there, fun b xs e => ?_, fun b o u e => ?_, fun b ps e => ?_⟩, I.loc, I.cell, ?_, fun x c e => ?_, fun p hq => ?_, I.hok.laidN (fun _ _ q => q) na (exV_ok ha hz hd), I.len⟩
  · rw [upd_ne (ne0 b o e)]
    exact I.base.free b o e n hx
  · have q := I.base.tups b xs e
    rw [upd_ne (neS b _ q)]
    exact q
  · have q := I.base.frzs b o u e
    rw [upd_ne (neS b _ q)]
    exact q
  · obtain ⟨m, q⟩ := I.base.tbls b ps e
    exact ⟨m, by rw [upd_ne (neS b _ q)]; exact q⟩
  · rw [upd_ne (Ne.symm nL)]
    exact I.free
  · rw [upd_ne (neC x c e)]
    exact I.freeC x c e
  · obtain ⟨e, n, ne, nf, dd⟩ := I.pin p (by
      rcases List.mem_append.mp hq with z | z
      · exact List.mem_append_left _ z
      · exact List.mem_append_right _ (List.mem_cons_of_mem _ z))
    exact ⟨e, by rw [upd_ne (hp p hq)]; exact n, ne, nf, dd⟩
theorem pinned {a : Addr} {oe : Obj} {pn' : List (Addr × Obj)} (I : Inv (X.suite a ((a, oe) :: (X.pn ++ pins))) pn' σ H s) (ok : X.Ok) : Inv X ((a, oe) :: pins) σ H s :=
  ⟨ok, I.os, I.bare, I.base, I.loc, I.cell, I.free, I.freeC, fun p hp => I.pin p (List.mem_append_left _ (by
    rcases List.mem_append.mp hp with z | z
    · exact List.mem_cons_of_mem _ (List.mem_append_left _ z)
    · rcases List.mem_cons.mp z with e | z
      · rw [e]
        exact List.mem_cons_self
      · exact List.mem_cons_of_mem _ (List.mem_append_right _ z))), I.hok, I.len⟩
end
/-- 'except x as n', behind whose suite the exception is kept -/
def wAsV (K : PySem.W.Frag) (c : Value) (i : Nat) (ts : Addr → Value → Option Addr → TS) (Wout : WX) (D : Ends) : WX := fun cls d σ H =>
  ∃ b, PySem.W.exmOne K cls c = some b ∧ (b = true → ∀ a, H a = none → ts a cls d { nx := fun σ' H' => D.nx (σ'.set i none) (upd H' a (ExV cls d a)), rt := fun v H' => D.rt v (upd H' a (ExV cls d a)), bk := fun σ' H' => D.bk (σ'.set i none) (upd H' a (ExV cls d a)), ct := fun σ' H' => D.ct (σ'.set i none) (upd H' a (ExV cls d a)) } (σ.set i (some (.ref a))) H) ∧
    (b = false → Wout cls d σ H)
section
variable {X : Cx} {pins : List (Addr × Obj)} {σ σ1 : L2.St} {H H1 : Hp} {s sI : Shared} {B h3 : Heap} {a : Addr} {cls c : Value} {d : Option Addr} {x n : Str} {i : Nat} {b0 : Stmt} {suite : List Stmt} {np ps1 : Pos} {ts : Addr → Value → Option Addr → TS} {Wout : WX} {D : Ends}
/-- an exception in flight is no frame -/
theorem off_frames {l : List Env} {h : Heap} (fl : HandSPX.FlyingZ B l a (Zc cls d) h) : a ∉ frs l := by
  intro hm
  obtain ⟨oe, vs, e1, _, e2⟩ := fl.there
  obtain ⟨_, o2, e3, e4⟩ := Heap.FunFrames.mem fl.2.2.1 hm
  obtain rfl : oe = o2 := Option.some.inj (e1.symm.trans e3)
  exact e4 _ e2
/-- it wasn't there at the entry, and is no pin -/
theorem was_new (J : Inv X pins σ H sI) (grd : ∀ b o, sI.heap.get? b = some o → b ∉ frs X.stack → B.get? b = some o) (hB : B.get? a = none) (out : a ∉ frs X.stack) (hex : X.ex = []) :
    X.s_0.heap.get? a = none ∧ ∀ p ∈ X.pn ++ pins, p.1 ≠ a := by
  have no : ∀ o, sI.heap.get? a ≠ some o := fun o e => by
    have z := grd a o e out
    rw [hB] at z
    cases z
  constructor
  · cases e : X.s_0.heap.get? a with
    | none => rfl
    | some o =>
      obtain ⟨o2, e2⟩ := J.base.there a o e (fun z => by rw [hex] at z; cases z)
      exact absurd e2 (no o2)
  · intro p hp z
    have e2 := (J.pin p hp).1
    rw [z] at e2
    exact no _ e2
/-- the suite, behind which the name goes and the exception stays known -/
theorem suite_keeps (ok : X.Ok) (hN : X.N.Nodup) (hi : X.N[i]? = some n) (hln : X.env.kindOf n = some .local) (J : Inv X pins σ H { s with heap := h3 }) (fl : HandSPX.FlyingZ B (X.env :: X.outer) a (Zc cls d) h3) (na : H a = none) (nL : a ≠ X.env.locals) (nF : a ∉ X.fs)
    (new : X.s_0.heap.get? a = none ∧ ∀ p ∈ X.pn ++ pins, p.1 ≠ a)
    (hsu : ∀ (a : Addr) (oe : Obj) (cls : Value) (d : Option Addr) (pn : List (Addr × Obj)), Zc cls d oe → (∃ vs, oe.data = .fields vs) → PSs (X.suite a ((a, oe) :: pn)) (b0 :: suite) (ts a cls d))
    (q : ts a cls d { nx := fun σ' H' => D.nx (σ'.set i none) (upd H' a (ExV cls d a)), rt := fun v H' => D.rt v (upd H' a (ExV cls d a)), bk := fun σ' H' => D.bk (σ'.set i none) (upd H' a (ExV cls d a)), ct := fun σ' H' => D.ct (σ'.set i none) (upd H' a (ExV cls d a)) } (σ.set i (some (.ref a))) H) :
    wpAny (model X.prog X.w) (X.A.mark (some (.ref a))) (storeName X.env n (.ref a))
      (fun _ s5 => wpAny (model X.prog X.w) (X.A.mark (some (.ref a))) (execs (b0 :: suite) X.env)
        (fun f s6 => wpAny (model X.prog X.w) X.A (do bindName X.env n .none; unbindBehindTheSuite X.env n ps1) (fun _ s7 => SP X pins D f s7) X.xe s6) (fun _ _ => False) s5) (fun _ _ => False) { s with heap := h3 } := by
  obtain ⟨oe, vs, e1, z1, f1⟩ := fl.there
  refine store_ok (X := X.suite a ((a, oe) :: (X.pn ++ pins))) (v := .ref a) (J.suite e1 f1 na nL nF) hN hi (.inl hln) rfl (fun s5 J5 => ?_) (.inr hln)
  have run := (hsu a oe cls d (X.pn ++ pins) z1 ⟨_, f1⟩).run [] s5 _ H _ J5 q
  refine wpAny_mono run (fun f s6 out => ?_) fun _ _ no => no
  have go : ∀ {σ6 : L2.St} {H6 : Hp} {R : Shared → Prop}, Inv (X.suite a ((a, oe) :: (X.pn ++ pins))) [] σ6 H6 s6 → (∀ s7, Inv X pins (σ6.set i none) (upd H6 a (ExV cls d a)) s7 → R s7) →
      wpAny (model X.prog X.w) X.A (do bindName X.env n .none; unbindBehindTheSuite X.env n ps1) (fun _ s7 => R s7) X.xe s6 := fun J6 k =>
    gone_ok (pinned J6 ok) hN hi hln fun s7 J7 => k s7 (track J7 new.1 z1 f1 new.2)
  match f, out with
  | .next, ⟨_, _, J6, k⟩ => exact go J6 fun _ J7 => ⟨_, _, J7, k⟩
  | .brk, ⟨_, _, J6, k⟩ => exact go J6 fun _ J7 => ⟨_, _, J7, k⟩
  | .cont, ⟨_, _, J6, k⟩ => exact go J6 fun _ J7 => ⟨_, _, J7, k⟩
  | .ret _, ⟨_, _, _, J6, r, k⟩ => exact go J6 fun _ J7 => ⟨_, _, _, J7, r, k⟩
/-- the clause met by an exception that came down onto it -/
theorem clause_ok (hs : X.stack = X.env :: X.outer) (hf : X.env.frame = some X.env.locals) (hex : X.ex = []) (hN : X.N.Nodup) (hi : X.N[i]? = some n) (hln : X.env.kindOf n = some .local) (hc : Names X x c) (tk : Takes X Wout)
    (hsu : ∀ (a : Addr) (oe : Obj) (cls : Value) (d : Option Addr) (pn : List (Addr × Obj)), Zc cls d oe → (∃ vs, oe.data = .fields vs) → PSs (X.suite a ((a, oe) :: pn)) (b0 :: suite) (ts a cls d))
    (J : Inv X pins σ H sI) (grd : ∀ b o, sI.heap.get? b = some o → b ∉ frs X.stack → B.get? b = some o) (up : sI.heap.UpToSlots h3) (os : s.os = sI.os) (ag : AllBare s.gens) (na : H a = none) (fl : HandSPX.FlyingZ B (X.env :: X.outer) a (Zc cls d) h3)
    (wish : wAsV X.K c i ts Wout D cls d σ H) :
    wpAny (model X.prog X.w) X.A (handleBy (.ref a) X.env [.ExceptHandler (some (.Name x np)) (some n) (b0 :: suite) ps1]) (SP X pins D) X.xe { s with heap := h3 } := by
  have ok := J.ok
  have out := off_frames fl
  have out2 : a ∉ frs X.stack := by rw [hs]; exact out
  have nL : a ≠ X.env.locals := fun z => out (by
    unfold frs
    rw [List.filterMap_cons, hf, z]
    exact List.mem_cons_self)
  have nF : a ∉ X.fs := fun z => out (by
    unfold frs
    rw [List.filterMap_cons, hf]
    exact List.mem_cons_of_mem _ z)
  have new := was_new J grd fl.2.1 out2 hex
  have down : ∀ {h : Heap}, HandSPX.FlyingZ B (X.env :: X.outer) a (Zc cls d) h → sI.heap.UpToSlots h → Inv X pins σ H { s with heap := h } := fun f u => J.landed (s' := { s with heap := _ }) grd f.1 u os ag
  obtain ⟨b, m1, yes, no⟩ := wish
  obtain ⟨oe, vs, e1, z1, f1⟩ := fl.there
  have J3 := down fl up
  have J3s := J3.suite e1 f1 na nL nF
  have ty : PySem.W.Looks (model X.prog X.w) h3 (typeOf (.ref a)) cls := fun A Q E s k q => wpAny_typeOf_ref (k _ _ e1) (by rw [z1.1]; exact q)
  have meets := PySem.W.exm_one (M := model X.prog X.w) J3.kIn ty m1
  have named : ∀ {Q : Value → Shared → Prop} {E : Value → Shared → Prop}, Q c { s with heap := h3 } → wpAny (model X.prog X.w) (X.A.mark (some (.ref a))) (eval (.Name x np) X.env) Q E { s with heap := h3 } := fun {Q E} q => by
    obtain ⟨g1, g2, g3 | ⟨g3, g4, g5⟩⟩ := hc
    · exact ld_glob (X := X.suite a ((a, oe) :: (X.pn ++ pins))) J3s g1 g3 q g2
    · exact ld_blt (X := X.suite a ((a, oe) :: (X.pn ++ pins))) J3s g1 g3 g4 q g5 g2
  refine wpAny_handleBy_cons (codeAny_handlers_test (named (meets.here ?_))) (by intro z; cases z)
  cases b with
  | true =>
    refine codeAny_handlers_suite_as (HandSPX.lands_againZ fl fun h4 fl4 up4 => ?_)
    exact wpAny_mono (suite_keeps (ps1 := ps1) ok hN hi hln (down fl4 (up.trans up4)) fl4 na nL nF new hsu (yes rfl a na)) (fun _ s5 h5 => wpAny_mono h5 (fun f s6 h6 => h6) fun _ _ no => no.elim) fun _ _ no => no.elim
  | false =>
    refine wpAny_handleBy_nil ?_
    obtain ⟨_, _, _, oe2, vs2, T, oT, tv, g1, g2, g3, g4, g5⟩ := id fl
    unfold PySem.passOn
    refine wpAny_bind (wpAny_field g1 g3 g4 ?_)
    rw [if_neg (by simp : ¬ ((Value.ref T == Value.none) = true))]
    have last : wpAny (model X.prog X.w) X.A (setFlight (.ref a) X.env.frame) (fun _ s4 => wpAny (model X.prog X.w) X.A (throw (.ref a) : Sem Flow) (SP X pins D) X.xe s4) X.xe { s with heap := h3 } := by
      rw [hf]
      exact HandSPX.setFlight_upZ fl fun h4 held up4 => wpAny_throw (tk _ _ ⟨a, B, sI, pins, σ, H, cls, d, rfl, J, grd, up.trans up4, .inr (.inr (by rw [hs]; exact held)), na, os, ag, no rfl⟩)
    first
      | exact wpAny_bind (wpAny_pure (wpAny_bind last))
      | exact wpAny_bind last
end
section
variable {X : Cx} {x n : Str} {c : Value} {i : Nat} {body suite : List Stmt} {b0 : Stmt} {np ps1 ps2 : Pos} {tb : WX → TS} {ts : Addr → Value → Option Addr → TS} {Wout : WX}
/-- try: body / except x as n: suite; the exception stays known behind it -/
theorem ps_try_asV (hs : X.stack = X.env :: X.outer) (hf : X.env.frame = some X.env.locals) (hex : X.ex = []) (hN : X.N.Nodup) (hi : X.N[i]? = some n) (hln : X.env.kindOf n = some .local) (hc : Names X x c) (tk : Takes X Wout)
    (hb : ∀ (W : WX) (pn : List (Addr × Obj)) (xe : Value → Shared → Prop), Takes (X.tr pn xe) W → PassesOwn (model X.prog X.w) X.A X.env xe → PSs (X.tr pn xe) body (tb W))
    (hsu : ∀ (a : Addr) (oe : Obj) (cls : Value) (d : Option Addr) (pn : List (Addr × Obj)), Zc cls d oe → (∃ vs, oe.data = .fields vs) → PSs (X.suite a ((a, oe) :: pn)) (b0 :: suite) (ts a cls d)) :
    PS X (.Try body [.ExceptHandler (some (.Name x np)) (some n) (b0 :: suite) ps1] [] [] ps2) (fun D σ H => tb (wAsV X.K c i ts Wout D) D σ H) := by
  constructor
  intro pins s σ H D I h
  have ok := I.ok
  refine wpAny_Try_except ?_
  let hd : List ExceptHandler := [.ExceptHandler (some (.Name x np)) (some n) (b0 :: suite) ps1]
  let out : Value → Shared → Prop := fun e s1 => wpAny (model X.prog X.w) X.A (noteFrame e X.env) (fun _ s2 => wpAny (model X.prog X.w) X.A (setFlight e none) (fun _ s3 => wpAny (model X.prog X.w) X.A (handleBy e X.env hd) (SP X pins D) X.xe s3) X.xe s2) X.xe s1
  have caught : Takes (X.tr (X.pn ++ pins) out) (wAsV X.K c i ts Wout D) := by
    rintro u s1 ⟨a, B, sI, pins1, σ1, H1, cls, d, rfl, J, grd, up, sky, na, os, ag, wish⟩
    have sky2 : Sky B (X.env :: X.outer) a (Zc cls d) X.env.locals s1.heap := by
      rw [← hs]
      exact sky
    exact Sky.land Zc.steady (by rw [ok.frames, hs]) hf sky2 fun h3 fl u3 => clause_ok hs hf hex hN hi hln hc tk hsu (J.ofTry ok) grd (up.trans u3) os ag na fl wish
  have run := (hb _ (X.pn ++ pins) out caught PassesOwn.looking).run [] s σ H D (I.toTry _) h
  refine wpAny_mono run (fun f s1 q => ?_) fun e s1 q => q
  match f, q with
  | .next, ⟨_, _, J, k⟩ => exact wpAny_execs_nil ⟨_, _, J.ofTry ok, k⟩
  | .brk, ⟨_, _, J, k⟩ => exact ⟨_, _, J.ofTry ok, k⟩
  | .cont, ⟨_, _, J, k⟩ => exact ⟨_, _, J.ofTry ok, k⟩
  | .ret _, ⟨_, _, _, J, r, k⟩ => exact ⟨_, _, _, J.ofTry ok, r, k⟩
end
/-! ### isinstance of it -/
/-- isinstance(x, c): a plain thing, or a caught exception of the class D -/
def rIsU (K : PySem.W.Frag) : List V → Hp → VK → Prop := fun xs H Q => rIsi K xs H Q ∨ ∃ (a D : Addr) (c : V) (cv : Value) (b : Bool), xs = [.ref a, c] ∧ H a = some (ExV (.ref D) none a) ∧ ExcC K D ∧ ClsV c cv ∧ PySem.W.kitOne K (.ref D) cv = some b ∧ Q (.bl b) H
theorem call_isU {X : Cx} : CallR X (.builtin "isinstance") (rIsU X.K) := by
  intro pins s σ H xs us Q I r h
  rcases h with h | ⟨a, D, c, cv, b, rfl, ha, C, k, e, q⟩
  · exact call_isi pins s σ H xs us Q I r h
  · obtain ⟨u1, u2, rfl, r1, r2⟩ := vals2 r
    cases (show u1 = Value.ref a from r1)
    have e2 := k.eq r2
    subst e2
    obtain ⟨⟨oe, vs, ho, hz, hd⟩, _, _⟩ := (show ObjOk X.prog X.w H s.heap a (ExV (.ref D) none a) from I.hok a _ ha)
    have J : PySem.W.InstAt s.heap a oe D none := by
      obtain ⟨oc, od, oda, osl⟩ := oe
      obtain ⟨h1, h2⟩ := hz
      dsimp only at h1 h2 hd
      subst h1 h2 hd
      exact ⟨ho, rfl, rfl, trivial⟩
    exact PySem.W.kia_one (PySem.W.handS_kitx_exc C.hg C.hk C.hs C.hd C.ha C.hn C.ht C.hm) I.kIn J e (fun z => nomatch z) fun tk => ⟨.bl b, H, I.kept (t' := tk) fun _ _ z => z, rfl, q⟩
end XB

set_option linter.all false
set_option maxRecDepth 100000
set_option maxHeartbeats 4000000
/-! XC: defs bundled under their names, operators by kind, readings from the left. -/
namespace XC
open PySem PySem.Spec PyProof.Rows L2 XA XB
/-! ### defs under their names -/
/-- the def as the top left it -/
def Rw (K : PySem.W.Frag) (mg : Str → Option Value) (x : Str) (st : Stmt) : Prop := ∃ f fd, FunD K x x (defArgs st) (defBody st) (defScope st) [] [] f fd ∧ mg x = some (.ref f)
/-- how the arguments bind -/
def Bnd (st : Stmt) (x : Str) (ps : List Str) : Prop := ∀ (kV doc pm : Value) (an : Option Addr) (cdv ct : Value) (us : List Value), us.length = ps.length → bindArgs (PySem.W.fnOf x x (defArgs st) (defBody st) (defScope st) .none kV doc pm an cdv ct) ⟨us, []⟩ = pure (ps.zip us)
def Bndk (st : Stmt) (x : Str) (ps : List Str) (n : Nat) (ks : List Str) : Prop := ∀ (kV doc pm : Value) (an : Option Addr) (cdv ct : Value) (us ws : List Value), us.length = n → ws.length = ks.length → bindArgs (PySem.W.fnOf x x (defArgs st) (defBody st) (defScope st) .none kV doc pm an cdv ct) ⟨us, ks.zip ws⟩ = pure (ps.zip (us ++ ws))
structure Df (P : Program) (w : World) (K : PySem.W.Frag) (mg : Str → Option Value) (base : Heap) (CX : CXT) (k : Nat) (x : Str) (st : Stmt) (ps : List Str) (sp : Sp) : Prop where
  ex : ∃ f fd, FnOk P w K mg base CX k f fd ps sp ∧ mg x = some (.ref f) ∧ PySem.W.keepIn K (.ref f) = true ∧ Binds K fd ps [] ∧ ∀ n ks, Bndk st x ps n ks → KBn K fd ps n ks (fun us ws => us ++ ws) (fun vs zs => vs ++ zs)
section
variable {P : Program} {w : World} {K : PySem.W.Frag} {mg : Str → Option Value} {base : Heap} {x : Str} {st : Stmt} {N ps : List Str} {k : Nat} {sp : Sp}
theorem kbn_of {f : Addr} {fd : FuncData} (F : FunD K x x (defArgs st) (defBody st) (defScope st) [] [] f fd) (n : Nat) (ks : List Str) (bd : Bndk st x ps n ks) : KBn K fd ps n ks (fun us ws => us ++ ws) (fun vs zs => vs ++ zs) := by
  obtain ⟨oc, od, dV, kV, doc, pm, an, cdv, ct, osl, rfl, lk, hcd, hD, hK⟩ := F.ex
  rcases hD with ⟨_, rfl⟩ | ⟨e, _⟩
  · exact ⟨fun s us ws _ l1 l2 => .of_eq (bd kV doc pm an cdv ct us ws l1 l2), fun r1 r2 => Vals.append r1 r2⟩
  · exact absurd rfl e
theorem mk0 (R : Rw K mg x st) (S : FnScope N ps (defScope st)) (bd : Bnd st x ps) (len : ∀ vs H Q E, sp vs H Q E → vs.length = ps.length)
    (hbody : ∀ (f : Addr) (cdv : Value) (A : Around) (outer : List Env) (s : Shared) (H : Hp) (vs : List V) (Q : VK) (E : XK), Room k (A.deeper (envOfC x (defScope st) s.heap.objs.size f cdv)) → sp vs H Q E →
      ∃ t, PSs (cxOf CX0 P w K mg base N x (defScope st) f cdv A outer s H E).nox (defBody st) t ∧ t { nx := fun _ H' => Q .non H', rt := Q } (L2.start N vs) H) : Df P w K mg base CX0 (k + 1) x st ps sp := by
  obtain ⟨f, fd, F, g⟩ := R
  refine ⟨f, fd, F.ok S len fun cdv A outer s H vs Q E hr h => ?_, g, F.kp, F.bindsN bd, kbn_of F⟩
  obtain ⟨t, a, b⟩ := hbody f cdv A outer s H vs Q E hr h
  exact ⟨t, a.nox, b⟩
theorem mkX (R : Rw K mg x st) (S : FnScope N ps (defScope st)) (bd : Bnd st x ps) (len : ∀ vs H Q E, sp vs H Q E → vs.length = ps.length)
    (hbody : ∀ (f : Addr) (cdv : Value) (A : Around) (outer : List Env) (s : Shared) (H : Hp) (vs : List V) (Q : VK) (E : XK), Room k (A.deeper (envOfC x (defScope st) s.heap.objs.size f cdv)) → sp vs H Q E →
      ∃ t, PSs (cxOf (L2.CX P w) P w K mg base N x (defScope st) f cdv A outer s H E) (defBody st) t ∧ t { nx := fun _ H' => Q .non H', rt := Q } (L2.start N vs) H) : Df P w K mg base (L2.CX P w) (k + 1) x st ps sp := by
  obtain ⟨f, fd, F, g⟩ := R
  exact ⟨f, fd, F.ok S len fun cdv A outer s H vs Q E hr h => hbody f cdv A outer s H vs Q E hr h, g, F.kp, F.bindsN bd, kbn_of F⟩
end
/-! ### calls -/
def tCl (sp : Sp) (E : XK) (t : TA) : TE := fun σ H Q => t σ H fun vs H1 => sp vs H1 Q E
def tCk (sp : Sp) (E : XK) (n m : Nat) (t tk : TA) : TE := fun σ H Q => t σ H fun vs H1 => tk σ H1 fun zs H2 => vs.length = n ∧ zs.length = m ∧ sp (vs ++ zs) H2 Q E
section
variable {X : Cx} {CX : CXT} {j k n : Nat} {x : Str} {st : Stmt} {ps ks : List Str} {sp : Sp} {E : XK} {p pos : Pos} {e : Expr} {es : List Expr} {kws : List Keyword} {t tk : TA}
theorem pe_d (D : Df X.prog X.w X.K X.mg X.base CX k x st ps sp) (hr : Room j X.A) (hk : k ≤ j) (hg : Gl X x) (hx : Passes CX X E) (ha : PA X (e :: es) t) (hdb : (x == ("__debug__" : Str)) = false := by decide)
    (he : starEach (e :: es) X.env = (false, eval e X.env) :: starEach es X.env := by rfl) (hpl : (backTo pos (starEach es X.env)).any (·.1) = false := by rfl) : PE X (.Call (.Name x p) (e :: es) [] pos) (tCl sp E t) := by
  obtain ⟨f, fd, F, g, kp, b, _⟩ := D
  refine ⟨fun pins s σ H Q I h => ?_⟩
  refine (pe_call (E := E) F (hr.mono hk) hg g kp b .nil hx ha hdb he hpl).run pins s σ H Q I ?_
  show t σ H fun vs H1 => sp (vs ++ []) H1 Q E
  simp only [List.append_nil]
  exact h
theorem pe_dk (D : Df X.prog X.w X.K X.mg X.base CX k x st ps sp) (bd : Bndk st x ps n ks) (hr : Room j X.A) (hk : k ≤ j) (hg : Gl X x) (hx : Passes CX X E) (ha : PA X (e :: es) t) (hkw : PK X kws tk)
    (hall : (backToKw pos (keywordEach kws X.env)).all (·.1.isSome) = true := by rfl) (hks : (backToKw pos (keywordEach kws X.env)).filterMap (·.1) = ks := by rfl)
    (hdb : (x == ("__debug__" : Str)) = false := by decide) (he : starEach (e :: es) X.env = (false, eval e X.env) :: starEach es X.env := by rfl)
    (hpl : ((backTo pos (starEach (e :: es) X.env)).any (·.1) || (backToKw pos (keywordEach kws X.env)).any (·.1.isNone)) = false := by rfl) : PE X (.Call (.Name x p) (e :: es) kws pos) (tCk sp E n ks.length t tk) := by
  obtain ⟨f, fd, F, g, kp, _, kb⟩ := D
  exact pe_callN F (hr.mono hk) hg g kp (kb n ks bd) hx ha hkw hall hks hdb he hpl
theorem pe_dk0 (D : Df X.prog X.w X.K X.mg X.base CX k x st ps sp) (bd : Bndk st x ps 0 ks) (hr : Room j X.A) (hk : k ≤ j) (hg : Gl X x) (hx : Passes CX X E) (hkw : PK X kws tk)
    (hall : (backToKw pos (keywordEach kws X.env)).all (·.1.isSome) = true := by rfl) (hks : (backToKw pos (keywordEach kws X.env)).filterMap (·.1) = ks := by rfl)
    (hdb : (x == ("__debug__" : Str)) = false := by decide)
    (hpl : ((backTo pos (starEach [] X.env)).any (·.1) || (backToKw pos (keywordEach kws X.env)).any (·.1.isNone)) = false := by rfl) : PE X (.Call (.Name x p) [] kws pos) (tCk sp E 0 ks.length tNil tk) := by
  obtain ⟨f, fd, F, g, kp, _, kb⟩ := D
  refine ⟨fun pins s σ H Q I h => ?_⟩
  refine wpAny_Call_Name_kw (ld_glob I hg g ?_ hdb)
  refine PySem.W.callWith_KW0 (h₀ := X.base) I.ok.mod.kin kp hall (thn (hkw.run pos pins s σ H _ I h) fun ws s2 ⟨zs, H2, I2, rz, l1, l2, q2⟩ => ⟨I2.kIn, ?_⟩) hpl
  rw [hks]
  exact run_fnN (us := []) (vs := []) F (hr.mono hk) (kb 0 ks bd) hx I2 .nil rz rfl l2 q2
/-- where errors may leave the def -/
theorem passX {P : Program} {w : World} {K : PySem.W.Frag} {mg : Str → Option Value} {base : Heap} {N : List Str} {qual : Str} {scope : Scope} {f : Addr} {cd : Value} {A : Around} {outer : List Env} {s : Shared} {H : Hp} {E : XK} :
    Passes (L2.CX P w) (cxOf (L2.CX P w) P w K mg base N qual scope f cd A outer s H E) E := passes_call (W := fun cls d _ H => E cls d H) (takes_of rfl rfl rfl rfl) fun _ _ _ _ h => h
/-- .. a lambda's body -/
theorem passLam {X : Cx} {A : Around} {outer : List Env} {s : Shared} {H : Hp} {E : XK} {scope : Scope} {f c' : Addr} : Passes (L2.CX X.prog X.w) (LamX.lamCx X A outer s H E scope f c') E := passes_call (W := fun cls d _ H => E cls d H) (takes_of rfl rfl rfl rfl) fun _ _ _ _ h => h
/-- a constant of the module -/
theorem pe_gi {i : Int} (h : ∃ t, X.mg x = some (.int i t)) (hg : Gl X x) (hdb : (x == ("__debug__" : Str)) = false := by decide) : PE X (.Name x p) (tC (.int i)) := by
  obtain ⟨t, h⟩ := h
  exact pe_glob hg h ⟨t, rfl⟩ hdb
/-- a class of the module -/
theorem pe_gc {C : Addr} (h : X.mg x = some (.ref C)) (hg : Gl X x) (hdb : (x == ("__debug__" : Str)) = false := by decide) : PE X (.Name x p) (tC (.ref C)) := pe_glob hg h rfl hdb
end
/-! ### operators by kind -/
def rAddU (K : PySem.W.Frag) : R2 := fun x y H Q => (∃ i j, x = .int i ∧ y = .int j ∧ Q (.int (i + j)) H) ∨ rCatA K x y H Q ∨ rCat x y H Q
def rMulU (K : PySem.W.Frag) : R2 := fun x y H Q => (∃ i j, x = .int i ∧ y = .int j ∧ CMul i j ∧ Q (.int (i * j)) H) ∨ rRepN K x y H Q
def rEqU (K : PySem.W.Frag) : R2 := fun x y H Q => rEq x y H Q ∨ rEqD K x y H Q
def rNeU (K : PySem.W.Frag) : R2 := fun x y H Q => rNe x y H Q ∨ rNeD K x y H Q
def rSlU (K : PySem.W.Frag) : V → Option Int → Option Int → Hp → VK → Prop := fun x lo hi H Q => rSlL K x lo hi H Q ∨ rSlN K x lo hi H Q
def rIsB2 : R2 := fun x y H Q => ∃ a b : Bool, x = .bl a ∧ y = .bl b ∧ Q (.bl (decide (a = b))) H
section
variable {X : Cx}
theorem opr_or {f : Value → Value → Sem Value} {r r' : R2} (a : OpR X f r) (b : OpR X f r') : OpR X f (fun x y H Q => r x y H Q ∨ r' x y H Q) := by
  intro pins s σ H x y v u Q I rx ry h
  rcases h with h | h
  · exact a pins s σ H x y v u Q I rx ry h
  · exact b pins s σ H x y v u Q I rx ry h
theorem op_addU : OpR X (binaryOp .Add) (rAddU X.K) := opr_or op_add (opr_or op_catA op_cat)
theorem op_mulU : OpR X (binaryOp .Mult) (rMulU X.K) := opr_or op_mul op_repN
theorem op_eqU (hu : X.A.units + 64 < cLine) : OpR X (compareOp .Eq) (rEqU X.K) := opr_or op_eq (op_eqD hu)
theorem op_neU (hu : X.A.units + 64 < cLine) : OpR X (compareOp .NotEq) (rNeU X.K) := opr_or op_ne (op_neD hu)
theorem sl_U : SlR X (rSlU X.K) := SlR.or sl_list sl_tupN
end
/-! ### readings, from the left -/
section
variable {K : PySem.W.Frag} {σ : L2.St} {H : Hp} {Q : VK} {v x y z : V} {i : Nat} {ta tb te tc : TE} {t u c : TT} {sp : Sp} {E : XK} {ts us : TS} {D : Ends} {g : TG} {gs : TGs}
theorem rd_var (h : σ[i]? = some (some v)) (q : Q v H) : tVar i σ H Q := ⟨v, h, q⟩
theorem rd_c (q : Q v H) : tC v σ H Q := q
theorem rd_op {r : R2} (h : ta σ H fun x H1 => tb σ H1 fun y H2 => r x y H2 Q) : tOp r ta tb σ H Q := h
theorem rd_un {r : V → Hp → VK → Prop} (h : ta σ H fun x H1 => r x H1 Q) : tUn r ta σ H Q := h
theorem rd_nil {Q : List V → Hp → Prop} (h : Q [] H) : tNil σ H Q := h
theorem rd_cons {tr : TA} {Q : List V → Hp → Prop} (h : ta σ H fun x H1 => tr σ H1 fun xs H2 => Q (x :: xs) H2) : tCons ta tr σ H Q := h
theorem rd_cl {ta : TA} (h : ta σ H fun vs H1 => sp vs H1 Q E) : tCl sp E ta σ H Q := h
theorem rd_ck {ta tk : TA} {n m : Nat} (h : ta σ H fun vs H1 => tk σ H1 fun zs H2 => vs.length = n ∧ zs.length = m ∧ sp (vs ++ zs) H2 Q E) : tCk sp E n m ta tk σ H Q := h
theorem rd_cb {r : List V → Hp → VK → Prop} {ta : TA} (h : ta σ H fun vs H1 => r vs H1 Q) : tCB r ta σ H Q := h
theorem rd_seq (h : ts { D with nx := us D } σ H) : tSeq ts us D σ H := h
theorem rd_next (h : D.nx σ H) : tNext D σ H := h
theorem rd_cont (h : D.ct σ H) : tCont D σ H := h
theorem rd_asg (h : te σ H fun x H1 => g x σ H1 D.nx) : tAsg te g D σ H := h
theorem rd_gn {Q : L2.St → Hp → Prop} (h : Q (σ.set i (some v)) H) : gName i v σ H Q := h
theorem rd_drop (h : te σ H fun _ H1 => D.nx σ H1) : tDrop te D σ H := h
theorem rd_ret (h : te σ H D.rt) : tRet te D σ H := h
theorem rd_ifs (h : c σ H fun b H1 => if b = true then ts D σ H1 else us D σ H1) : tIfS c ts us D σ H := h
theorem rd_if (h : c σ H fun b H1 => if b = true then ta σ H1 Q else tb σ H1 Q) : tIf c ta tb σ H Q := h
theorem rd_test {Q : Bool → Hp → Prop} (h : te σ H fun x H1 => ∃ k, x = .bl k ∧ Q k H1) : tTest te σ H Q := h
theorem rd_tb {Q : Bool → Hp → Prop} (h : te σ H fun x H1 => ∃ k, x = .bl k ∧ Q k H1) : tB te σ H Q := h
theorem rd_and {Q : Bool → Hp → Prop} (h : t σ H fun b H1 => if b = true then u σ H1 Q else Q false H1) : tAnd t u σ H Q := h
theorem rd_or {Q : Bool → Hp → Prop} (h : t σ H fun b H1 => if b = true then Q true H1 else u σ H1 Q) : tOr t u σ H Q := h
theorem rd_not {Q : Bool → Hp → Prop} (h : t σ H fun b H1 => Q (!b) H1) : tNot t σ H Q := h
theorem rd_andV (h : ta σ H fun x H1 => ∃ b, x = .bl b ∧ if b = true then tb σ H1 Q else Q (.bl false) H1) : tAndV ta tb σ H Q := h
theorem rd_orV (h : ta σ H fun x H1 => ∃ b, x = .bl b ∧ if b = true then Q (.bl true) H1 else tb σ H1 Q) : tOrV ta tb σ H Q := h
theorem rd_notV (h : ta σ H fun x H1 => ∃ b, x = .bl b ∧ Q (.bl (!b)) H1) : tNotV ta σ H Q := h
theorem rd_chain {r r' : R2} (h : ta σ H fun x H1 => tb σ H1 fun y H2 => r x y H2 fun z H3 => ∃ k, z = .bl k ∧ (if k = true then tc σ H3 fun w' H4 => r' y w' H4 Q else Q (.bl false) H3)) : tChain r r' ta tb tc σ H Q := h
theorem rd_tup {t : TA} (h : t σ H fun xs H1 => xs.length ≤ sizeLine ∧ ∀ p, H1 p = none → Q (.ref p) (upd H1 p (.tup xs))) : tTup t σ H Q := h
theorem rd_lst {t : TA} (h : t σ H fun xs H1 => xs.length ≤ sizeLine ∧ ∀ p, H1 p = none → Q (.ref p) (upd H1 p (.lst xs))) : tLst t σ H Q := h
theorem rd_bm0 {T : String} {r : V → List V → Hp → VK → Prop} (h : ta σ H fun x H1 => tyV K T x H1 ∧ r x [] H1 Q) : tBM0 K T r ta σ H Q := h
theorem rd_bm {T : String} {r : V → List V → Hp → VK → Prop} {t : TA} (h : ta σ H fun x H1 => tyV K T x H1 ∧ t σ H1 fun xs H2 => r x xs H2 Q) : tBM K T r ta t σ H Q := h
theorem rd_sl {r : V → Option Int → Option Int → Hp → VK → Prop} {tl th : TO} (h : te σ H fun x H1 => tl σ H1 fun l H2 => th σ H2 fun u H3 => r x l u H3 Q) : tSl r te tl th σ H Q := h
theorem rd_part {Q : Option Int → Hp → Prop} (h : te σ H fun x H1 => ∃ i, x = .int i ∧ Q (some i) H1) : tPart te σ H Q := h
theorem rd_nopart {Q : Option Int → Hp → Prop} (h : Q none H) : tNoPart σ H Q := h
theorem rd_dget (h : ta σ H fun x H1 => tb σ H1 fun y H2 => ∃ a v, x = .ref a ∧ DGet H2 a y (some v) ∧ Q v H2) : tDGet ta tb σ H Q := h
theorem rd_dput (h : tc σ H fun v H1 => ta σ H1 fun x H2 => tb σ H2 fun y H3 => ∃ a H4, x = .ref a ∧ DPut H3 a y v H4 ∧ D.nx σ H4) : sDPut ta tb tc D σ H := h
theorem rd_isN (h : ta σ H fun x H1 => Q (.bl (decide (x = .non))) H1) : tIsN ta σ H Q := h
/-- answers -/
theorem rd_bl {b : Bool} {R : Bool → Prop} (h : R b) : ∃ k, V.bl b = .bl k ∧ R k := ⟨b, rfl, h⟩
theorem rd_int {j : Int} {R : Int → Prop} (h : R j) : ∃ k, V.int j = .int k ∧ R k := ⟨j, rfl, h⟩
theorem rd_I0 {f : Int → Int → V} {j k : Int} (h : Q (f j k) H) : rI0 f (.int j) (.int k) H Q := ⟨j, k, rfl, rfl, h⟩
theorem rd_I {C : Int → Int → Prop} {f : Int → Int → V} {j k : Int} (hc : C j k) (h : Q (f j k) H) : rI C f (.int j) (.int k) H Q := ⟨j, k, rfl, rfl, hc, h⟩
theorem rd_U {f : Int → V} {j : Int} (h : Q (f j) H) : rU f (.int j) H Q := ⟨j, rfl, h⟩
theorem rd_addI {j k : Int} (h : Q (.int (j + k)) H) : rAddU K (.int j) (.int k) H Q := .inl ⟨j, k, rfl, rfl, h⟩
theorem rd_mulI {j k : Int} (hc : CMul j k) (h : Q (.int (j * k)) H) : rMulU K (.int j) (.int k) H Q := .inl ⟨j, k, rfl, rfl, hc, h⟩
theorem rd_eqS (h : scal x y = true) (q : Q (.bl (decide (x = y))) H) : rEqU K x y H Q := .inl ⟨h, q⟩
theorem rd_neS (h : scal x y = true) (q : Q (.bl (!decide (x = y))) H) : rNeU K x y H Q := .inl ⟨h, q⟩
theorem rd_eqI {j k : Int} (q : Q (.bl (decide (j = k))) H) : rEqU K (.int j) (.int k) H Q := .inl ⟨rfl, by
  rw [show decide (V.int j = V.int k) = decide (j = k) from by simp]
  exact q⟩
theorem rd_neI {j k : Int} (q : Q (.bl (!decide (j = k))) H) : rNeU K (.int j) (.int k) H Q := .inl ⟨rfl, by
  rw [show decide (V.int j = V.int k) = decide (j = k) from by simp]
  exact q⟩
theorem rd_ite {b : Bool} {A B : Prop} (h1 : b = true → A) (h2 : b = false → B) : if b = true then A else B := by
  cases b with
  | true => exact h1 rfl
  | false => exact h2 rfl
theorem rd_new {o : HO} {R : V → Hp → Prop} (hl : H = H) (h : ∀ p, H p = none → R (.ref p) (upd H p o)) : ∀ p, H p = none → R (.ref p) (upd H p o) := h
theorem rd_lenT {p : Addr} {xs : List V} (h : SqT K H p xs) (q : Q (.int (xs.length : Int)) H) : ∃ x n, [V.ref p] = [x] ∧ LenV K x H n ∧ Q (.int (n : Nat)) H := ⟨_, _, rfl, Or.inr ⟨xs, h, rfl⟩, q⟩
theorem rd_lenL {p : Addr} {xs : List V} (h : SqL K H p xs) (q : Q (.int (xs.length : Int)) H) : ∃ x n, [V.ref p] = [x] ∧ LenV K x H n ∧ Q (.int (n : Nat)) H := ⟨_, _, rfl, Or.inl ⟨xs, h, rfl⟩, q⟩
theorem rd_ixT {p : Addr} {xs : List V} {i : Int} (h : SqT K H p xs) (ha : atI xs i = some v) (q : Q v H) : rIx K (.ref p) (.int i) H Q := .inr (.inl ⟨p, xs, i, v, rfl, rfl, h, ha, q⟩)
theorem rd_ixL {p : Addr} {xs : List V} {i : Int} (h : SqL K H p xs) (ha : atI xs i = some v) (q : Q v H) : rIx K (.ref p) (.int i) H Q := .inl ⟨p, xs, i, v, rfl, rfl, h, ha, q⟩
theorem rd_tupOfL {p : Addr} {xs : List V} (h : SqL K H p xs) (q : NewT H xs Q) : rTupOf K [.ref p] H Q := ⟨p, xs, rfl, .inl ⟨h, q⟩⟩
theorem rd_app {l : Addr} {xs : List V} (h : H l = some (.lst xs)) (hz : xs.length < sizeLine) (q : Q .non (upd H l (.lst (xs ++ [y])))) : tyV K "list" (.ref l) H ∧ rAppend (.ref l) [y] H Q := ⟨.inl ⟨rfl, _, .inl (.inl h)⟩, l, xs, y, rfl, rfl, h, hz, q⟩
theorem tyL {l : Addr} {xs : List V} (h : SqL K H l xs) : tyV K "list" (.ref l) H := .inl ⟨rfl, _, h⟩
end
end XC
namespace XC
open PySem PySem.Spec PyProof.Rows L2 XA XB
section
variable {X : Cx} {tg : Expr}
def iU (K : PySem.W.Frag) (tl : TE) : TI := fun σ H R => iList K tl σ H R ∨ iTup K tl σ H R
theorem pi_U {l : Expr} {tl : TE} (hl : PE X l tl) : PI X tg l (iU X.K tl) :=
  ⟨fun pins s σ H R I h => h.elim (fun h => (pi_list hl).run pins s σ H R I h) fun h => (pi_tup hl).run pins s σ H R I h⟩
end
/-! ### an exception class of the program -/
structure Xc (K : PySem.W.Frag) (mg : Str → Option Value) (x : Str) (C : Addr) : Prop where
  g : mg x = some (.ref C)
  x : PySem.W.excIn K C He.veBase "ValueError.__new__" = true
  k : PySem.W.keepIn K (.ref C) = true
  b : PySem.W.subIn K (.ref C) (.type "BaseException") = some true
  t : PySem.W.typeIn K (.ref C) = some (.type "type")
  c : ExcC K C
theorem pmkx {X : Cx} {C : Addr} {x : Str} {e : Expr} {ta : TE} {p pos : Pos} (T : Xc X.K X.mg x C) (hg : Gl X x) (he : PE X e ta) (hs : starEach [e] X.env = (false, eval e X.env) :: starEach [] X.env := by rfl) (hdb : (x == ("__debug__" : Str)) = false := by decide) :
    PMk X (.Call (.Name x p) [e] [] pos) (fun σ H Q => ta σ H fun _ H1 => Q (.ref C) none H1) := SkE.pmk_own1 PySem.F.excBase_ValueError T.x T.g T.k (raises_own T.b T.t) hg he hs hdb
/-! ### _law_caught -/
/-- what is made of the lambda's reading: None, or the error that it raised -/
def TCaught (K : PySem.W.Frag) (CS : Addr) : (XK → Hp → VK → Prop) → Hp → VK → Prop := fun tl H Q => ∀ (Ech : XK) (Q' : VK),
  (∀ cls d H', PySem.W.exmOne K cls (.ref CS) = some true → (∀ a, H' a = none → Q (.ref a) (upd H' a (ExV cls d a))) → Ech cls d H') → (∀ v H', Q .non H' → Q' v H') → tl Ech H Q'
/-- an expression whose value is dropped, told by its place alone -/
theorem caught_gives {X : Cx} {g CS : Addr} {cdg : Value} {sg : Scope} {q e : Str} {j : Nat} {p1 p2 p3 p4 p5 p6 p7 p8 p9 p10 p11 p12 p13 p14 p15 : Pos} (nd : (["action", "found", "error"] : List Str).Nodup) (hge : sg.names.lookup e = some .globalImplicit) (hme : X.mg e = some (.ref CS)) (hde : (e == ("__debug__" : Str)) = false)
    (hf : sg.names.lookup ("found" : Str) = some .local) (hr : sg.names.lookup ("error" : Str) = some .local) :
    LamX.GivesTo X ["action", "found", "error"] "_law_caught" sg g cdg [.Assign [.Name "found" p1] (.Constant .none j p2) p3,
      .Try [.Expr (.Call (.Name "action" p4) [] [] p5) p6] [.ExceptHandler (some (.Name e p7)) (some "error") [.Assign [.Name "found" p8] (.Name "error" p9) p10] p11] [] [] p12,
      .Return (some (.Name "found" p13)) p14] "action" q (TCaught X.K CS) := by
  intro f c' s H Q tl act hc h
  let Y : Cx := (cxOf C8.CX0 X.prog X.w X.K X.mg X.base ["action", "found", "error"] "_law_caught" sg g cdg X.A X.stack s H C8.E0).nox
  have hgl : Gl Y e := hge
  have body : ∀ (W : WX) (pn : List (Addr × Obj)) (xe : Value → Shared → Prop), Takes (Y.tr pn xe) W → PassesOwn (model Y.prog Y.w) Y.A Y.env xe →
      PSs (Y.tr pn xe) [.Expr (.Call (.Name "action" p4) [] [] p5) p6] (fun D σ H => ∃ Ech : XK, (∀ cls d (σ' : L2.St) H', σ'.length = 3 → Ech cls d H' → W cls d σ' H') ∧ σ[0]? = some (some (.ref f)) ∧ H c' = some (LamX.CodeO c' q) ∧ tl Ech H fun _ H' => D.nx σ H') := by
    intro W pn xe tk hp
    refine ⟨fun pins s1 σ1 H1 D I h1 => ?_⟩
    obtain ⟨Ech, hW, h2, h3, h4⟩ := h1
    have tk2 : Takes (Y.tr pn xe) (fun cls d σ' H' => σ'.length = 3 → W cls d σ' H') := fun u s' ⟨a, B, sI, pins', σ', H', cls, d, e1, I', nb, up, sky, na, os, ag, w⟩ =>
      tk u s' ⟨a, B, sI, pins', σ', H', cls, d, e1, I', nb, up, sky, na, os, ag, w I'.len⟩
    have hp := act (fun cls d σ' H' => σ'.length = 3 → W cls d σ' H') pn xe Ech p4 p5 tk2 fun cls d σ' H' q l => hW cls d σ' H' l q
    exact (pss_one (ps_expr (pos := p6) hp)).run pins s1 σ1 H1 D I ⟨h2, h3, h4⟩
  have suite : ∀ (a : Addr) (oe : Obj) (cls : Value) (d : Option Addr) (pn : List (Addr × Obj)), Zc cls d oe → (∃ vs, oe.data = .fields vs) → PSs (Y.suite a ((a, oe) :: pn)) [.Assign [.Name "found" p8] (.Name "error" p9) p10] (tAsg (tVar 2) (gName 1)) := fun a oe cls d pn _ _ =>
    pss_one (ps_set (X := Y.suite a ((a, oe) :: pn)) (i := 1) nd rfl (.inl hf) (pe_var (X := Y.suite a ((a, oe) :: pn)) (i := 2) rfl (.inl hr)) (hf := .inr hf))
  refine ⟨_, pss_cons (ps_set (X := Y) (i := 1) nd rfl (.inl hf) pe_non (hf := .inr hf))
    (pss_cons (ps_try_asV (X := Y) (i := 2) (c := .ref CS) rfl rfl rfl nd rfl hr ⟨hgl, hde, .inl hme⟩ L2.takes0 body suite)
    (pss_one (ps_ret (pe_var (X := Y) (i := 1) rfl (.inl hf))))), ?_⟩
  refine ⟨fun cls d H' => PySem.W.exmOne X.K cls (.ref CS) = some true ∧ ∀ a, H' a = none → Q (.ref a) (upd H' a (ExV cls d a)), fun cls d σ' H' hl w => ?_, rfl, hc, ?_⟩
  · obtain ⟨m, k⟩ := w
    refine ⟨true, m, fun _ a ha => ?_, fun z => nomatch z⟩
    have l2 : 2 < σ'.length := by omega
    refine ⟨.ref a, ?_, ?_⟩
    · rw [List.getElem?_set_self l2]
    · refine ⟨.ref a, ?_, k a ha⟩
      rw [List.getElem?_set_ne (by decide), List.getElem?_set_self (by simp only [List.length_set]; omega)]
  · exact h _ _ (fun cls d H' m k => ⟨m, k⟩) fun v H' q => ⟨.non, rfl, q⟩
end XC

/-! XM: free reduction of lists of whole numbers; core Lean only. -/
namespace XM
/-- a letter comes onto a stack: it goes away with its undo, or lies on top -/
def push : List Int → Int → List Int
  | [], x => [x]
  | y :: r, x => if y = -x then r else x :: y :: r
def stack (st xs : List Int) : List Int := xs.foldl push st
def red (xs : List Int) : List Int := (stack [] xs).reverse
theorem push_c {y x : Int} (r : List Int) (e : y = -x) : push (y :: r) x = r := by
  show (if y = -x then r else x :: y :: r) = r
  rw [if_pos e]
theorem push_n {y x : Int} (r : List Int) (e : ¬ y = -x) : push (y :: r) x = x :: y :: r := by
  show (if y = -x then r else x :: y :: r) = x :: y :: r
  rw [if_neg e]
/-- no neighbours that undo one another -/
def Ok : List Int → Prop
  | [] => True
  | [_] => True
  | y :: z :: r => y ≠ -z ∧ Ok (z :: r)
theorem Ok.tail : ∀ {y : Int} {r : List Int}, Ok (y :: r) → Ok r
  | _, [], _ => trivial
  | _, _ :: _, h => h.2
theorem ok_push {st : List Int} (h : Ok st) (x : Int) : Ok (push st x) := by
  cases st with
  | nil => trivial
  | cons y r =>
    by_cases e : y = -x
    · rw [push_c r e]; exact h.tail
    · rw [push_n r e]; exact ⟨fun z => e (by omega), h⟩
theorem ok_stack : ∀ (xs : List Int) {st : List Int}, Ok st → Ok (stack st xs)
  | [], _, h => h
  | x :: xs, _, h => ok_stack xs (ok_push h x)
theorem push_back {st : List Int} (h : Ok st) (x : Int) : push (push st x) (-x) = st := by
  cases st with
  | nil => exact push_c [] (by omega)
  | cons y r =>
    by_cases e : y = -x
    · rw [push_c r e]
      cases r with
      | nil => rw [e]; rfl
      | cons z r =>
        have hz : ¬ z = - -x := fun q => h.1 (by omega)
        rw [push_n r hz, e]
    · rw [push_n r e]
      exact push_c (y :: r) (by omega)
theorem stack_append (st xs ys : List Int) : stack st (xs ++ ys) = stack (stack st xs) ys := by
  unfold stack; rw [List.foldl_append]
theorem stack_snoc (st xs : List Int) (x : Int) : stack st (xs ++ [x]) = push (stack st xs) x := by
  rw [stack_append]; rfl
/-- the reduced word acts on stacks as the word does -/
theorem stack_red : ∀ (n : Nat) (xs : List Int), xs.length = n → ∀ {st : List Int}, Ok st → stack st (red xs) = stack st xs := by
  intro n
  induction n with
  | zero =>
    intro xs h st _
    have e : xs = [] := List.eq_nil_of_length_eq_zero h
    subst e; rfl
  | succ n ih =>
    intro xs h st hs
    obtain ⟨zs, x, rfl⟩ : ∃ zs x, xs = zs ++ [x] := by
      cases hx : xs.reverse with
      | nil =>
        have : xs = [] := by simpa using hx
        subst this; simp at h
      | cons x r => exact ⟨r.reverse, x, by rw [← List.reverse_reverse xs, hx, List.reverse_cons]⟩
    have hz : zs.length = n := by simpa using h
    have e1 := ih zs hz hs
    rw [stack_snoc, ← e1]
    show stack st (stack [] (zs ++ [x])).reverse = push (stack st (stack [] zs).reverse) x
    rw [stack_snoc]
    cases hk : stack [] zs with
    | nil => rfl
    | cons y r =>
      by_cases e : y = -x
      · rw [push_c r e, List.reverse_cons, stack_snoc, e]
        have hr : Ok (stack st r.reverse) := ok_stack _ hs
        have := push_back hr (-x)
        rw [Int.neg_neg] at this
        exact this.symm
      · rw [push_n r e, List.reverse_cons, stack_snoc]
theorem act (xs : List Int) {st : List Int} (h : Ok st) : stack st (red xs) = stack st xs := stack_red _ xs rfl h
theorem red_red (xs : List Int) : red (red xs) = red xs := by
  show (stack [] (red xs)).reverse = _
  rw [act xs (st := []) True.intro]; rfl
theorem red_left (xs ys : List Int) : red (red xs ++ ys) = red (xs ++ ys) := by
  unfold red
  rw [stack_append, stack_append]
  have := act xs (st := []) True.intro
  unfold red at this
  rw [this]
theorem red_right (xs ys : List Int) : red (xs ++ red ys) = red (xs ++ ys) := by
  show (stack [] (xs ++ red ys)).reverse = (stack [] (xs ++ ys)).reverse
  rw [stack_append, stack_append, act ys (ok_stack xs (st := []) True.intro)]
/-! ### lengths, letters, counts -/
theorem push_len (st : List Int) (x : Int) : (push st x).length ≤ st.length + 1 := by
  cases st with
  | nil => simp [push]
  | cons y r =>
    by_cases e : y = -x
    · rw [push_c r e, List.length_cons]; omega
    · rw [push_n r e, List.length_cons]; omega
theorem stack_len : ∀ (xs st : List Int), (stack st xs).length ≤ st.length + xs.length
  | [], st => by simp [stack]
  | x :: xs, st => by
    have h1 := stack_len xs (push st x)
    have h2 := push_len st x
    show (stack (push st x) xs).length ≤ _
    simp only [List.length_cons]; omega
theorem red_len (xs : List Int) : (red xs).length ≤ xs.length := by
  have := stack_len xs []
  simpa [red] using this
theorem push_mem {st : List Int} {x z : Int} (h : z ∈ push st x) : z ∈ st ∨ z = x := by
  cases st with
  | nil => exact .inr (List.mem_singleton.mp h)
  | cons y r =>
    by_cases e : y = -x
    · rw [push_c r e] at h
      exact .inl (List.mem_cons_of_mem _ h)
    · rw [push_n r e] at h
      rcases List.mem_cons.mp h with e | e
      · exact .inr e
      · exact .inl e
theorem stack_mem : ∀ {xs st : List Int} {z : Int}, z ∈ stack st xs → z ∈ st ∨ z ∈ xs
  | [], _, _, h => .inl h
  | x :: xs, st, z, h => by
    rcases stack_mem (xs := xs) (st := push st x) h with q | q
    · rcases push_mem q with q | q
      · exact .inl q
      · exact .inr (by rw [q]; exact List.mem_cons_self)
    · exact .inr (List.mem_cons_of_mem _ q)
theorem red_mem {xs : List Int} {z : Int} (h : z ∈ red xs) : z ∈ xs := by
  unfold red at h
  rcases stack_mem (List.mem_reverse.mp h) with q | q
  · cases q
  · exact q
/-- how often a letter stands, less how often its undo -/
def bal (d : Int) (xs : List Int) : Int := (xs.count d : Int) - (xs.count (-d) : Int)
theorem bal_cons (d x : Int) (xs : List Int) (hd : d ≠ 0) : bal d (x :: xs) = bal d xs + (if x = d then 1 else if x = -d then -1 else 0) := by
  unfold bal
  rw [List.count_cons, List.count_cons]
  by_cases h1 : x = d
  · subst h1
    have h2 : ¬ x = -x := fun z => hd (by omega)
    simp [h2]; omega
  · by_cases h2 : x = -d
    · have h3 : ¬ (-d = d) := fun z => hd (by omega)
      subst h2
      simp [h3]; omega
    · simp [h1, h2]
theorem bal_push (d : Int) (hd : d ≠ 0) (st : List Int) (x : Int) : bal d (push st x) = bal d st + (if x = d then 1 else if x = -d then -1 else 0) := by
  cases st with
  | nil => exact bal_cons d x [] hd
  | cons y r =>
    by_cases e : y = -x
    · rw [push_c r e, bal_cons d y r hd]
      subst e
      by_cases h1 : x = d
      · subst h1
        have h3 : ¬ (-x = x) := fun z => hd (by omega)
        rw [if_neg h3, if_pos rfl, if_pos rfl]; omega
      · by_cases h2 : x = -d
        · have h3 : -x = d := by omega
          rw [if_pos h3, if_neg h1, if_pos h2]; omega
        · have h3 : ¬ (-x = d) := fun z => h2 (by omega)
          have h4 : ¬ (-x = -d) := fun z => h1 (by omega)
          rw [if_neg h3, if_neg h4, if_neg h1, if_neg h2]; omega
    · rw [push_n r e, bal_cons d x (y :: r) hd]
theorem bal_stack (d : Int) (hd : d ≠ 0) : ∀ (xs st : List Int), bal d (stack st xs) = bal d st + bal d xs
  | [], st => by simp [stack, bal]
  | x :: xs, st => by
    show bal d (stack (push st x) xs) = _
    rw [bal_stack d hd xs (push st x), bal_push d hd, bal_cons d x xs hd]; omega
theorem bal_rev (d : Int) (xs : List Int) : bal d xs.reverse = bal d xs := by
  unfold bal; rw [List.count_reverse, List.count_reverse]
theorem bal_red (d : Int) (hd : d ≠ 0) (xs : List Int) : bal d (red xs) = bal d xs := by
  unfold red
  rw [bal_rev, bal_stack d hd]; simp [bal]
/-- undone -/
def inv (xs : List Int) : List Int := xs.reverse.map fun x => -x
theorem inv_len (xs : List Int) : (inv xs).length = xs.length := by simp [inv]
theorem red_nil : red [] = [] := rfl
end XM

set_option linter.all false
set_option maxRecDepth 100000
set_option maxHeartbeats 4000000
/-! XD: data, comprehensions without side effects, heaps. -/
namespace XD
open PySem PySem.Spec PyProof.Rows L2 XA XB XC
theorem sqT_same {K : PySem.W.Frag} {H H' : Hp} {a : Addr} {xs : List V} (e : Same H H') (h : SqT K H a xs) : SqT K H' a xs := by
  rcases h with (h | ⟨o, h⟩) | h
  · exact .inl (.inl (e _ _ h))
  · exact .inl (.inr ⟨o, e _ _ h⟩)
  · exact .inr h
theorem same_new {H : Hp} {p : Addr} {o : HO} (h : H p = none) : Same H (upd H p o) := fun b u q => by
  rw [upd_ne (ne_of_none q h)]
  exact q
/-- an object that wasn't there ahead may change -/
theorem same_mut {H H' : Hp} {p : Addr} {o : HO} (e : Same H H') (h : H p = none) : Same H (upd H' p o) := fun b u q => by
  rw [upd_ne (ne_of_none q h)]
  exact e _ _ q
theorem lz {n : Nat} (h : n ≤ 100000) : n ≤ sizeLine := Nat.le_trans h (by decide)
theorem lzl {n : Nat} (h : n < 100000) : n < sizeLine := Nat.lt_of_lt_of_le h (by decide)
/-! ### a comprehension whose parts change nothing that was there -/
theorem lc_pure {J : It} {n : Nat} {G : Hp → Prop} {Y : Nat → Hp → V → Hp → Prop} (w : L2.Walk J n G Y) {g : TG} {tt : TT} {te : TE} {vs : List Nat} {σ : L2.St} {H1 : Hp} {D : Addr} {Qd : Hp → Prop} (hD : H1 D = none) (its : List V) (p : V → Bool) (f : V → V)
    (hn : its.length = n) (hz : n < 100000) (hG : ∀ H', Same H1 H' → G H') (hY : ∀ i H x H', i < n → Y i H x H' → H' = H ∧ its[i]? = some x)
    (hs : ∀ x H', x ∈ its → Same H1 H' → ∀ (R : V → Hp → Prop) (R0 : Hp → Prop), (p x = true → ∀ H'', Same H' H'' → R (f x) H'') → (p x = false → ∀ H'', Same H' H'' → R0 H'') →
      g x (wipe σ vs) H' fun σ2 H2 => wipe σ2 vs = wipe σ vs ∧ tt σ2 H2 fun b H3 => if b = true then te σ2 H3 R else R0 H3)
    (hd : ∀ H', Same H1 H' → H' D = some (.lst ((its.filter p).map f)) → Qd H') :
    ∃ W : Nat → Nat → Hp → Prop, (∃ m, W 0 m (upd H1 D (.lst []))) ∧ ∀ i m H, W i m H →
      (J.stop i H ∧ Qd H) ∨ (J.go i H ∧ ∃ Nx : Hp → Prop, (∀ H', Nx H' → ∃ m', m' < m ∧ W (i + 1) m' H') ∧ ∀ x H', J.yld i H x H' → g x (wipe σ vs) H' fun σ2 H2 => wipe σ2 vs = wipe σ vs ∧ tt σ2 H2 fun b H3 =>
        if b = true then te σ2 H3 fun y H4 => ∃ acc, H4 D = some (.lst acc) ∧ acc.length < sizeLine ∧ Nx (upd H4 D (.lst (acc ++ [y]))) else Nx H3) := by
  have hl : ∀ i, ((((its.take i).filter p).map f).length) ≤ n := fun i => by
    rw [List.length_map, ← hn]
    exact Nat.le_trans (List.length_filter_le _ _) (by rw [List.length_take]; omega)
  refine lc_it w (fun i H => Same H1 H ∧ H D = some (.lst (((its.take i).filter p).map f))) ⟨same_new hD, upd_same⟩ (fun i H _ h => hG H h.1) (fun i x H H' hi h y => ?_) fun H h => ?_
  · obtain ⟨rfl, hx⟩ := hY i H x _ hi y
    have et : its.take (i + 1) = its.take i ++ [x] := by rw [List.take_add_one, hx] <;> rfl
    refine hs x _ (List.mem_of_getElem? hx) h.1 _ _ (fun hp H'' e => ⟨_, e _ _ h.2, lzl (Nat.lt_of_le_of_lt (hl i) hz), same_mut (h.1.trans e) hD, ?_⟩) (fun hp H'' e => ⟨h.1.trans e, ?_⟩)
    · rw [upd_same, et, List.filter_append, List.map_append]
      simp [List.filter, hp]
    · rw [e _ _ h.2, et, List.filter_append]
      simp [List.filter, hp]
  · refine hd H h.1 ?_
    rw [h.2, ← hn, List.take_length]
theorem walk_revT {K : PySem.W.Frag} {a : Addr} {xs : List V} : L2.Walk (RT.ItvT K a xs.length) xs.length (fun H => SqT K H a xs) (fun i H x H' => H' = H ∧ xs.reverse[i]? = some x) := by
  refine ⟨fun i _ hi q => ⟨hi, xs, xs[xs.length - 1 - i]'(by omega), q, by simp [show xs.length - 1 - i < xs.length by omega]⟩, fun _ _ => Nat.le_refl _, fun i _ x _ hi q y => ⟨y.1, ?_⟩⟩
  rw [List.getElem?_reverse hi]
  exact y.2 xs q
/-! ### values of any kind -/
inductive Dat where
  | flat (v : V)
  | tup (xs : List V)
  | lst (xs : List V)
  | dct
def plainV : V → Bool
  | .non => true
  | .bl _ => true
  | .int _ => true
  | .str _ => true
  | _ => false
/-- what a tuple holds: plain values, and not too many -/
def okB (xs : List V) : Bool := xs.all plainV && decide (xs.length ≤ 20000)
theorem okB_all {xs : List V} (h : okB xs = true) : xs.all plainV = true := (Bool.and_eq_true_iff.mp h).1
theorem okB_len {xs : List V} (h : okB xs = true) : xs.length ≤ 20000 := of_decide_eq_true (Bool.and_eq_true_iff.mp h).2
theorem okI {xs : List Int} (h : xs.length ≤ 20000) : okB (xs.map V.int) = true := Bool.and_eq_true_iff.mpr ⟨by simp [List.all_map, plainV], decide_eq_true (by rw [List.length_map]; exact h)⟩
def Rp (K : PySem.W.Frag) (H : Hp) (v : V) : Dat → Prop
  | .flat u => v = u ∧ plainV u = true
  | .tup xs => ∃ a, v = .ref a ∧ SqT K H a xs ∧ okB xs = true
  | .lst xs => ∃ a, v = .ref a ∧ SqL K H a xs
  | .dct => ∃ a kvs, v = .ref a ∧ H a = some (.dK kvs) ∧ kvs.length ≤ 1
theorem Rp.same {K : PySem.W.Frag} {H H' : Hp} {v : V} {d : Dat} (h : Rp K H v d) (e : Same H H') : Rp K H' v d := by
  cases d with
  | flat u => exact h
  | tup xs => obtain ⟨a, q, r, z⟩ := h; exact ⟨a, q, sqT_same e r, z⟩
  | lst xs => obtain ⟨a, q, r⟩ := h; exact ⟨a, q, e.seq r⟩
  | dct => obtain ⟨a, kvs, q, r, z⟩ := h; exact ⟨a, kvs, q, e _ _ r, z⟩
def Dat.ty : Dat → String
  | .flat .non => "NoneType"
  | .flat (.bl _) => "bool"
  | .flat (.int _) => "int"
  | .flat (.str _) => "str"
  | .flat _ => "object"
  | .tup _ => "tuple"
  | .lst _ => "list"
  | .dct => "dict"
theorem Rp.ty {K : PySem.W.Frag} {H : Hp} {v : V} {d : Dat} (h : Rp K H v d) : TyX K H v (.type d.ty) := by
  cases d with
  | flat u =>
    obtain ⟨rfl, hp⟩ := h
    cases v with
    | non => exact .base .non
    | bl b => exact .base (.bl b)
    | int i => exact .base (.int i)
    | str x => exact .base (.str x)
    | _ => cases hp
  | tup xs =>
    obtain ⟨a, rfl, (q | ⟨o, q⟩) | q, _⟩ := h
    · exact .base (.tup q)
    · exact .fTuple q
    · obtain ⟨o, its, n, e, c, _⟩ := q
      exact .kTuple e c
  | lst xs =>
    obtain ⟨a, rfl, (q | ⟨o, q⟩) | q⟩ := h
    · exact .base (.lst q)
    · exact .base (.frz q)
    · obtain ⟨o, its, n, e, c, _⟩ := q
      exact .kList e c
  | dct =>
    obtain ⟨a, kvs, rfl, q, _⟩ := h
    exact .base (.dK q)
/-- isinstance(v, T) -/
theorem rd_isT {K : PySem.W.Frag} {H : Hp} {v : V} {d : Dat} {T : String} {b : Bool} {Q : VK} (h : Rp K H v d) (e : kitB d.ty T = some b) (q : Q (.bl b) H) : rIsU K [v, .ty T] H Q :=
  .inl ⟨v, .ty T, .type d.ty, .type T, b, rfl, .ty T, h.ty, kit_ty e, q⟩
def Dat.isI : Dat → Bool
  | .flat (.int _) => true
  | .flat (.bl _) => true
  | _ => false
def Dat.isB : Dat → Bool
  | .flat (.bl _) => true
  | _ => false
def Dat.isT : Dat → Bool
  | .tup _ => true
  | _ => false
theorem kit_int (d : Dat) : kitB d.ty "int" = some d.isI := by
  cases d with
  | flat v => cases v <;> (simp only [Dat.ty, Dat.isI]; decide +kernel)
  | tup xs => simp only [Dat.ty, Dat.isI]; decide +kernel
  | lst xs => simp only [Dat.ty, Dat.isI]; decide +kernel
  | dct => simp only [Dat.ty, Dat.isI]; decide +kernel
theorem kit_bool (d : Dat) : kitB d.ty "bool" = some d.isB := by
  cases d with
  | flat v => cases v <;> (simp only [Dat.ty, Dat.isB]; decide +kernel)
  | tup xs => simp only [Dat.ty, Dat.isB]; decide +kernel
  | lst xs => simp only [Dat.ty, Dat.isB]; decide +kernel
  | dct => simp only [Dat.ty, Dat.isB]; decide +kernel
theorem kit_tuple (d : Dat) : kitB d.ty "tuple" = some d.isT := by
  cases d with
  | flat v => cases v <;> (simp only [Dat.ty, Dat.isT]; decide +kernel)
  | tup xs => simp only [Dat.ty, Dat.isT]; decide +kernel
  | lst xs => simp only [Dat.ty, Dat.isT]; decide +kernel
  | dct => simp only [Dat.ty, Dat.isT]; decide +kernel
/-- a whole number, no truth value -/
def Dat.whole (d : Dat) : Bool := d.isI && !d.isB
theorem Dat.whole_int {d : Dat} (h : d.whole = true) : ∃ i, d = .flat (.int i) := by
  cases d with
  | flat v => cases v <;> first | exact ⟨_, rfl⟩ | (simp [Dat.whole, Dat.isI, Dat.isB] at h)
  | tup xs => simp [Dat.whole, Dat.isI] at h
  | lst xs => simp [Dat.whole, Dat.isI] at h
  | dct => simp [Dat.whole, Dat.isI] at h
/-- a whole from lo to hi -/
def Dat.from (d : Dat) (lo hi : Int) : Bool := match d with
  | .flat (.int i) => decide (lo ≤ i) && decide (i ≤ hi)
  | _ => false
theorem Dat.from_no {d : Dat} {lo hi : Int} (h : d.whole = false) : d.from lo hi = false := by
  cases d with
  | flat v => cases v <;> first | rfl | (simp [Dat.whole, Dat.isI, Dat.isB] at h)
  | tup xs => rfl
  | lst xs => rfl
  | dct => rfl
def letV (n : Int) : V → Bool
  | .int i => decide (-n ≤ i) && decide (i ≤ n) && !decide (i = 0)
  | _ => false
/-- a letter of n deeds -/
def Dat.letter (n : Int) (d : Dat) : Bool := match d with
  | .flat v => letV n v
  | _ => false
theorem Dat.letter_no {n : Int} {d : Dat} (h : d.from (-n) n = false) : d.letter n = false := by
  cases d with
  | flat v =>
    cases v with
    | int i =>
      have h : (decide (-n ≤ i) && decide (i ≤ n)) = false := h
      show (decide (-n ≤ i) && decide (i ≤ n) && !decide (i = 0)) = false
      rw [h] <;> rfl
    | _ => rfl
  | tup xs => rfl
  | lst xs => rfl
  | dct => rfl
theorem Dat.from_int {d : Dat} {lo hi : Int} (h : d.from lo hi = true) : ∃ i, d = .flat (.int i) ∧ lo ≤ i ∧ i ≤ hi := by
  cases d with
  | flat v =>
    cases v with
    | int i =>
      have h : (decide (lo ≤ i) && decide (i ≤ hi)) = true := h
      simp only [Bool.and_eq_true, decide_eq_true_eq] at h
      exact ⟨i, rfl, h⟩
    | _ => cases h
  | tup xs => cases h
  | lst xs => cases h
  | dct => cases h
/-- letters of n deeds alone -/
def Dat.lets (n : Int) (d : Dat) : Bool := match d with
  | .tup xs => xs.all (letV n)
  | _ => false
/-- a row of n deeds -/
def Dat.row (n : Int) (d : Dat) : Bool := match d with
  | .tup xs => decide (xs.length ≤ 200) && xs.all (letV n)
  | _ => false
end XD
namespace XD
open PySem PySem.Spec PyProof.Rows L2 XA XB XC
section
variable {K : PySem.W.Frag} {a : Addr} {xs : List V} {g : TG} {tb : TS} {D : Ends} {σ : L2.St} {H : Hp} {i : Nat}
theorem forT (Pv : Nat → L2.St → Hp → Prop) (hv : σ[i]? = some (some (.ref a))) (hS : SqT K H a xs) (h0 : Pv 0 σ H) (hl : ∀ i σ H, i ≤ xs.length → Pv i σ H → SqT K H a xs)
    (hs : ∀ i x σ H, xs[i]? = some x → Pv i σ H → g x σ H fun σ2 H2 => tb { D with nx := Pv (i + 1), ct := Pv (i + 1), bk := D.nx } σ2 H2) (hd : ∀ σ H, Pv xs.length σ H → D.nx σ H) : tFor (iU K (tVar i)) g tb D σ H :=
  Or.inr ⟨.ref a, hv, a, rfl, ⟨xs, hS⟩, for_tup Pv h0 hl hs hd⟩
theorem forL (Pv : Nat → L2.St → Hp → Prop) (hv : σ[i]? = some (some (.ref a))) (hS : SqL K H a xs) (h0 : Pv 0 σ H) (hl : ∀ i σ H, i ≤ xs.length → Pv i σ H → SqL K H a xs)
    (hs : ∀ i x σ H, xs[i]? = some x → Pv i σ H → g x σ H fun σ2 H2 => tb { D with nx := Pv (i + 1), ct := Pv (i + 1), bk := D.nx } σ2 H2) (hd : ∀ σ H, Pv xs.length σ H → D.nx σ H) : tFor (iU K (tVar i)) g tb D σ H :=
  Or.inl ⟨.ref a, hv, a, rfl, ⟨xs, hS⟩, for_list Pv h0 hl hs hd⟩
end
theorem rd_lc {wi : TI} {g : TG} {tt : TT} {te : TE} {vs : List Nat} {σ : L2.St} {H : Hp} {Q : VK} (h : wi σ H fun J H1 => ∀ D, H1 D = none → ∃ W : Nat → Nat → Hp → Prop, (∃ m, W 0 m (upd H1 D (.lst []))) ∧ ∀ i m H, W i m H →
      (J.stop i H ∧ Q (.ref D) H) ∨ (J.go i H ∧ ∃ Nx : Hp → Prop, (∀ H', Nx H' → ∃ m', m' < m ∧ W (i + 1) m' H') ∧ ∀ x H', J.yld i H x H' → g x (wipe σ vs) H' fun σ2 H2 => wipe σ2 vs = wipe σ vs ∧ tt σ2 H2 fun b H3 =>
        if b = true then te σ2 H3 fun y H4 => ∃ acc, H4 D = some (.lst acc) ∧ acc.length < sizeLine ∧ Nx (upd H4 D (.lst (acc ++ [y]))) else Nx H3)) : tLc wi g tt te vs σ H Q := h
theorem rd_yes {σ : L2.St} {H : Hp} {Q : Bool → Hp → Prop} (h : Q true H) : tYes σ H Q := h
/-- a value's truth as a test -/
def tTru (K : PySem.W.Frag) (te : TE) : TT := fun σ H Q => te σ H fun x H' => ∃ k, TruV K x H' k ∧ Q k H'
theorem pt_tru {X : Cx} {a : Expr} {ta : TE} (ha : PE X a ta) (he : ∀ whole, isTrue a X.env whole = (do let v ← whole; standAt a.pos; holding [v] (truthy v))) : PT X a (tTru X.K ta) := pt_truth ha he
theorem rd_tru {K : PySem.W.Frag} {te : TE} {σ : L2.St} {H : Hp} {Q : Bool → Hp → Prop} (h : te σ H fun x H' => ∃ k, TruV K x H' k ∧ Q k H') : tTru K te σ H Q := h
theorem item_of {ns : List Int} {i : Nat} {y : V} (hi : (ns.map V.int)[i]? = some y) : ∃ z, ns[i]? = some z ∧ y = .int z := by
  rw [List.getElem?_map] at hi
  cases e : ns[i]? with
  | none => rw [e] at hi; cases hi
  | some z => rw [e] at hi; exact ⟨z, rfl, (Option.some.inj hi).symm⟩
theorem take_more {α : Type} {l : List α} {i : Nat} {x : α} (h : l[i]? = some x) : l.take (i + 1) = l.take i ++ [x] := by
  rw [List.take_add_one, h] <;> rfl
/-- truth of a list -/
theorem truL {K : PySem.W.Frag} {H : Hp} {a : Addr} {xs : List V} {R : Bool → Prop} (h : SqL K H a xs) (q : R (!xs.isEmpty)) : ∃ k, TruV K (.ref a) H k ∧ R k := ⟨_, .inl ⟨xs, h, rfl⟩, q⟩
theorem truB {K : PySem.W.Frag} {H : Hp} {b : Bool} {R : Bool → Prop} (q : R b) : ∃ k, TruV K (.bl b) H k ∧ R k := ⟨_, rfl, q⟩
theorem lenT {K : PySem.W.Frag} {H : Hp} {p : Addr} {xs : List V} {R : Nat → Prop} (h : SqT K H p xs) (q : R xs.length) : ∃ x n, [V.ref p] = [x] ∧ LenV K x H n ∧ R n := ⟨_, _, rfl, Or.inr ⟨xs, h, rfl⟩, q⟩
theorem lenL {K : PySem.W.Frag} {H : Hp} {p : Addr} {xs : List V} {R : Nat → Prop} (h : SqL K H p xs) (q : R xs.length) : ∃ x n, [V.ref p] = [x] ∧ LenV K x H n ∧ R n := ⟨_, _, rfl, Or.inl ⟨xs, h, rfl⟩, q⟩
theorem app {l : Addr} {xs : List V} {y : V} {H : Hp} {Q : VK} (h : H l = some (.lst xs)) (hz : xs.length < 100000) (q : Q .non (upd H l (.lst (xs ++ [y])))) : rAppend (.ref l) [y] H Q := ⟨l, xs, y, rfl, rfl, h, lzl hz, q⟩
theorem tyl {K : PySem.W.Frag} {H : Hp} {l : Addr} {xs : List V} (h : H l = some (.lst xs)) : tyV K "list" (.ref l) H := tyL (.inl (.inl h))
theorem atI_last2 {α : Type} {xs : List α} {x : α} (h : xs.getLast? = some x) : atI xs (-1) = some x := by
  obtain ⟨ys, rfl⟩ := List.getLast?_eq_some_iff.mp h
  exact atI_last ys x
end XD

namespace XD
open PySem PySem.Spec PyProof.Rows L2 XA XB XC
/-! ### raise C(f'..') -/
/-- a text of written parts: it changes nothing -/
def Still (ta : TE) : Prop := ∀ (σ : L2.St) (H : Hp) (Q : VK), (∀ x, Q x H) → ta σ H Q
theorem ps_raiseX {X : Cx} {W : WX} {C : Addr} {x : Str} {e : Expr} {ta : TE} {p pos pos2 : Pos} (T : Xc X.K X.mg x C) (hg : Gl X x) (he : PE X e ta) (hst : Still ta) (tk : Takes X W) (hc : X.calm = true := by rfl)
    (hs : starEach [e] X.env = (false, eval e X.env) :: starEach [] X.env := by rfl) (hdb : (x == ("__debug__" : Str)) = false := by decide) :
    PS X (.Raise (some (.Call (.Name x p) [e] [] pos)) none pos2) (fun _ σ H => W (.ref C) none σ H) := by
  refine ⟨fun pins s σ H D I h => ?_⟩
  exact (ps_raise hc tk (pmkx T hg he hs hdb)).run pins s σ H D I (hst σ H _ fun _ => h)
abbrev tJ (ts : List TE) : TE := fun σ H Q => tJs ts Str.empty σ H fun out H1 => Q (.str out) H1
theorem still2 {a : Str} {i : Int} (h1 : (Str.empty ++ a).length ≤ sizeLine) (hi : i.natAbs.log2 < 1920) (h2 : (Str.empty ++ a ++ (toString i : Str)).length ≤ sizeLine) : Still (tJ [tC (.str a), tFmt (tC (.int i))]) :=
  fun _ _ _ q => ⟨a, rfl, h1, .inr ⟨i, rfl, hi, _, rfl, h2, q _⟩⟩
theorem still4 {a b : Str} {i j : Int} (h1 : (Str.empty ++ a).length ≤ sizeLine) (hi : i.natAbs.log2 < 1920) (h2 : (Str.empty ++ a ++ (toString i : Str)).length ≤ sizeLine) (h3 : (Str.empty ++ a ++ (toString i : Str) ++ b).length ≤ sizeLine) (hj : j.natAbs.log2 < 1920)
    (h4 : (Str.empty ++ a ++ (toString i : Str) ++ b ++ (toString j : Str)).length ≤ sizeLine) : Still (tJ [tC (.str a), tFmt (tC (.int i)), tC (.str b), tFmt (tC (.int j))]) :=
  fun _ _ _ q => ⟨a, rfl, h1, .inr ⟨i, rfl, hi, _, rfl, h2, b, rfl, h3, .inr ⟨j, rfl, hj, _, rfl, h4, q _⟩⟩⟩
theorem still3 {a b : Str} {i : Int} (h1 : (Str.empty ++ a).length ≤ sizeLine) (hi : i.natAbs.log2 < 1920) (h2 : (Str.empty ++ a ++ (toString i : Str)).length ≤ sizeLine) (h3 : (Str.empty ++ a ++ (toString i : Str) ++ b).length ≤ sizeLine) : Still (tJ [tC (.str a), tFmt (tC (.int i)), tC (.str b)]) :=
  fun _ _ _ q => ⟨a, rfl, h1, .inr ⟨i, rfl, hi, _, rfl, h2, b, rfl, h3, q _⟩⟩
end XD
namespace XD
open PySem PySem.Spec PyProof.Rows L2 XA XB XC
section
variable {K : PySem.W.Frag} {H : Hp} {a b : Addr} {xs ys : List V} {Q : VK}
theorem flat_same {k : Int} (h : xs = [] ∨ k = 1) : (List.replicate k.toNat xs).flatten = xs := by
  rcases h with e | e
  · subst e
    induction k.toNat with
    | zero => rfl
    | succ n ih => rw [List.replicate_succ, List.flatten_cons, ih] <;> rfl
  · subst e
    simp
theorem rd_rng1 {ta : TA} {σ : L2.St} {R : It → Hp → Prop} (h : ta σ H fun vs H1 => ∃ j : Int, vs = [.int j] ∧ -(2 ^ 62) ≤ j ∧ j < 2 ^ 62 ∧ R (Itr 0 j.toNat) H1) : iRng1 ta σ H R := h
theorem rd_rng2 {ta : TA} {σ : L2.St} {R : It → Hp → Prop} (h : ta σ H fun vs H1 => ∃ i j : Int, vs = [.int i, .int j] ∧ (-(2 ^ 62) ≤ i ∧ i < 2 ^ 62 ∧ -(2 ^ 62) ≤ j ∧ j < 2 ^ 62) ∧ R (Itr i (j - i).toNat) H1) : iRng2 ta σ H R := h
theorem rd_for {wi : TI} {g : TG} {tb : TS} {D : Ends} {σ : L2.St} (h : wi σ H fun J H1 => ∃ W : Nat → Nat → L2.St → Hp → Prop, (∃ m, W 0 m σ H1) ∧ ∀ i m σ H, W i m σ H →
  (J.stop i H ∧ D.nx σ H) ∨ (J.go i H ∧ ∃ N : L2.St → Hp → Prop, (∀ σ' H', N σ' H' → ∃ m', m' < m ∧ W (i + 1) m' σ' H') ∧ ∀ x H', J.yld i H x H' → g x σ H' fun σ2 H2 => tb { D with nx := N, ct := N, bk := D.nx } σ2 H2)) : tFor wi g tb D σ H := h
/-- t.count(k) -/
theorem rd_cntE {to te : TE} {σ : L2.St} (h : to σ H fun x H1 => ∃ (p : Addr) (ns : List Int), x = .ref p ∧ Tp H1 p (ns.map V.int) ∧ tCons te tNil σ H1 fun vs H2 => ∃ y, vs = [y] ∧ ∃ k, y = .int k ∧ Tp H2 p (ns.map V.int) ∧ Q (.int (ns.count k : Nat)) H2) : tCnt to te σ H Q := h
/-- tuple * int -/
theorem repS {k : Int} (h : SqT K H a xs) (h1 : -1000 ≤ k) (h2 : k ≤ 1000) (hz : xs.length ≤ 1000) (q : ∀ p H', Same H H' → SqT K H' p (List.replicate k.toNat xs).flatten → Q (.ref p) H') : rMulU K (.ref a) (.int k) H Q :=
  .inr ⟨a, k, xs, rfl, rfl, h, h1, h2, hz, fun e => q a H (Same.refl _) (by rw [flat_same e]; exact h), fun _ p o hp ho hd => q p _ (same_new hp) (Tp.sqT ⟨o, upd_same, ho, hd⟩)⟩
theorem repT {k : Int} (h : Tp H a xs) (h1 : -1000 ≤ k) (h2 : k ≤ 1000) (hz : xs.length ≤ 1000) (q : ∀ p H', Same H H' → Tp H' p (List.replicate k.toNat xs).flatten → Q (.ref p) H') : rMulU K (.ref a) (.int k) H Q :=
  .inr ⟨a, k, xs, rfl, rfl, h.sqT, h1, h2, hz, fun e => q a H (Same.refl _) (by rw [flat_same e]; exact h), fun _ p o hp ho hd => q p _ (same_new hp) ⟨o, upd_same, ho, hd⟩⟩
/-- tuple + tuple -/
theorem catS (h1 : SqT K H a xs) (h2 : SqT K H b ys) (hz : xs.length + ys.length ≤ 100000) (q : ∀ p H', Same H H' → SqT K H' p (xs ++ ys) → Q (.ref p) H') : rAddU K (.ref a) (.ref b) H Q :=
  .inr (.inl ⟨a, b, xs, ys, rfl, rfl, h1, h2, lz hz, fun e => q b H (Same.refl _) (by rw [e]; exact h2), fun _ e => q a H (Same.refl _) (by rw [e, List.append_nil]; exact h1), fun _ _ p hp => q p _ (same_new hp) (.inl (.inl upd_same))⟩)
/-- list + list -/
theorem catL (h1 : H a = some (.lst xs)) (h2 : H b = some (.lst ys)) (hz : xs.length + ys.length ≤ 100000) (q : ∀ p, H p = none → Q (.ref p) (upd H p (.lst (xs ++ ys)))) : rAddU K (.ref a) (.ref b) H Q :=
  .inr (.inr ⟨a, b, xs, ys, rfl, rfl, h1, h2, lz hz, q⟩)
theorem cut_whole {lo hi : Option Int} (h : HT.sIx xs.length 0 lo = 0 ∧ HT.sIx xs.length xs.length hi = xs.length) : cutV xs lo hi = xs := by
  unfold cutV
  rw [h.1, h.2, Nat.sub_zero, List.drop_zero, List.take_length]
/-- t[lo:hi] -/
theorem slS {lo hi : Option Int} (h : SqT K H a xs) (q : ∀ p H', Same H H' → SqT K H' p (cutV xs lo hi) → Q (.ref p) H') : rSlU K (.ref a) lo hi H Q :=
  .inr ⟨a, xs, rfl, h, fun e => q a H (Same.refl _) (by rw [cut_whole e]; exact h), fun _ p o hp ho hd => q p _ (same_new hp) (Tp.sqT ⟨o, upd_same, ho, hd⟩)⟩
theorem slT {lo hi : Option Int} (h : Tp H a xs) (q : ∀ p H', Same H H' → Tp H' p (cutV xs lo hi) → Q (.ref p) H') : rSlU K (.ref a) lo hi H Q :=
  .inr ⟨a, xs, rfl, h.sqT, fun e => q a H (Same.refl _) (by rw [cut_whole e]; exact h), fun _ p o hp ho hd => q p _ (same_new hp) ⟨o, upd_same, ho, hd⟩⟩
/-- xs[lo:hi] -/
theorem slL {lo hi : Option Int} (h : SqL K H a xs) (q : ∀ p, H p = none → Q (.ref p) (upd H p (.lst (cutV xs lo hi)))) : rSlU K (.ref a) lo hi H Q := .inl ⟨a, xs, rfl, h, q⟩
end
theorem flat_map {α β : Type} (f : α → β) (n : Nat) (xs : List α) : (List.replicate n (xs.map f)).flatten = ((List.replicate n xs).flatten).map f := by
  induction n with
  | zero => rfl
  | succ n ih => rw [List.replicate_succ, List.replicate_succ, List.flatten_cons, List.flatten_cons, ih, List.map_append]
theorem flat_len {α : Type} (n : Nat) (xs : List α) : ((List.replicate n xs).flatten).length = n * xs.length := by
  induction n with
  | zero => simp
  | succ n ih => rw [List.replicate_succ, List.flatten_cons, List.length_append, ih, Nat.succ_mul]; omega
/-- whole numbers in a row: range -/
theorem rng_ok {n : Nat} (h : n < 1000000) (m : Int) (h0 : -1000000 ≤ m) (h1 : m ≤ 1000000) : -(2 ^ 62) ≤ m ∧ m < 2 ^ 62 := ⟨by omega, by omega⟩
end XD

set_option linter.all false
set_option maxRecDepth 100000
set_option maxHeartbeats 4000000
/-! XE: comparisons of data, the law's draws. -/
namespace XE
open PySem PySem.Spec PyProof.Rows L2 XA XB XC XD
abbrev dI (xs : List Int) : List PyData := xs.map PyData.int
theorem can_dI : ∀ xs : List Int, PyData.canLayAll0 (dI xs) = true
  | [] => by simp [dI, PyData.canLayAll0]
  | x :: xs => by
    have := can_dI xs
    simp only [dI, List.map_cons, PyData.canLayAll0, PyData.canLay0, Bool.true_and] at this ⊢
    exact this
theorem dep_dI : ∀ xs : List Int, PyData.depthAll (dI xs) ≤ 1
  | [] => by simp [dI, PyData.depthAll]
  | x :: xs => by
    have := dep_dI xs
    simp only [dI, List.map_cons, PyData.depthAll, PyData.depth] at this ⊢
    omega
theorem eqv_dI : ∀ xs ys : List Int, PyData.eqvAll (dI xs) (dI ys) = decide (xs = ys)
  | [], [] => by simp [dI, PyData.eqvAll]
  | [], y :: ys => by simp [dI, PyData.eqvAll]
  | x :: xs, [] => by simp [dI, PyData.eqvAll]
  | x :: xs, y :: ys => by
    have := eqv_dI xs ys
    simp only [dI] at this
    simp only [dI, List.map_cons, PyData.eqvAll, PyData.eqv, this, List.cons.injEq]
    by_cases h : x = y <;> by_cases h2 : xs = ys <;> simp [h, h2]
theorem sh_t (xs : List Int) : SeqAt.shaped (.tuple (dI xs)) = true := by
  have h := dep_dI xs
  have e : PyData.depth (.tuple (dI xs)) ≤ 64 := by
    rw [PyData.depth]
    omega
  have e2 : PyData.canLay0 (.tuple (dI xs)) = true := by
    rw [PyData.canLay0]
    exact can_dI xs
  unfold SeqAt.shaped
  rw [e2, decide_eq_true e] <;> rfl
theorem sh_l (xs : List Int) : SeqAt.shaped (.list (dI xs)) = true := by
  have h := dep_dI xs
  have e : PyData.depth (.list (dI xs)) ≤ 64 := by
    rw [PyData.depth]
    omega
  have e2 : PyData.canLay0 (.list (dI xs)) = true := by
    rw [PyData.canLay0]
    exact can_dI xs
  unfold SeqAt.shaped
  rw [e2, decide_eq_true e] <;> rfl
section
variable {K : PySem.W.Frag} {H : Hp} {a b : Addr} {xs ys : List Int} {Q : VK}
theorem dp_all : ∀ xs : List Int, DpAll K H (xs.map V.int) (dI xs)
  | [] => .nil
  | x :: xs => .cons (.int x) (dp_all xs)
theorem dpT (h : SqT K H a (xs.map V.int)) : Dp K H (.ref a) (.tuple (dI xs)) := .tup h (dp_all xs)
theorem dpL (h : SqL K H a (xs.map V.int)) : Dp K H (.ref a) (.list (dI xs)) := .lst h (dp_all xs)
theorem eqT (h1 : SqT K H a (xs.map V.int)) (h2 : SqT K H b (ys.map V.int)) (q : Q (.bl (decide (xs = ys))) H) : rEqU K (.ref a) (.ref b) H Q :=
  .inr ⟨_, _, dpT h1, dpT h2, sh_t xs, sh_t ys, by
    rw [show PyData.eqv (.tuple (dI xs)) (.tuple (dI ys)) = decide (xs = ys) from by rw [PyData.eqv]; exact eqv_dI xs ys]
    exact q⟩
theorem neT (h1 : SqT K H a (xs.map V.int)) (h2 : SqT K H b (ys.map V.int)) (q : Q (.bl (!decide (xs = ys))) H) : rNeU K (.ref a) (.ref b) H Q :=
  .inr ⟨_, _, dpT h1, dpT h2, sh_t xs, sh_t ys, by
    rw [show PyData.eqv (.tuple (dI xs)) (.tuple (dI ys)) = decide (xs = ys) from by rw [PyData.eqv]; exact eqv_dI xs ys]
    exact q⟩
theorem eqL (h1 : SqL K H a (xs.map V.int)) (h2 : SqL K H b (ys.map V.int)) (q : Q (.bl (decide (xs = ys))) H) : rEqU K (.ref a) (.ref b) H Q :=
  .inr ⟨_, _, dpL h1, dpL h2, sh_l xs, sh_l ys, by
    rw [show PyData.eqv (.list (dI xs)) (.list (dI ys)) = decide (xs = ys) from by rw [PyData.eqv]; exact eqv_dI xs ys]
    exact q⟩
theorem neL (h1 : SqL K H a (xs.map V.int)) (h2 : SqL K H b (ys.map V.int)) (q : Q (.bl (!decide (xs = ys))) H) : rNeU K (.ref a) (.ref b) H Q :=
  .inr ⟨_, _, dpL h1, dpL h2, sh_l xs, sh_l ys, by
    rw [show PyData.eqv (.list (dI xs)) (.list (dI ys)) = decide (xs = ys) from by rw [PyData.eqv]; exact eqv_dI xs ys]
    exact q⟩
end
/-! ### the state of the draws -/
abbrev kG : Key := Sum.inr "great"
abbrev kC : Key := Sum.inr "cells"
abbrev kR : Key := Sum.inr "rest"
abbrev kT : Key := Sum.inr "turn"
def stD (g c : Addr) (r t : Int) : List (Key × V) := [(kG, .ref g), (kC, .ref c), (kR, .int r), (kT, .int t)]
/-- the state stands at s, its great numbers at g; it has been drawn from at most n times anew -/
def StAt (n : Nat) (H : Hp) (s g c : Addr) : Prop := ∃ (r t : Int) (gs cs : List Int), H s = some (.dK (stD g c r t)) ∧ H g = some (.lst (gs.map V.int)) ∧ H c = some (.lst (cs.map V.int)) ∧ c ≠ g ∧ cs.length ≤ 1000 ∧ gs.length ≤ 1000 ∧ 0 ≤ t ∧ t ≤ (n : Int)
/-- all but the state is as it was -/
def Kept (s g : Addr) (H H' : Hp) : Prop := ∀ b o, H b = some o → b ≠ s → b ≠ g → H' b = some o
theorem Kept.refl {s g : Addr} {H : Hp} : Kept s g H H := fun _ _ h _ _ => h
theorem Kept.trans {s g : Addr} {H H1 H2 : Hp} (a : Kept s g H H1) (b : Kept s g H1 H2) : Kept s g H H2 := fun c o h n m => b c o (a c o h n m) n m
theorem Kept.of {s g : Addr} {H H' : Hp} (e : Same H H') : Kept s g H H' := fun b o h _ _ => e b o h
section
variable {K : PySem.W.Frag} {H H' : Hp} {s g c a : Addr} {xs : List V} {n m : Nat} {v : V} {d : Dat}
theorem StAt.same (h : StAt n H s g c) (e : Same H H') : StAt n H' s g c := by
  obtain ⟨r, t, gs, cs, h1, h2, h3, h4⟩ := h
  exact ⟨r, t, gs, cs, e _ _ h1, e _ _ h2, e _ _ h3, h4⟩
theorem StAt.mono (h : StAt n H s g c) (l : n ≤ m) : StAt m H s g c := by
  obtain ⟨r, t, gs, cs, h1, h2, h3, h4, h5, h6, h7, h8⟩ := h
  exact ⟨r, t, gs, cs, h1, h2, h3, h4, h5, h6, h7, by omega⟩
theorem StAt.gs (h : StAt n H s g c) : ∃ o, H g = some o := by
  obtain ⟨r, t, gs, cs, h1, h2, _⟩ := h
  exact ⟨_, h2⟩
theorem StAt.ne_n (h : StAt n H s g c) (e : H a = none) : a ≠ g := by
  obtain ⟨o, q⟩ := h.gs
  intro z
  rw [z, q] at e
  cases e
theorem StAt.ne_s (h : StAt n H s g c) {o : HO} (ho : H a = some o) (hn : ∀ kvs, o ≠ .dK kvs) : a ≠ s := by
  obtain ⟨r, t, gs, cs, h1, _⟩ := h
  exact ne_of ho h1 (hn _)
theorem StAt.ne_g (h : StAt n H s g c) {o : HO} (ho : H a = some o) (hn : ∀ xs, o ≠ .lst xs) : a ≠ g := by
  obtain ⟨r, t, gs, cs, _, h2, _⟩ := h
  exact ne_of ho h2 (hn _)
theorem Kept.sqT (k : Kept s g H H') (h : StAt n H s g c) (q : SqT K H a xs) : SqT K H' a xs := by
  rcases q with (q | ⟨o, q⟩) | q
  · exact .inl (.inl (k _ _ q (h.ne_s q (by intro _ z; cases z)) (h.ne_g q (by intro _ z; cases z))))
  · exact .inl (.inr ⟨o, k _ _ q (h.ne_s q (by intro _ z; cases z)) (h.ne_g q (by intro _ z; cases z))⟩)
  · exact .inr q
theorem Kept.sqL (k : Kept s g H H') (h : StAt n H s g c) (q : SqL K H a xs) (e : a ≠ g) : SqL K H' a xs := by
  rcases q with (q | ⟨o, q⟩) | q
  · exact .inl (.inl (k _ _ q (h.ne_s q (by intro _ z; cases z)) e))
  · exact .inl (.inr ⟨o, k _ _ q (h.ne_s q (by intro _ z; cases z)) e⟩)
  · exact .inr q
theorem Kept.tp (k : Kept s g H H') (h : StAt n H s g c) (q : Tp H a xs) : Tp H' a xs := by
  obtain ⟨o, q, r⟩ := q
  exact ⟨o, k _ _ q (h.ne_s q (by intro _ z; cases z)) (h.ne_g q (by intro _ z; cases z)), r⟩
theorem Kept.lst (k : Kept s g H H') (h : StAt n H s g c) (q : H a = some (.lst xs)) (e : a ≠ g) : H' a = some (.lst xs) := k _ _ q (h.ne_s q (by intro _ z; cases z)) e
theorem Kept.rp (k : Kept s g H H') (h : StAt n H s g c) (q : Rp K H v d) (e : v ≠ .ref g) : Rp K H' v d := by
  cases d with
  | flat u => exact q
  | tup xs => obtain ⟨a, z, r, y⟩ := q; exact ⟨a, z, k.sqT h r, y⟩
  | lst xs => obtain ⟨a, z, r⟩ := q; exact ⟨a, z, k.sqL h r (fun y => e (by rw [z, y]))⟩
  | dct =>
    obtain ⟨a, kvs, z, r, l⟩ := q
    obtain ⟨r0, t0, gs0, cs0, a1, _⟩ := h
    exact ⟨a, kvs, z, k _ _ r (ne_of r a1 (by intro y; cases y; simp [stD] at l)) (fun y => e (by rw [z, y])), l⟩
theorem StAt.mut {H0 : Hp} {k : Addr} {o : HO} (h0 : StAt m H0 s g c) (hk : H0 k = none) (h : StAt n H s g c) : StAt n (upd H k o) s g c := by
  obtain ⟨r0, t0, gs0, cs0, a1, a2, a3, _⟩ := h0
  obtain ⟨r, t, gs, cs, h1, h2, h3, h4⟩ := h
  exact ⟨r, t, gs, cs, by rw [upd_ne (ne_of_none a1 hk)]; exact h1, by rw [upd_ne (ne_of_none a2 hk)]; exact h2, by rw [upd_ne (ne_of_none a3 hk)]; exact h3, h4⟩
theorem Kept.mut {k : Addr} {o : HO} (e : Kept s g H H') (hk : H k = none) : Kept s g H (upd H' k o) := fun b u q x y => by
  rw [upd_ne (ne_of_none q hk)]
  exact e b u q x y
theorem Kept.none (k : Kept s g H H') (h : StAt n H' s g c) (e : H' a = none) : H a = none := by
  obtain ⟨r, t, gs, cs, h1, h2, _⟩ := h
  cases q : H a with
  | none => rfl
  | some o => rw [k a o q (Ne.symm (ne_of_none h1 e)) (Ne.symm (ne_of_none h2 e))] at e; cases e
end
end XE

set_option linter.all false
set_option maxRecDepth 100000
set_option maxHeartbeats 4000000
/-! XF: t[::-1] of a tuple, a few more rules. -/
namespace XF
open PySem PySem.Spec PyProof.Rows L2 XA XB XC XD XE HT
section
variable {prog : Program} {w : World} {A : Around} {E : Value → Shared → Prop} {s : Shared}
theorem back_bounds (n : Nat) : Builtin.Slice.sliceAdjust none none (-1) (n : Int) = ((n : Int) - 1, -1) := by
  unfold Builtin.Slice.sliceAdjust
  simp
theorem back_places (n : Nat) : Builtin.Slice.slicePlaces ((n : Int) - 1) (-1) (-1) = n := by
  unfold Builtin.Slice.slicePlaces
  simp
  omega
theorem back_applied {sl : Addr} {n : Nat} {tk : Tok} {Q : Int × Int × Nat → Shared → Prop} (hs : s.heap.IsSliceOf sl .none .none (.int (-1) tk)) (h : Q ((n : Int) - 1, -1, n) s) :
    wpAny (model prog w) A (Builtin.Slice.sliceApplied (.ref sl) (pure (n : Int))) Q E s := by
  obtain ⟨os, hos, hcs, hds⟩ := id hs
  unfold Builtin.Slice.sliceApplied Builtin.Slice.sliceFields
  refine wpAny_bind (wpAny_bind (wpAny_field hos hds (x := .none) rfl (wpAny_bind (wpAny_field hos hds (x := .none) rfl (wpAny_bind (wpAny_field hos hds (x := .int (-1) tk) rfl (wpAny_pure ?_)))))))
  refine wpAny_bind (slicePart_int ?_)
  show wpAny _ _ (if ((-1 : Int) == 0) = true then _ else _) _ _ s
  rw [if_neg (by decide)]
  refine wpAny_bind (slicePart_none (wpAny_bind (slicePart_none (wpAny_bind (wpAny_pure ?_)))))
  show wpAny _ _ (match Builtin.Slice.sliceAdjust none none (-1) (n : Int) with | (lo, hi) => pure (lo, (-1 : Int), Builtin.Slice.slicePlaces lo hi (-1))) _ _ s
  rw [back_bounds n]
  show wpAny _ _ (pure ((n : Int) - 1, (-1 : Int), Builtin.Slice.slicePlaces ((n : Int) - 1) (-1) (-1))) _ _ s
  rw [back_places]
  exact wpAny_pure h
theorem fm_map {α β : Type} {f : α → Option β} {g : α → β} : ∀ {l : List α}, (∀ x ∈ l, f x = some (g x)) → l.filterMap f = l.map g
  | [], _ => rfl
  | x :: l, h => by
    rw [List.filterMap_cons, h x List.mem_cons_self, List.map_cons, fm_map fun y hy => h y (List.mem_cons_of_mem _ hy)]
theorem back_pick (xs : Array Value) : ((List.range xs.size).filterMap fun (m : Nat) => xs[(((xs.size : Nat) : Int) - 1 + (m : Int) * -1).toNat]?).toArray = xs.toList.reverse.toArray := by
  congr 1
  obtain ⟨l⟩ := xs
  simp only [List.size_toArray, List.getElem?_toArray]
  apply List.ext_getElem?
  intro i
  have e : (List.range l.length).filterMap (fun (m : Nat) => l[(((l.length : Nat) : Int) - 1 + (m : Int) * -1).toNat]?) = (List.range l.length).map (fun m => l.reverse.getD m Value.none) := by
    refine fm_map fun m hm => ?_
    have hm := List.mem_range.mp hm
    have e1 : (((l.length : Nat) : Int) - 1 + (m : Int) * -1).toNat = l.length - 1 - m := by omega
    rw [e1, List.getD_eq_getElem?_getD, List.getElem?_reverse hm, List.getElem?_eq_getElem (by omega)]
    rfl
  rw [e]
  by_cases hi : i < l.length
  · rw [List.getElem?_map, List.getElem?_range hi, Option.map_some, List.getD_eq_getElem?_getD, List.getElem?_eq_getElem (by simpa using hi)]
    rfl
  · rw [List.getElem?_eq_none (by simpa using hi), List.getElem?_eq_none (by simpa using hi)]
theorem getItem_tuple_back {t sl : Addr} {items : Array Value} {tk : Tok} {Q : Value → Shared → Prop} (ht : IsTup s.heap t items) (hs : s.heap.IsSliceOf sl .none .none (.int (-1) tk))
    (h : Q (.ref s.heap.objs.size) { s with heap := s.heap.push { cls := .type "tuple", data := .seq items.toList.reverse.toArray } }) (hsz : items.size ≤ sizeLine) : wpAny (model prog w) A (getItem (.ref t) (.ref sl)) Q E s := by
  have ok : sizeOk (.seq items.toList.reverse.toArray) := by
    show items.toList.reverse.toArray.size ≤ sizeLine
    simpa using hsz
  obtain ⟨os, hos, hcs, hds⟩ := id hs
  have hTs : s.TypeIs (.ref sl) "slice" := ⟨os, hos, hcs⟩
  unfold getItem
  try with_reducible refine wpAny_holding ?_
  first | refine wpAny_bind (wpAny_pure ?_) | skip
  refine wpAny_bind (wpAny_sequenceKey ht.typeIs (by decide) (wpAny_bind (wpAny_callSpecial?_slot (name := Str.ofString "__getitem__") ht.typeIs PyProof.Rows.slot_tuple_getitem
    (wpAny_call_entry PyProof.Rows.slot_tuple_getitem ht.typeIs entry_tuple_getitem ?_ (args_tuple_getitem _ _)))))
  show wpAny _ _ (Builtin.Tuple.tupleItemsOf (.ref t) >>= _) _ _ s
  refine wpAny_bind (tupleItemsOf_ ht (wpAny_bind (wpAny_typeOf hTs ?_)))
  rw [if_pos (by decide)]
  refine wpAny_bind (back_applied hs ?_)
  show wpAny _ _ (if (((items.size : Nat) : Int) - 1 == 0 && (-1 : Int) == 1 && items.size == items.size) = true then _ else _) _ _ s
  rw [if_neg (by rw [show ((-1 : Int) == 1) = false from rfl, Bool.and_false, Bool.false_and]; exact Bool.false_ne_true), back_pick]
  first
    | exact wpAny_bind (m := Builtin.Tuple.tupleExact _) (wpAny_newObj_type (wpAny_pure ⟨_, rfl, wpAny_pure h⟩) ok)
    | exact wpAny_bind (m := Builtin.Tuple.tupleExact _) (wpAny_newObj_type (wpAny_bind (wpAny_pure (wpAny_pure ⟨_, rfl, wpAny_pure h⟩))) ok)
end
section
variable {X : Cx}
/-- t[::-1] -/
def tBack (K : PySem.W.Frag) (te : TE) : TE := fun σ H Q => te σ H fun x H1 => ∃ a xs, x = .ref a ∧ SqT K H1 a xs ∧ NewT H1 xs.reverse Q
theorem pe_back {e : Expr} {te : TE} {k : Nat} {p1 p2 p3 pos : Pos} (he : PE X e te) : PE X (.Subscript e (.Slice none none (some (.UnaryOp .USub (.Constant (.int 1) k p1) p2)) p3) pos) (tBack X.K te) := by
  refine ⟨fun pins s σ H Q I h => ?_⟩
  refine Subscript_ (thn (he.run pins s σ H _ I h) fun v s1 ⟨x, H1, I1, r1, a, xs, ex, hx, q⟩ => ?_)
  subst ex
  cases r1
  have step : PO X (some (.UnaryOp .USub (.Constant (.int 1) k p1) p2)) (tPart (tUn (rU fun i => .int (-i)) (tC (.int 1)))) := po_some (pe_un un_neg pe_int)
  refine wpAny_Slice (thn (po_none.run pins s1 σ H1 (fun o H2 => o = none ∧ H2 = H1) I1 ⟨rfl, rfl⟩) fun vl s2 ⟨l, H2, I2, pl, el, e2⟩ => ?_)
  subst el e2
  refine thn (po_none.run pins s2 σ H2 (fun o H3 => o = none ∧ H3 = H2) I2 ⟨rfl, rfl⟩) fun vu s3 ⟨u, H3, I3, pu, eu, e3⟩ => ?_
  subst eu e3
  refine thn (step.run pins s3 σ H3 (fun o H4 => o = some (-1) ∧ H4 = H3) I3 ⟨1, rfl, -1, rfl, rfl, rfl⟩) fun vs s4 ⟨o, H4, I4, ps, eo, e4⟩ => ?_
  subst eo e4
  have I5 : Inv X pins σ H4 { s4 with heap := s4.heap.push { cls := .type "slice", data := .fields #[vl, vu, vs] } } := I4.kept (t' := s4.toks) fun b ob q => Heap.get?_push_of_some _ q
  obtain ⟨its, r, ht, hz⟩ := I5.tuple hx
  have hlen := r.length
  cases pl
  cases pu
  cases ps
  refine tail_any (ops := [.ref a, .ref s4.heap.objs.size]) ht.typeIs PyProof.Rows.slot_tuple_getitem.lookup ?_ (by with_unfolding_all rfl)
  refine getItem_tuple_back ht (Heap.IsSliceOf.new _ _ _ _) ?_ (by rw [List.size_toArray]; omega)
  exact newT_laid (h' := s4.heap.push _) (tk := s4.toks) I5 (by rw [List.length_reverse]; exact hz) r.reverse q
end
end XF

namespace XF
open PySem PySem.Spec PyProof.Rows L2 XA XB XC XD XE
section
variable {K : PySem.W.Frag} {σ : L2.St} {H : Hp} {Q : VK} {te ta tb : TE} {D : Ends} {i j l : Nat}
theorem rd_lrg {t : L2.St → Hp → (Int → Int → Hp → Prop) → Prop} (h : t σ H fun a b H1 => RgOk a b ∧ ∀ q, H1 q = none → Q (.ref q) (upd H1 q (.lst (rgV a b)))) : tLstRg t σ H Q := h
theorem rd_rg2 {Q : Int → Int → Hp → Prop} (h : ta σ H fun x H1 => tb σ H1 fun y H2 => ∃ i j, x = .int i ∧ y = .int j ∧ Q i j H2) : tRg2 ta tb σ H Q := h
theorem rd_back (h : te σ H fun x H1 => ∃ a xs, x = .ref a ∧ SqT K H1 a xs ∧ NewT H1 xs.reverse Q) : tBack K te σ H Q := h
theorem rd_disp {trs : List (TE × TE)} (h : ∀ p, H p = none → tPairs trs σ (upd H p (.dK [])) fun ps H2 => H2 p = some (.dK []) ∧ ∃ kvs : List (Key × V), ps = kvs.map (fun kv => (kV kv.1, kv.2)) ∧ kvs.length ≤ 15 ∧ Q (.ref p) (upd H2 p (.dK (mergeK [] kvs)))) : tDisp trs σ H Q := h
theorem rd_prN {Q : List (V × V) → Hp → Prop} (h : Q [] H) : tPairs [] σ H Q := h
theorem rd_prC {tk tv : TE} {r : List (TE × TE)} {Q : List (V × V) → Hp → Prop} (h : tk σ H fun x H1 => tv σ H1 fun y H2 => tPairs r σ H2 fun ps H3 => Q ((x, y) :: ps) H3) : tPairs ((tk, tv) :: r) σ H Q := h
theorem rd_par {ta : TA} (h : ta σ H fun vs H1 => ∃ v w, vs = [v, w] ∧ D.nx ((σ.set i (some v)).set j (some w)) H1) : tPar i j ta D σ H := h
theorem rd_par3 {ta : TA} (h : ta σ H fun vs H1 => ∃ u v w, vs = [u, v, w] ∧ D.nx (((σ.set i (some u)).set j (some v)).set l (some w)) H1) : tPar3 i j l ta D σ H := h
theorem rd_two {x y : V} {R : V → V → Prop} (h : R x y) : ∃ v w, [x, y] = [v, w] ∧ R v w := ⟨x, y, rfl, h⟩
theorem rd_three {x y z : V} {R : V → V → V → Prop} (h : R x y z) : ∃ u v w, [x, y, z] = [u, v, w] ∧ R u v w := ⟨x, y, z, rfl, h⟩
theorem rd_one {x : V} {R : V → Prop} (h : R x) : ∃ v, [x] = [v] ∧ R v := ⟨x, rfl, h⟩
theorem rd_onei {k : Int} {R : Int → Prop} (h : R k) : ∃ i, [V.int k] = [.int i] ∧ R i := ⟨k, rfl, h⟩
theorem rd_iL {R : It → Hp → Prop} (h : te σ H fun x H1 => ∃ a, x = .ref a ∧ (∃ xs, SqL K H1 a xs) ∧ R (Itl K a) H1) : iList K te σ H R := h
theorem rd_iT {R : It → Hp → Prop} (h : te σ H fun x H1 => ∃ a, x = .ref a ∧ (∃ xs, SqT K H1 a xs) ∧ R (Itt K a) H1) : iTup K te σ H R := h
end
theorem intsOf : ∀ (l : List V), (∀ x ∈ l, ∃ i, x = .int i) → ∃ gs : List Int, l = gs.map V.int
  | [], _ => ⟨[], rfl⟩
  | x :: r, h => by
    obtain ⟨i, e⟩ := h x List.mem_cons_self
    obtain ⟨gs, e2⟩ := intsOf r fun y hy => h y (List.mem_cons_of_mem _ hy)
    exact ⟨i :: gs, by rw [e, e2] <;> rfl⟩
/-! ### looking up and storing in the state -/
theorem gc : ¬ (kG = kC) := by decide +kernel
theorem gr : ¬ (kG = kR) := by decide +kernel
theorem gt : ¬ (kG = kT) := by decide +kernel
theorem cr : ¬ (kC = kR) := by decide +kernel
theorem ct : ¬ (kC = kT) := by decide +kernel
theorem rt : ¬ (kR = kT) := by decide +kernel
section
variable {g c : Addr} {r t : Int}
theorem at_G : valV (stD g c r t) kG = some (.ref g) := by simp [valV, stD]
theorem at_C : valV (stD g c r t) kC = some (.ref c) := by
  have h : decide (kG = kC) = false := decide_eq_false gc
  simp only [valV, stD, List.find?_cons, h]
  simp
theorem at_R : valV (stD g c r t) kR = some (.int r) := by
  have h1 : decide (kG = kR) = false := decide_eq_false gr
  have h2 : decide (kC = kR) = false := decide_eq_false cr
  simp only [valV, stD, List.find?_cons, h1, h2]
  simp
theorem at_T : valV (stD g c r t) kT = some (.int t) := by
  have h1 : decide (kG = kT) = false := decide_eq_false gt
  have h2 : decide (kC = kT) = false := decide_eq_false ct
  have h3 : decide (kR = kT) = false := decide_eq_false rt
  simp only [valV, stD, List.find?_cons, h1, h2, h3]
  simp
theorem put_T {u : Int} : putK (stD g c r t) kT (.int u) = stD g c r u := by
  have h1 : decide (kG = kT) = false := decide_eq_false gt
  have h2 : decide (kC = kT) = false := decide_eq_false ct
  have h3 : decide (kR = kT) = false := decide_eq_false rt
  simp only [putK, stD, List.any_cons, List.any_nil, h1, h2, h3, List.map_cons, List.map_nil, if_neg gt, if_neg ct, if_neg rt]
  simp
theorem put_R {u : Int} : putK (stD g c r t) kR (.int u) = stD g c u t := by
  have h1 : decide (kG = kR) = false := decide_eq_false gr
  have h2 : decide (kC = kR) = false := decide_eq_false cr
  have h3 : ¬ (kT = kR) := fun z => rt z.symm
  simp only [putK, stD, List.any_cons, List.any_nil, h1, h2, List.map_cons, List.map_nil, if_neg gr, if_neg cr, if_neg h3]
  simp
theorem putK_new {kvs : List (Key × V)} {k : Key} {v : V} (h : (kvs.any fun kv => decide (kv.1 = k)) = false) : putK kvs k v = kvs ++ [(k, v)] := by
  unfold putK
  rw [h] <;> rfl
/-- the state as it is made -/
theorem st_new : mergeK [] [(kG, .ref g), (kC, .ref c), (kR, .int 0), (kT, .int 0)] = stD g c 0 0 := by
  have h1 : decide (kG = kC) = false := decide_eq_false gc
  have h2 : decide (kG = kR) = false := decide_eq_false gr
  have h3 : decide (kG = kT) = false := decide_eq_false gt
  have h4 : decide (kC = kR) = false := decide_eq_false cr
  have h5 : decide (kC = kT) = false := decide_eq_false ct
  have h6 : decide (kR = kT) = false := decide_eq_false rt
  show putK (putK (putK (putK [] kG (.ref g)) kC (.ref c)) kR (.int 0)) kT (.int 0) = _
  rw [putK_new (kvs := []) rfl, List.nil_append, putK_new (kvs := [(kG, .ref g)]) (by simp only [List.any_cons, List.any_nil, h1, Bool.or_false]), List.singleton_append,
    putK_new (kvs := [(kG, .ref g), (kC, .ref c)]) (by simp only [List.any_cons, List.any_nil, h2, h4, Bool.or_false]), List.cons_append, List.singleton_append,
    putK_new (kvs := [(kG, .ref g), (kC, .ref c), (kR, .int 0)]) (by simp only [List.any_cons, List.any_nil, h3, h5, h6, Bool.or_false])]
  rfl
end
theorem pow18 : CPow 10 18 := ⟨by decide, by decide, by decide⟩
theorem none_of {H H' : Hp} {p : Addr} (e : Same H H') (h : H' p = none) : H p = none := by
  cases q : H p with
  | none => rfl
  | some o => rw [e _ _ q] at h; cases h
theorem lt1 {a b : Nat} (h : a + 64 < b) : a + 1 < b := by omega
section
variable {K : PySem.W.Frag} {H : Hp} {p : Addr} {xs : List V} {i : Int}
theorem rd_itl {R : It → Hp → Prop} (h : SqL K H p xs) (q : R (Itl K p) H) : ∃ a, V.ref p = .ref a ∧ (∃ xs, SqL K H a xs) ∧ R (Itl K a) H := ⟨p, rfl, ⟨xs, h⟩, q⟩
theorem rd_itt {R : It → Hp → Prop} (h : SqT K H p xs) (q : R (Itt K p) H) : ∃ a, V.ref p = .ref a ∧ (∃ xs, SqT K H a xs) ∧ R (Itt K a) H := ⟨p, rfl, ⟨xs, h⟩, q⟩
theorem rd_intc {Q : VK} (q : Q (.int i) H) : (∃ j, [V.int i] = [.int j] ∧ Q (.int j) H) ∨ ∃ k, [V.int i] = [.bl k] ∧ Q (.int (if k = true then 1 else 0)) H := .inl ⟨i, rfl, q⟩
end
/-- both ways of a branch lead to one rest -/
theorem rd_join {b : Bool} {ts us : TS} {D : Ends} {σ : L2.St} {H : Hp} (C : Hp → Prop) (key : ∀ H1, C H1 → D.nx σ H1) (h : (∀ H1, C H1 → D.nx σ H1) → if b = true then ts D σ H else us D σ H) : if b = true then ts D σ H else us D σ H := h key
theorem cut_lo {xs : List V} {k : Nat} (h : k ≤ xs.length) : cutV xs none (some (k : Int)) = xs.take k := by
  unfold cutV
  rw [HT.sIx_none, HT.sIx_nat, List.drop_zero, Nat.sub_zero, Nat.min_eq_left h]
theorem cut_hi {xs : List V} {k : Nat} (h : k ≤ xs.length) : cutV xs (some (k : Int)) none = xs.drop k := by
  unfold cutV
  rw [HT.sIx_none, HT.sIx_nat, Nat.min_eq_left h, List.take_of_length_le (by rw [List.length_drop]; omega)]
theorem new_at {H : Hp} {p : Addr} {o : HO} (h : H p = none) : Same H (upd H p o) ∧ upd H p o p = some o := ⟨same_new h, upd_same⟩
/-- tuple * int, a new one -/
theorem repN {K : PySem.W.Frag} {H : Hp} {a : Addr} {xs : List V} {Q : VK} {k : Int} (h : SqT K H a xs) (h1 : -1000 ≤ k) (h2 : k ≤ 1000) (hz : xs.length ≤ 1000) (hn : ¬ (xs = [] ∨ k = 1)) (q : ∀ p H', H p = none → Same H H' → Tp H' p (List.replicate k.toNat xs).flatten → Q (.ref p) H') : rMulU K (.ref a) (.int k) H Q :=
  .inr ⟨a, k, xs, rfl, rfl, h, h1, h2, hz, fun e => absurd e hn, fun _ p o hp ho hd => q p _ hp (same_new hp) ⟨o, upd_same, ho, hd⟩⟩
theorem rd_joinS {b : Bool} {ts us : TS} {D : Ends} {σ : L2.St} {H : Hp} (C : L2.St → Hp → Prop) (key : ∀ σ1 H1, C σ1 H1 → D.nx σ1 H1) (h : (∀ σ1 H1, C σ1 H1 → D.nx σ1 H1) → if b = true then ts D σ H else us D σ H) : if b = true then ts D σ H else us D σ H := h key
end XF

set_option linter.all false
set_option maxRecDepth 100000
set_option maxHeartbeats 4000000
/-! XG: a law's lambdas, tables. -/
namespace XG
open PySem PySem.Spec PyProof.Rows L2 XA XB XC XD XE XF LamX
section
variable {P : Program} {w : World} {K : PySem.W.Frag} {mg : Str → Option Value} {base : Heap} {x : Str} {st : Stmt} {N ps : List Str} {k : Nat} {sp : Sp}
/-- .. its code object at c -/
def RwC (K : PySem.W.Frag) (mg : Str → Option Value) (x : Str) (st : Stmt) (c : Addr) : Prop := ∃ f fd, FunD K x x (defArgs st) (defBody st) (defScope st) [] [] f fd ∧ mg x = some (.ref f) ∧ fd.code = .ref c
theorem mk0C {c : Addr} (R : RwC K mg x st c) (S : FnScope N ps (defScope st)) (bd : Bnd st x ps) (len : ∀ vs H Q E, sp vs H Q E → vs.length = ps.length)
    (hbody : ∀ (f : Addr) (A : Around) (outer : List Env) (s : Shared) (H : Hp) (vs : List V) (Q : VK) (E : XK), Room k (A.deeper (envOfC x (defScope st) s.heap.objs.size f (.ref c))) → sp vs H Q E →
      ∃ t, PSs (cxOf CX0 P w K mg base N x (defScope st) f (.ref c) A outer s H E).nox (defBody st) t ∧ t { nx := fun _ H' => Q .non H', rt := Q } (L2.start N vs) H) : Df P w K mg base CX0 (k + 1) x st ps sp := by
  obtain ⟨f, fd, F, g, hc⟩ := R
  refine ⟨f, fd, ?_, g, F.kp, F.bindsN bd, kbn_of F⟩
  obtain ⟨oc, od, dV, kV, doc, pm, an, cdv, ct, osl, e, lk, hcd, _, _⟩ := F.ex
  subst e
  have e2 : cdv = .ref c := hc
  subst e2
  exact fn_of lk hcd S len fun A outer s H vs Q E hr h => by
    obtain ⟨t, a, b⟩ := hbody f A outer s H vs Q E hr h
    exact ⟨t, a.nox, b⟩
end
section
variable {T : List (Addr × Str)} {K : PySem.W.Frag} {H H' : Hp} {s g c a : Addr} {xs : List V} {n m : Nat} {v : V} {d : Dat}
theorem ext_at {o : HO} (e : ExtN H H') (h : H a = some o) (hn : ∀ ps, o ≠ .tbl ps) : H' a = some o := e _ _ h hn
theorem tabs_kept (t : Tabs T H) (k : XE.Kept s g H H') (h : StAt n H s g c) : Tabs T H' := fun p hp => by
  obtain ⟨ps, h1, h2, h3⟩ := t p hp
  refine ⟨ps, k _ _ h1 (h.ne_s h1 (by intro _ z; cases z)) (h.ne_g h1 (by intro _ z; cases z)), h2, fun pos cv hc => ?_⟩
  obtain ⟨c', e1, e2⟩ := h3 pos cv hc
  exact ⟨c', e1, k _ _ e2 (h.ne_s e2 (by intro _ z; cases z)) (h.ne_g e2 (by intro _ z; cases z))⟩
theorem ext_sqT (e : ExtN H H') (h : SqT K H a xs) : SqT K H' a xs := by
  rcases h with (h | ⟨o, h⟩) | h
  · exact .inl (.inl (e _ _ h (by intro _ z; cases z)))
  · exact .inl (.inr ⟨o, e _ _ h (by intro _ z; cases z)⟩)
  · exact .inr h
theorem ext_sqL (e : ExtN H H') (h : SqL K H a xs) : SqL K H' a xs := by
  rcases h with (h | ⟨o, h⟩) | h
  · exact .inl (.inl (e _ _ h (by intro _ z; cases z)))
  · exact .inl (.inr ⟨o, e _ _ h (by intro _ z; cases z)⟩)
  · exact .inr h
theorem ext_tp (e : ExtN H H') (h : Tp H a xs) : Tp H' a xs := by
  obtain ⟨o, h, r⟩ := h
  exact ⟨o, e _ _ h (by intro _ z; cases z), r⟩
theorem ext_rp (e : ExtN H H') (q : Rp K H v d) : Rp K H' v d := by
  cases d with
  | flat u => exact q
  | tup xs => obtain ⟨a, z, r, y⟩ := q; exact ⟨a, z, ext_sqT e r, y⟩
  | lst xs => obtain ⟨a, z, r⟩ := q; exact ⟨a, z, ext_sqL e r⟩
  | dct => obtain ⟨a, kvs, z, r, l⟩ := q; exact ⟨a, kvs, z, e _ _ r (by intro _ z; cases z), l⟩
theorem ext_st (e : ExtN H H') (h : StAt n H s g c) : StAt n H' s g c := by
  obtain ⟨r, t, gs, cs, h1, h2, h3, h4⟩ := h
  exact ⟨r, t, gs, cs, e _ _ h1 (by intro _ z; cases z), e _ _ h2 (by intro _ z; cases z), e _ _ h3 (by intro _ z; cases z), h4⟩
theorem tabs_same (t : Tabs T H) (e : Same H H') : Tabs T H' := t.ext e
end
/-- what is caught: an error of the class at D, told at a -/
def Err (D : Addr) (H : Hp) (v : V) : Prop := ∃ a, v = .ref a ∧ H a = some (ExV (.ref D) none a)
theorem Err.same {D : Addr} {H H' : Hp} {v : V} (h : Err D H v) (e : Same H H') : Err D H' v := by
  obtain ⟨a, q, r⟩ := h
  exact ⟨a, q, e _ _ r⟩
theorem Err.ext {D : Addr} {H H' : Hp} {v : V} (h : Err D H v) (e : ExtN H H') : Err D H' v := by
  obtain ⟨a, q, r⟩ := h
  exact ⟨a, q, e _ _ r (by intro _ z; cases z)⟩
/-- _law_caught(lambda: ..): the body raises an error of the class at D -/
theorem rd_caught {T : List (Addr × Str)} {K : PySem.W.Frag} {CS D : Addr} {t : XK → TE} {σ : L2.St} {H : Hp} {Q : VK} (hT : Tabs T H) (hx : PySem.W.exmOne K (.ref D) (.ref CS) = some true)
    (h : ∀ H1 (Ech : XK) (Q' : VK), ExtN H H1 → Tabs T H1 → (∀ H2, (∀ v H3, Same H2 H3 → Err D H3 v → Q v H3) → Ech (.ref D) none H2) → t Ech σ H1 Q') : tLam T (TCaught K CS) t σ H Q :=
  ⟨hT, fun H1 e1 T1 Ech Q' he _ => h H1 Ech Q' e1 T1 fun H2 q => he _ _ _ hx fun a ha => q _ _ (same_new ha) ⟨a, rfl, upd_same⟩⟩
/-- isinstance(e, C) of a caught error -/
theorem rd_isErr {K : PySem.W.Frag} {D C : Addr} {H : Hp} {v : V} {b : Bool} {Q : VK} (h : Err D H v) (hc : ExcC K D) (hC : ClsV (.ref C) (.ref C)) (e : PySem.W.kitOne K (.ref D) (.ref C) = some b) (q : Q (.bl b) H) : rIsU K [v, .ref C] H Q := by
  obtain ⟨a, rfl, r⟩ := h
  exact .inr ⟨a, D, .ref C, .ref C, b, rfl, r, hc, hC, e, q⟩
def tIfT (t u v : TT) : TT := fun σ H Q => t σ H fun c H1 => if c = true then u σ H1 Q else v σ H1 Q
theorem pt_ifT {X : Cx} {a b c : Expr} {pos : Pos} {t u v : TT} (ha : PT X a t) (hb : PT X b u) (hc : PT X c v) : PT X (.IfExp a b c pos) (tIfT t u v) := by
  refine ⟨fun pins s σ H Q I h => ?_⟩
  show wpAny _ _ (do if ← isTrue a X.env (eval a X.env) then isTrue b X.env (eval b X.env) else isTrue c X.env (eval c X.env)) _ _ s
  refine wpAny_bind (wpAny_mono (ha.run pins s σ H _ I h) (fun d s1 e => ?_) fun _ _ x => x)
  obtain ⟨H1, I1, q⟩ := e
  cases d with
  | true => exact hb.run pins s1 σ H1 Q I1 q
  | false => exact hc.run pins s1 σ H1 Q I1 q
theorem rd_ifT {t u v : TT} {σ : L2.St} {H : Hp} {Q : Bool → Hp → Prop} (h : t σ H fun c H1 => if c = true then u σ H1 Q else v σ H1 Q) : tIfT t u v σ H Q := h
theorem ext_mut {H0 H : Hp} {k : Addr} {o : HO} (e : ExtN H0 H) (hk : H0 k = none) : ExtN H0 (upd H k o) := fun b u q n => by
  rw [upd_ne (ne_of_none q hk)]
  exact e b u q n
theorem ext_same {H0 H H1 : Hp} (e : ExtN H0 H) (s : Same H H1) : ExtN H0 H1 := fun b o q n => s _ _ (e b o q n)
theorem ext_none {H H' : Hp} {p : Addr} (e : ExtN H H') (h : H' p = none) (hn : ∀ ps, H p ≠ some (.tbl ps)) : H p = none := by
  cases q : H p with
  | none => rfl
  | some o => rw [e _ _ q (fun ps z => hn ps (by rw [q, z]))] at h; cases h
theorem tabs_mut {T : List (Addr × Str)} {H : Hp} {k : Addr} {xs : List V} {o : HO} (t : Tabs T H) (hk : H k = some (.lst xs)) : Tabs T (upd H k o) := fun p hp => by
  obtain ⟨ps, h1, h2, h3⟩ := t p hp
  refine ⟨ps, by rw [upd_ne (ne_of h1 hk (by intro z; cases z))]; exact h1, h2, fun pos cv hc => ?_⟩
  obtain ⟨c', e1, e2⟩ := h3 pos cv hc
  exact ⟨c', e1, by rw [upd_ne (ne_of e2 hk (by intro z; cases z))]; exact e2⟩
section
variable {σ : L2.St} {H : Hp} {Q : L2.St → Hp → Prop} {t : TG} {u : TGs} {v : V} {r : List V}
theorem rd_gcons (h : t v σ H fun σ' H' => u r σ' H' Q) : gCons t u (v :: r) σ H Q := ⟨v, r, rfl, h⟩
theorem rd_gnil (h : Q σ H) : gNil [] σ H Q := ⟨rfl, h⟩
end
theorem Err.mut {D k : Addr} {H : Hp} {v : V} {xs : List V} {o : HO} (h : Err D H v) (hk : H k = some (.lst xs)) : Err D (upd H k o) v := by
  obtain ⟨a, q, r⟩ := h
  exact ⟨a, q, by rw [upd_ne (ne_of r hk (by intro z; cases z))]; exact r⟩
theorem mk0F {P : Program} {w : World} {K : PySem.W.Frag} {mg : Str → Option Value} {base : Heap} {x : Str} {st : Stmt} {N ps : List Str} {k : Nat} {sp : Sp} {f : Addr} {fd : FuncData} (F : FunD K x x (defArgs st) (defBody st) (defScope st) [] [] f fd) (S : FnScope N ps (defScope st)) (len : ∀ vs H Q E, sp vs H Q E → vs.length = ps.length)
    (hbody : ∀ (cdv : Value) (A : Around) (outer : List Env) (s : Shared) (H : Hp) (vs : List V) (Q : VK) (E : XK), Room k (A.deeper (envOfC x (defScope st) s.heap.objs.size f cdv)) → sp vs H Q E →
      ∃ t, PSs (cxOf CX0 P w K mg base N x (defScope st) f cdv A outer s H E).nox (defBody st) t ∧ t { nx := fun _ H' => Q .non H', rt := Q } (L2.start N vs) H) : FnOk P w K mg base CX0 (k + 1) f fd ps sp :=
  F.ok S len fun cdv A outer s H vs Q E hr h => by
    obtain ⟨t, a, b⟩ := hbody cdv A outer s H vs Q E hr h
    exact ⟨t, a.nox, b⟩
theorem rd_aug {i : Nat} {te : TE} {D : Ends} {σ : L2.St} {H : Hp} {j : Int} (h : σ[i]? = some (some (.int j))) (q : te σ H fun y H1 => ∃ k, y = .int k ∧ D.nx (σ.set i (some (.int (j + k)))) H1) : tAug i te (ipI fun i j => i + j) D σ H :=
  ⟨.int j, h, by
    have e : (fun y H1 => ipI (fun i j => i + j) (.int j) y H1 fun z H2 => D.nx (σ.set i (some z)) H2) = fun y H1 => ∃ k, y = .int k ∧ D.nx (σ.set i (some (.int (j + k)))) H1 := by
      funext y H1
      refine propext ⟨fun ⟨a, b, e1, e2, q⟩ => ?_, fun ⟨k, e, q⟩ => ⟨j, k, rfl, e, q⟩⟩
      cases e1
      exact ⟨b, e2, q⟩
    rw [e]
    exact q⟩
/-- a while's test of two parts: where it ends is told once -/
theorem rd_exit {c : Bool} {t : TT} {σ : L2.St} {H : Hp} {A B : Hp → Prop} (P : Prop) (ex : P → B H) (h : (P → B H) → if c = true then t σ H (fun b H1 => if b = true then A H1 else B H1) else if false = true then A H else B H) :
    if c = true then t σ H (fun b H1 => if b = true then A H1 else B H1) else if false = true then A H else B H := h ex
theorem rd_exitH {c : Bool} {t : TT} {σ : L2.St} {H : Hp} {A B : Hp → Prop} (C : Hp → Prop) (ex : ∀ H1, C H1 → B H1) (h : (∀ H1, C H1 → B H1) → if c = true then t σ H (fun b H1 => if b = true then A H1 else B H1) else if false = true then A H else B H) :
    if c = true then t σ H (fun b H1 => if b = true then A H1 else B H1) else if false = true then A H else B H := h ex
theorem mk0FC {P : Program} {w : World} {K : PySem.W.Frag} {mg : Str → Option Value} {base : Heap} {x : Str} {st : Stmt} {N ps : List Str} {k : Nat} {sp : Sp} {f c : Addr} {fd : FuncData} (F : FunD K x x (defArgs st) (defBody st) (defScope st) [] [] f fd) (hc : fd.code = .ref c) (S : FnScope N ps (defScope st)) (len : ∀ vs H Q E, sp vs H Q E → vs.length = ps.length)
    (hbody : ∀ (A : Around) (outer : List Env) (s : Shared) (H : Hp) (vs : List V) (Q : VK) (E : XK), Room k (A.deeper (envOfC x (defScope st) s.heap.objs.size f (.ref c))) → sp vs H Q E →
      ∃ t, PSs (cxOf CX0 P w K mg base N x (defScope st) f (.ref c) A outer s H E).nox (defBody st) t ∧ t { nx := fun _ H' => Q .non H', rt := Q } (L2.start N vs) H) : FnOk P w K mg base CX0 (k + 1) f fd ps sp := by
  obtain ⟨oc, od, dV, kV, doc, pm, an, cdv, ct, osl, e, lk, hcd, _, _⟩ := F.ex
  subst e
  have e2 : cdv = .ref c := hc
  subst e2
  exact fn_of lk hcd S len fun A outer s H vs Q E hr h => by
    obtain ⟨t, a, b⟩ := hbody A outer s H vs Q E hr h
    exact ⟨t, a.nox, b⟩
end XG

set_option linter.all false
set_option maxRecDepth 100000
set_option maxHeartbeats 4000000
/-! XQ: enumerate of a tuple, tuple.index of ints, len(set(tuple of ints)), dicts of a list. -/
namespace XQ
open PySem PySem.Spec PyProof.Rows L2 XA XB XC XD XE XF XG
/-! ### enumerate(t), t a tuple -/
theorem new_enumT (l : Addr) (xs : Array Value) (n : Nat) (dd : Option Addr) (sl : Array (Option Value)) :
    Meets (Builtin.«enumerate.__new__» ⟨[.type "enumerate", .ref l], []⟩) (fun _ R s => s.heap.get? l = some ⟨.type "tuple", dd, .seq xs n, sl⟩ ∧
      R (.ok (.ret (.ref (s.heap.push { cls := .type "tuple_iterator", data := .fields #[.ref l, .int 0 0] }).objs.size)))
        { s with heap := (s.heap.push { cls := .type "tuple_iterator", data := .fields #[.ref l, .int 0 0] }).push { cls := .type "enumerate", data := .fields #[.none, .bool false, .ref s.heap.objs.size, rawInt 0, .none, .none] } }) :=
  .of_wp fun prog w A R s h => by
    obtain ⟨h1, g1, d1, tk1, os1⟩ := s
    obtain ⟨at_, go⟩ := h
    have hs := sub_enumerate
    have tp : Heap.IsTuple (Shared.heap ⟨h1, g1, d1, tk1, os1⟩) l xs := ⟨_, at_, rfl, n, rfl⟩
    wp_walk using AutoSeq1.wpAny_loadPart' at_
    refine wpAny_stack_any fun u => wpAny_pure ?_
    split
    · rename_i c _ _ _ _ _
      cases (c == Value.type "enumerate") <;> (wp_walk using AutoSeq1.wpAny_loadPart' at_, wpAny_pyIter_tuple tp; exact ⟨_, rfl, go⟩)
    · wp_walk using AutoSeq1.wpAny_loadPart' at_, wpAny_pyIter_tuple tp
      exact ⟨_, rfl, go⟩
section
variable {prog : Program} {w : World} {A : Around} {E : Value → Shared → Prop} {s : Shared}
theorem call_enumT {l : Addr} {xs : Array Value} {Q : Value → Shared → Prop} (hL : s.heap.IsTuple l xs)
    (h : ∀ h', IsEnum h' (s.heap.objs.size + 1) s.heap.objs.size 0 .none → h'.IsTupleIter s.heap.objs.size l 0 → (∀ b o, s.heap.get? b = some o → h'.get? b = some o) → Q (.ref (s.heap.objs.size + 1)) { s with heap := h' }) :
    wpAny (model prog w) A (call (.type "enumerate") [.ref l]) Q E s := by
  obtain ⟨⟨c, dd, dt, sl⟩, hl, hc, n, hd⟩ := hL
  obtain rfl : c = .type "tuple" := hc
  obtain rfl : dt = .seq xs n := hd
  refine callType_new F.called_enumerate (by decide) (F.typeCall_enumerate_1 _) (F.newCall_enumerate_1 _) (fun obj => F.args_object_init_2 obj _) F.entry_enumerate_new (new_enumT l xs n dd sl) ⟨hl, ?_⟩
  have z : (s.heap.push { cls := .type "tuple_iterator", data := .fields #[.ref l, .int 0 0] }).objs.size = s.heap.objs.size + 1 := Heap.size_push ..
  show _ ∧ _
  rw [z]
  have en : IsEnum ((s.heap.push { cls := .type "tuple_iterator", data := .fields #[.ref l, .int 0 0] }).push
      { cls := .type "enumerate", data := .fields #[.none, .bool false, .ref s.heap.objs.size, rawInt 0, .none, .none] }) (s.heap.objs.size + 1) s.heap.objs.size 0 .none := by
    have q := Heap.get?_push_size (s.heap.push { cls := .type "tuple_iterator", data := .fields #[.ref l, .int 0 0] })
      (o := { cls := .type "enumerate", data := .fields #[.none, .bool false, .ref s.heap.objs.size, rawInt 0, .none, .none] }) rfl
    rw [z] at q
    exact q
  exact ⟨⟨_, en, rfl⟩, h _ en ⟨_, Heap.get?_push_of_some _ (Heap.get?_push_size _ rfl), rfl, rfl⟩ fun b o x => Heap.get?_push_of_some _ (Heap.get?_push_of_some _ x)⟩
theorem enumT_item {e it l : Addr} {i : Nat} {xs : Array Value} {x old : Value} {Q : Value → Shared → Prop} (he : IsEnum s.heap e it i old) (hit : s.heap.IsTupleIter it l i) (hl : s.heap.IsTuple l xs) (hx : xs[i]? = some x) (hne : e ≠ it)
    (hQ : ∀ h', IsEnumOut h' e it ((i : Int) + 1) x s.heap.objs.size → h'.IsTupleIter it l (i + 1) → h'.get? s.heap.objs.size = some { cls := .type "tuple", data := .seq #[.int i s.toks, x] } → h'.objs.size = s.heap.objs.size + 1 →
      (∀ b o, b ≠ e → b ≠ it → s.heap.get? b = some o → h'.get? b = some o) → Q (.ref s.heap.objs.size) { s with heap := h', toks := s.toks + 1 }) :
    wpAny (model prog w) A (Builtin.«enumerate.__next__» ⟨[.ref e], []⟩) (fun fin s' => ∃ v, fin = .done (.ret v) ∧ Q v s') E s := by
  obtain ⟨h0, g, d, tk, os⟩ := s
  show wpAny _ _ (field (.ref e) 2 >>= _) _ _ _
  refine wpAny_bind (wpAny_field he rfl (x := .ref it) rfl (wpAny_bind (RZ.nextOf_tuple_item hit hl hx fun h₁ hit₁ hs₁ => ?_)))
  replace hs₁ : Heap.SameBut it h0 h₁ := hs₁
  have he₁ : IsEnum h₁ e it i old := (hs₁.2 e hne).trans he
  show wpAny _ _ (field (.ref e) 3 >>= _) _ _ (Shared.mk h₁ g d tk os)
  refine wpAny_bind (wpAny_field he₁ rfl (x := rawInt i) rfl ?_)
  show wpAny _ _ (field (.ref e) 4 >>= _) _ _ (Shared.mk h₁ g d tk os)
  refine wpAny_bind (wpAny_field he₁ rfl (x := .none) rfl ?_)
  show wpAny _ _ (mkInt i >>= _) _ _ (Shared.mk h₁ g d tk os)
  refine wpAny_bind (wpAny_mkInt ?_)
  show wpAny _ _ (setField (.ref e) 3 (rawInt ((i : Int) + 1)) >>= _) _ _ (Shared.mk h₁ g d (tk + 1) os)
  refine wpAny_bind (wpAny_setField_rec he₁ (by simp) fun h₂ he₂ hs₂ => ?_)
  replace hs₂ : Heap.SameBut e h₁ h₂ := hs₂
  replace he₂ : IsEnum h₂ e it ((i : Int) + 1) old := he₂
  show wpAny _ _ (setField (.ref e) 4 .none >>= _) _ _ (Shared.mk h₂ g d (tk + 1) os)
  refine wpAny_bind (wpAny_setField_rec he₂ (by simp) fun h₃ he₃ hs₃ => ?_)
  replace hs₃ : Heap.SameBut e h₂ h₃ := hs₃
  replace he₃ : IsEnum h₃ e it ((i : Int) + 1) old := he₃
  show wpAny _ _ (newTuple [.int i tk, x] >>= _) _ _ (Shared.mk h₃ g d (tk + 1) os)
  refine wpAny_bind (wpAny_newTuple ?_)
  have he₄ : IsEnum (h₃.push { cls := .type "tuple", data := .seq #[.int i tk, x] }) e it ((i : Int) + 1) old := Heap.get?_push_of_some _ he₃
  generalize q4 : h₃.push { cls := .type "tuple", data := .seq #[.int i tk, x] } = h₄ at he₄
  have z3 : h₃.objs.size = h0.objs.size := by rw [hs₃.1, hs₂.1, hs₁.1]
  have el : e < h0.objs.size := Heap.lt_size he
  have t4 : h₄.get? h0.objs.size = some { cls := .type "tuple", data := .seq #[.int i tk, x] } := by rw [← q4, ← z3]; exact Heap.get?_push_size _ rfl
  have z4 : h₄.objs.size = h0.objs.size + 1 := by rw [← q4, Heap.size_push, z3]
  have k4 : ∀ b o, b ≠ e → b ≠ it → h0.get? b = some o → h₄.get? b = some o := fun b o hbe hbi hb => by
    rw [← q4]; exact Heap.get?_push_of_some _ (hs₃.extBut b o hbe (hs₂.extBut b o hbe (hs₁.extBut b o hbi hb)))
  have i4 : h₄.IsTupleIter it l (i + 1) := by
    rw [← q4]; obtain ⟨o, ho, r⟩ := (hit₁.extBut hs₂.extBut (Ne.symm hne)).extBut hs₃.extBut (Ne.symm hne); exact ⟨o, Heap.get?_push_of_some _ ho, r⟩
  show wpAny _ _ (Builtin.SmallTypes.ownedTupleIsFree (.ref e) >>= _) _ _ (Shared.mk h₄ g d (tk + 1) os)
  rw [z3]
  clear q4 he₃ hs₃ he₂ hs₂ he₁ hs₁ hit₁ z3 h₃ h₂ h₁
  refine wpAny_bind ?_
  unfold Builtin.SmallTypes.ownedTupleIsFree
  refine wpAny_bind (wpAny_field he₄ rfl (x := .none) rfl (wpAny_pure ?_))
  simp only [if_true]
  refine wpAny_bind (wpAny_rule (wpAny_bind (wpAny_field he₄ rfl (x := old) rfl (wpAny_bind (wpAny_setField_rec he₄ (by simp) fun h₅ he₅ hs₅ => ?_)))))
  replace hs₅ : Heap.SameBut e h₄ h₅ := hs₅
  replace he₅ : IsEnum h₅ e it ((i : Int) + 1) x := he₅
  show wpAny _ _ (Builtin.SmallTypes.ownedTupleHandOut (.ref e) (.ref h0.objs.size) >>= _) _ _ (Shared.mk h₅ g d (tk + 1) os)
  refine wpAny_bind ?_
  unfold Builtin.SmallTypes.ownedTupleHandOut
  refine wpAny_bind (wpAny_setField_rec he₅ (by simp) fun h₆ he₆ hs₆ => ?_)
  replace hs₆ : Heap.SameBut e h₅ h₆ := hs₆
  replace he₆ : IsEnumOut h₆ e it ((i : Int) + 1) x h0.objs.size := he₆
  refine wpAny_setField_rec he₆ (by simp) fun h₇ he₇ hs₇ => ?_
  replace hs₇ : Heap.SameBut e h₆ h₇ := hs₇
  replace he₇ : IsEnumOut h₇ e it ((i : Int) + 1) x h0.objs.size := he₇
  refine wpAny_bind (wpAny_letGo (wpAny_pure ⟨_, rfl, hQ h₇ he₇ ?_ ?_ ?_ fun b o hbe hbi hb => hs₇.extBut b o hbe (hs₆.extBut b o hbe (hs₅.extBut b o hbe (k4 b o hbe hbi hb)))⟩))
  · exact ((i4.extBut hs₅.extBut (Ne.symm hne)).extBut hs₆.extBut (Ne.symm hne)).extBut hs₇.extBut (Ne.symm hne)
  · exact hs₇.extBut _ _ (Nat.ne_of_gt el) (hs₆.extBut _ _ (Nat.ne_of_gt el) (hs₅.extBut _ _ (Nat.ne_of_gt el) t4))
  · rw [hs₇.1, hs₆.1, hs₅.1, z4]
theorem next_enumT_item {e it l : Addr} {i : Nat} {xs : Array Value} {x old : Value} {Q : Option Value → Shared → Prop} (he : IsEnum s.heap e it i old) (hit : s.heap.IsTupleIter it l i) (hl : s.heap.IsTuple l xs) (hx : xs[i]? = some x) (hne : e ≠ it)
    (hQ : ∀ h', IsEnumOut h' e it ((i : Int) + 1) x s.heap.objs.size → h'.IsTupleIter it l (i + 1) → h'.get? s.heap.objs.size = some { cls := .type "tuple", data := .seq #[.int i s.toks, x] } → h'.objs.size = s.heap.objs.size + 1 →
      (∀ b o, b ≠ e → b ≠ it → s.heap.get? b = some o → h'.get? b = some o) → Q (some (.ref s.heap.objs.size)) { s with heap := h', toks := s.toks + 1 }) :
    wpAny (model prog w) A (pyNext (.ref e)) Q E s := by
  have ty : s.TypeIs (.ref e) "enumerate" := ⟨_, he, rfl⟩
  unfold pyNext
  exact wpAny_bind (wpAny_attempt (wpAny_callSpecial?_slot (name := Str.ofString "__next__") ty F.slot_enumerate_next (wpAny_call_entry F.slot_enumerate_next ty F.entry_enumerate_next
      (enumT_item he hit hl hx hne fun h' a b c d k => wpAny_pure (hQ h' a b c d k)) (F.args_enumerate_next_1 _))))
theorem next_enumT_end {e it l : Addr} {i : Nat} {xs : Array Value} {old : Value} {Q : Option Value → Shared → Prop} (hh : A.handled = none) (he : IsEnum s.heap e it i old) (hit : s.heap.IsTupleIter it l i) (hl : s.heap.IsTuple l xs) (hx : xs[i]? = none)
    (hQ : ∀ h', Heap.ExtBut it s.heap h' → Q none { s with heap := h' }) : wpAny (model prog w) A (pyNext (.ref e)) Q E s := by
  have ty : s.TypeIs (.ref e) "enumerate" := ⟨_, he, rfl⟩
  unfold pyNext
  refine wpAny_bind (wpAny_attempt (wpAny_callSpecial?_slot (name := Str.ofString "__next__") ty F.slot_enumerate_next (wpAny_call_entry F.slot_enumerate_next ty F.entry_enumerate_next ?_ (F.args_enumerate_next_1 _))))
  show wpAny _ _ (field (.ref e) 2 >>= _) _ _ _
  refine wpAny_bind (wpAny_field he rfl (x := .ref it) rfl (wpAny_bind (RZ.nextOf_tuple_end hh hit hl hx fun h' x he' hx' => ?_)))
  obtain ⟨o, ho, hc⟩ := hx'
  exact wpAny_bind (wpAny_isInstance (T := "StopIteration") (b := true) ⟨o, ho, hc⟩ isSubtype_stop (wpAny_pure (hQ _ he')))
end
/-- the tuple at a, each item in a new pair -/
def IteT (K : PySem.W.Frag) (a : Addr) : It :=
  ⟨fun i H => ∃ (xs : List V) (x : V), SqT K H a xs ∧ xs[i]? = some x, fun i H v H' => ∃ T x, v = .ref T ∧ H T = none ∧ H' = upd H T (.tup [.int (i : Nat), x]) ∧ ∀ xs, SqT K H a xs → xs[i]? = some x, fun i H => ∃ xs : List V, SqT K H a xs ∧ xs.length ≤ i⟩
theorem turn_enumT {P : Program} {w : World} {K : PySem.W.Frag} {elts : List Expr} {kk : Nat} {tpos : Pos} (a e it : Addr) :
    Turn P w K (.Tuple elts kk tpos) (IteT K a) [e, it] e (fun i h => (∃ old, IsEnum h e it ((i : Nat) : Int) old) ∧ h.IsTupleIter it a i ∧ e ≠ it) where
  mem := by simp
  obj := fun i h st b hb => by
    obtain ⟨⟨old, he⟩, ⟨o, ho, hc, hd⟩, _⟩ := st
    rcases (show b = e ∨ b = it by simpa using hb) with z | z
    · subst z; exact ⟨_, he, fun v q => nomatch q⟩
    · subst z; exact ⟨o, ho, fun v q => by rw [hd] at q; cases q⟩
  keep := fun i h h' st k => ⟨let ⟨old, he⟩ := st.1; ⟨old, k e (by simp) _ he⟩, st.2.1.at fun o q => k it (by simp) o q, st.2.2⟩
  item := by
    intro X hP hw hK hc i pins s σ H E I hf st hg
    subst hP hw hK
    obtain ⟨⟨old, he⟩, hit, hne⟩ := st
    obtain ⟨xs, x, hq, hx⟩ := hg
    obtain ⟨its, rv, p, hz⟩ := I.tuple hq
    obtain ⟨u, hu, ru⟩ := rv.get hx
    have e0 : e < s.heap.objs.size := Heap.lt_size he
    have i0 : it < s.heap.objs.size := by obtain ⟨_, q, _⟩ := hit; exact Heap.lt_size q
    refine next_enumT_item he hit p (x := u) (by simpa using hu) hne fun h' ho hit' hT hsz hk => ?_
    refine ⟨_, rfl, wpAny_letOwnedTupleGo_enum (s := { s with heap := h', toks := s.toks + 1 }) ho fun h'' he' sb => ?_⟩
    have hT2 : h''.get? s.heap.objs.size = some { cls := .type "tuple", data := .seq #[.int i s.toks, u] } := (sb.2 _ (Nat.ne_of_gt e0)).trans hT
    have new : ObjOk X.prog X.w (upd H s.heap.objs.size (.tup [.int (i : Nat), x])) h'' s.heap.objs.size (.tup [.int (i : Nat), x]) := ⟨by show 2 ≤ sizeLine; decide, [.int i s.toks, u], .cons ⟨_, rfl⟩ (.cons ru .nil), ⟨_, hT2, rfl, _, rfl⟩⟩
    have I1 : Inv X pins σ (upd H s.heap.objs.size (.tup [.int (i : Nat), x])) { s with heap := h'', toks := s.toks + 1 } :=
      I.turnedNew (ch := [e, it]) (fun b ob hb q => (sb.2 b (fun z => hb (by simp [z]))).trans (hk b ob (fun z => hb (by simp [z])) (fun z => hb (by simp [z])) q)) hf (Nat.le_refl _) new
    refine ⟨.ref s.heap.objs.size, _, I1, rfl, ⟨_, x, rfl, I.hok.fresh (Nat.le_refl _), rfl, fun ys hy => by rw [I.tuple_inj hy hq]; exact hx⟩, ⟨⟨u, ?_⟩, hit'.at fun o q => (sb.2 it (Ne.symm hne)).trans q, hne⟩, fun b hb => ?_⟩
    · rw [show ((i + 1 : Nat) : Int) = (i : Int) + 1 by omega]
      exact he'
    · have hb' : b < s.heap.objs.size := by
        rcases (show b = e ∨ b = it by simpa using hb) with z | z
        · rw [z]; exact e0
        · rw [z]; exact i0
      rw [upd_ne (Nat.ne_of_lt hb')]
      exact (hf b hb).1
  done := by
    intro X hP hw hK hc i pins s σ H E I hf st hg
    subst hP hw hK
    obtain ⟨⟨old, he⟩, hit, hne⟩ := st
    obtain ⟨xs, hq, hx⟩ := hg
    obtain ⟨its, rv, p, hz⟩ := I.tuple hq
    obtain ⟨f0, f1, f2, f3, f4, f5⟩ := hf it (by simp)
    have hl := rv.length
    exact next_enumT_end (I.ok.hd hc) he hit p (by simp; omega) fun h' eb => ⟨rfl, I.turned (t' := s.toks) (fun b o hb q => eb b o hb q) f0 f1 f3 f4 f5⟩
  self := fun A i s Q E st h => let ⟨⟨_, he⟩, _⟩ := st; wpAny_pyIter_enum he h
def iEnumT (K : PySem.W.Frag) (ta : TA) : TI := fun σ H R => ta σ H fun vs H1 => ∃ a xs, vs = [.ref a] ∧ SqT K H1 a xs ∧ R (IteT K a) H1
theorem pi_enumT {X : Cx} {e : Expr} {ta : TA} {p pos tpos : Pos} {elts : List Expr} {kk : Nat} (hg : Gl X "enumerate") (hm : X.mg "enumerate" = none) (ha : PA X [e] ta) (hs : starEach [e] X.env = [(false, eval e X.env)] := by rfl) :
    PI X (.Tuple elts kk tpos) (.Call (.Name "enumerate" p) [e] [] pos) (iEnumT X.K ta) := by
  refine ⟨fun pins s σ H R I h => Call_ (ld_blt I hg hm boot_enumerate (PyProof.Rows.callWith_type1 (thn (ha.run pos pins s σ H _ I h) fun us s1 ⟨vs, H1, I1, r1, q1⟩ => ?_) hs rfl))⟩
  obtain ⟨a, xs, rfl, hq, q⟩ := q1
  obtain ⟨u, rfl, ru⟩ := r1.one
  obtain rfl : u = Value.ref a := ru
  obtain ⟨its, rv, p', hz⟩ := I1.tuple hq
  refine call_enumT p' fun h' he hit hk => wpAny_pyIter_enum he ?_
  have I2 : Inv X pins σ H1 { s1 with heap := h' } := I1.kept (t' := s1.toks) hk
  refine ⟨s1.heap.objs.size + 1, [s1.heap.objs.size + 1, s1.heap.objs.size], _, _, H1, rfl, I2, turn_enumT a (s1.heap.objs.size + 1) s1.heap.objs.size, ⟨⟨.none, he⟩, hit, Nat.succ_ne_self _⟩, fun b hb => ?_, q⟩
  have hle : s1.heap.objs.size ≤ b := by
    rcases (show b = s1.heap.objs.size + 1 ∨ b = s1.heap.objs.size by simpa using hb) with z | z
    · rw [z]; exact Nat.le_add_right _ _
    · rw [z]; exact Nat.le_refl _
  exact I1.fpOk hle (I1.hok.fresh hle)
/-- how a walk over enumerate(t) goes -/
theorem walk_enumT {K : PySem.W.Frag} {a : Addr} {xs : List V} : L2.Walk (IteT K a) xs.length (fun H => SqT K H a xs) (fun i H v H' => ∃ T x, v = .ref T ∧ H T = none ∧ H' = upd H T (.tup [.int (i : Nat), x]) ∧ xs[i]? = some x) := by
  refine ⟨fun i _ hi q => ⟨xs, xs[i], q, by simp [hi]⟩, fun _ q => ⟨xs, q, Nat.le_refl _⟩, fun i _ x _ hi q y => ?_⟩
  obtain ⟨T, z, e1, e2, e3, e4⟩ := y
  exact ⟨T, z, e1, e2, e3, e4 _ q⟩
/-! ### t.index(k), t a tuple of ints -/
theorem mt_tindex {X : Cx} : MtR X "tuple.index" (fun x xs H Q => ∃ p, ∃ ys : List Int, ∃ z j, x = .ref p ∧ xs = [.int z] ∧ SqT X.K H p (ys.map V.int) ∧ ys[j]? = some z ∧ (∀ m, m < j → ys[m]? ≠ some z) ∧ Q (.int (j : Nat)) H) := by
  intro pins s σ H x xs v us Q I rx rs h
  obtain ⟨p, ys, z, j, rfl, rfl, hq, hy, hno, q⟩ := h
  cases rx
  obtain ⟨u, rfl, t, rfl⟩ := rs.one
  obtain ⟨its, r, ⟨⟨cls, dd, dt, sl⟩, ho, hc, n, hd⟩, hz⟩ := I.tuple hq
  obtain rfl : cls = .type "tuple" := hc
  obtain rfl : dt = .seq its.toArray n := hd
  have hi := ints_of_vals r
  have hl : its.toArray.size = ys.length := by rw [List.size_toArray, ← r.length, List.length_map]
  have hj : j < its.toArray.size := by rw [hl]; exact (List.getElem?_eq_some_iff.mp hy).1
  have at' : ∀ (m : Nat) (hm : m < its.toArray.size), ∃ y t', ys[m]? = some y ∧ its.toArray[m] = Value.int y t' := fun m hm => by
    have hm' : m < ys.length := by rw [← hl]; exact hm
    obtain ⟨t', e⟩ := hi.get m ys[m] (List.getElem?_eq_getElem hm')
    obtain ⟨h1, h2⟩ := List.getElem?_eq_some_iff.mp e
    exact ⟨ys[m], t', List.getElem?_eq_getElem hm', by simpa using h2⟩
  refine call_meets PySem.F.slot_tuple_index ⟨_, ho, rfl⟩ PySem.F.entry_tuple_index (PySem.F.args_tuple_index_2 _ _) (TI.tuple_indexAt p its.toArray n dd sl (.int z t) (eqk z) j hj ?_ ?_)
    ⟨ho, fun w hw => (eqk_gives hi w (by simpa using hw)).at _ _, ⟨.int (j : Nat), H, I.tok _, ⟨_, rfl⟩, q⟩⟩
  · obtain ⟨y, t', h1, h2⟩ := at' j hj
    obtain rfl := Option.some.inj (hy.symm.trans h1)
    rw [h2]
    exact beq_self_eq_true _
  · intro m hm hmj
    obtain ⟨y, t', h1, h2⟩ := at' m hm
    rw [h2]
    exact beq_eq_false_iff_ne.mpr fun e => hno m hmj (by rw [h1, e])
def tIdx (to te : TE) : TE := fun σ H Q => to σ H fun x H1 => ∃ (p : Addr) (ns : List Int), x = .ref p ∧ Tp H1 p (ns.map V.int) ∧ tCons te tNil σ H1 fun vs H2 => ∃ k j, vs = [V.int k] ∧ Tp H2 p (ns.map V.int) ∧ ns[j]? = some k ∧ (∀ m : Nat, m < j → ns[m]? ≠ some k) ∧ Q (.int (j : Nat)) H2
theorem pe_tidx {X : Cx} {o e : Expr} {to te : TE} {apos cpos : Pos} (ho : PE X o to) (he : PE X e te) (hbase : attributeBase o "index" X.env (eval o X.env) = eval o X.env := by rfl)
    (hfew : ((backTo cpos (starEach [e] X.env)).all (fun x => !x.1) && (backToKw cpos (keywordEach [] X.env)).all (fun x => x.1.isSome) && decide (([e] : List Expr).length + ([] : List Keyword).length + (if ([] : List Keyword).isEmpty then 0 else 1) < 30)) = true := by rfl)
    (hline : (apos.endLine == cpos.line) = true := by rfl) (hs : starEach [e] X.env = (false, eval e X.env) :: starEach [] X.env := by rfl) (hplain : (backTo cpos (starEach [] X.env)).any (·.1) = false := by rfl) :
    PE X (.Call (.Attribute o "index" apos) [e] [] cpos) (tIdx to te) := by
  refine ⟨fun pins s σ H Q I h => wpAny_Call_method_late hbase hfew hline rfl (thn (ho.run pins s σ H _ I h) fun v s1 ⟨x, H1, I1, r1, p, ns, ex, hT, q1⟩ => ?_)⟩
  subst ex
  obtain rfl : v = Value.ref p := r1
  obtain ⟨ob, hp, hc, hd⟩ := hT
  obtain ⟨ho', _⟩ := (show ObjOk X.prog X.w H1 s1.heap p (.frz ob (.tup (ns.map V.int))) from I1.hok p _ hp)
  refine ⟨"tuple", "tuple.index", PySem.F.plainAttrs_tuple, PySem.F.slot_tuple_index, PySem.F.type_tuple_index, ⟨ob, ho', hc⟩, fun a ea => by cases ea; exact ⟨ob, ho', hd⟩, ?_⟩
  have hA := (show PA X [e] (tCons te tNil) from pa_cons he pa_nil hs).run cpos pins s1 σ H1 _ I1 q1
  rw [hs] at hA ⊢
  refine Calls.callWith_builtin (by show (false || (backTo cpos (starEach [] X.env)).any (·.1)) = false; rw [hplain] <;> rfl) (Calls.evalArgs_plain (thn hA fun us s2 ⟨vs, H2, I2, r2, k, j, ev, hT2, a1, a2, q2⟩ => ?_))
  subst ev
  exact mt_tindex pins s2 σ H2 (.ref p) [.int k] (.ref p) us Q I2 rfl r2 ⟨p, ns, k, j, rfl, rfl, hT2.sqT, a1, a2, q2⟩
/-! ### len(set(t)), t a tuple of ints -/
def tLenSetT (K : PySem.W.Frag) (ta : TE) : TE := fun σ H Q => ta σ H fun x H1 => ∃ (l : Addr) (ns : List Int), x = .ref l ∧ SqT K H1 l (ns.map V.int) ∧ ns.length ≤ 4000 ∧ ∀ L : List Int, L.Nodup → (∀ z, z ∈ L ↔ z ∈ ns) → Q (.int (L.length : Nat)) H1
theorem pe_lenSetT {X : Cx} {a : Expr} {ta : TE} {p p2 q pos : Pos} (hg : Gl X "len") (hm : X.mg "len" = none) (hg2 : Gl X "set") (hm2 : X.mg "set" = none) (ha : PE X a ta) (hc : X.calm = true := by rfl)
    (na : starEach [a] X.env = (false, eval a X.env) :: starEach [] X.env := by rfl) : PE X (.Call (.Name "len" p) [.Call (.Name "set" p2) [a] [] q] [] pos) (tLenSetT X.K ta) := by
  refine ⟨fun pins s σ H Q I h => Call_ (ld_blt I hg hm boot_len (PyProof.Rows.callWith_builtin1 (PyProof.Rows.args_cons ?_ rfl) rfl rfl))⟩
  refine Call_ (ld_blt I hg2 hm2 boot_set (PyProof.Rows.callWith_type1 (PyProof.Rows.args_cons (thn (ha.run pins s σ H _ I h) fun v s1 ⟨x, H1, I1, r1, q1⟩ => PyProof.Rows.args_nil ?_) na) na rfl))
  obtain ⟨l, ns, rfl, hq, hl, q1⟩ := q1
  cases r1
  obtain ⟨its, r, pl, hz⟩ := I1.tuple hq
  refine call_set_tupI ns (I1.ok.hd hc) pl (by simpa using ints_of_vals r) (by unfold scanBound; omega) fun h' tk c hS hcl hk => PyProof.Rows.args_nil ?_
  have I2 : Inv X pins σ H1 { s1 with heap := h', toks := tk } := I1.kept hk
  obtain ⟨o, es, ep, t, ho, hex, hd, _, hnd, hmem, _, hf, hn, _⟩ := hS
  have e : (es.toList.map keyOf).length = es.size := by rw [List.length_map, Array.length_toList]
  have q2 := q1 _ hnd fun z => by rw [← hmem z]; simp
  rw [e] at q2
  exact call_len_set ho hex hd hf (by rw [hn]; omega) ⟨.int (es.size : Nat), H1, I2.tok _, ⟨_, rfl⟩, q2⟩
/-! ### isinstance(x, (c1, c2)) -/
def rIsV (K : PySem.W.Frag) : List V → Hp → VK → Prop := fun xs H Q => rIsU K xs H Q ∨ rIsiT K xs H Q
theorem call_isV {X : Cx} : CallR X (.builtin "isinstance") (rIsV X.K) := by
  intro pins s σ H xs us Q I r h
  rcases h with h | h
  · exact call_isU pins s σ H xs us Q I r h
  · exact call_isiT pins s σ H xs us Q I r h
/-- isinstance(v, (list, tuple)) -/
theorem kit_seq {K : PySem.W.Frag} {T : String} {b c : Bool} (h1 : kitB T "list" = some b) (h2 : kitB T "tuple" = some c) : PySem.W.kitAny K (.type T) [.type "list", .type "tuple"] = some (b || c) :=
  kitAny_cons (kit_ty h1) (fun e => by rw [e]; exact kitAny_cons (kit_ty h2) (fun e => by rw [e]; rfl) (fun e => by rw [e]; rfl)) (fun e => by rw [e]; rfl)
end XQ

/-! XH: houses as lists of orders: what letters do; core Lean only. -/
namespace XH
open XM
/-- an order of so many places -/
def Ord (N : Nat) (o : List Int) : Prop := o.length = N ∧ (∀ x ∈ o, 0 ≤ x ∧ x < (N : Int)) ∧ o.Nodup
/-- where a letter leads -/
def act (hs : List (List Int)) (l p : Int) : Int := if 0 < l then (hs.getD (l - 1).toNat []).getD p.toNat 0 else (((hs.getD (-l - 1).toNat []).idxOf p : Nat) : Int)
def walk (hs : List (List Int)) (row : List Int) (p : Int) : Int := row.foldl (fun q l => act hs l q) p
structure Hs (N : Nat) (n : Int) (hs : List (List Int)) : Prop where
  len : (hs.length : Int) = n
  ok : ∀ o ∈ hs, Ord N o
def Let (n l : Int) : Prop := -n ≤ l ∧ l ≤ n ∧ l ≠ 0
/-- all values below the bound, none twice: each place is one -/
theorem Ord.full {N : Nat} {o : List Int} (h : Ord N o) {p : Int} (h0 : 0 ≤ p) (h1 : p < N) : p ∈ o := by
  obtain ⟨hl, hb, hn⟩ := h
  -- the values as naturals are a nodup list below N of length N
  have hnn : (o.map Int.toNat).Nodup := by
    refine List.pairwise_map.mpr (hn.imp_of_mem fun {a b} ha hb2 hab e => hab ?_)
    have := hb a ha
    have := hb b hb2
    omega
  have key : ∀ (N : Nat) (l : List Nat), l.Nodup → (∀ x ∈ l, x < N) → l.length = N → ∀ k, k < N → k ∈ l := by
    intro N
    induction N with
    | zero => intro l _ _ _ k hk; omega
    | succ N ih =>
      intro l hl hb hz k hk
      by_cases hN : N ∈ l
      · have h1 : (l.erase N).length = N := by rw [List.length_erase_of_mem hN]; omega
        have h2 : (l.erase N).Nodup := hl.erase N
        have h3 : ∀ x ∈ l.erase N, x < N := fun x hx => by
          have hx' := (List.Nodup.mem_erase_iff hl).mp hx
          have := hb x hx'.2
          have := hx'.1
          omega
        by_cases e : k = N
        · rw [e]; exact hN
        · exact List.mem_of_mem_erase (ih _ h2 h3 h1 k (by omega))
      · exfalso
        have h3 : ∀ x ∈ l, x < N := fun x hx => by
          have := hb x hx
          have : x ≠ N := fun e => hN (e ▸ hx)
          omega
        have h4 : ∀ (N : Nat) (l : List Nat), l.Nodup → (∀ x ∈ l, x < N) → l.length ≤ N := by
          intro N
          induction N with
          | zero =>
            intro l _ h
            cases l with
            | nil => simp
            | cons a r => exact absurd (h a (by simp)) (by omega)
          | succ N ih =>
            intro l hl h
            have h1 : (l.erase N).length ≤ N := ih _ (hl.erase N) fun x hx => by
              have hx' := (List.Nodup.mem_erase_iff hl).mp hx
              have := h x hx'.2
              have := hx'.1
              omega
            by_cases e : N ∈ l
            · rw [List.length_erase_of_mem e] at h1; omega
            · rw [List.erase_of_not_mem e] at h1; omega
        have := h4 N l hl h3
        omega
  have := key N (o.map Int.toNat) hnn (fun x hx => by
    obtain ⟨y, hy, rfl⟩ := List.mem_map.mp hx
    have := hb y hy
    omega) (by rw [List.length_map]; exact hl) p.toNat (by omega)
  obtain ⟨y, hy, e⟩ := List.mem_map.mp this
  have := hb y hy
  rw [show p = y by omega]
  exact hy
section
variable {N : Nat} {n : Int} {hs : List (List Int)}
theorem getD_mem {α : Type} {l : List α} {i : Nat} {d : α} (h : i < l.length) : l.getD i d ∈ l := by
  rw [List.getD_eq_getElem?_getD, List.getElem?_eq_getElem h]
  exact List.getElem_mem h
theorem Hs.ord (H : Hs N n hs) {i : Nat} (h : i < hs.length) : Ord N (hs.getD i []) := H.ok _ (getD_mem h)
theorem act_in (H : Hs N n hs) {l p : Int} (hl : Let n l) (h0 : 0 ≤ p) (h1 : p < N) : 0 ≤ act hs l p ∧ act hs l p < N := by
  obtain ⟨a, b, c⟩ := hl
  have z := H.len
  unfold act
  split
  · have o := H.ord (i := (l - 1).toNat) (by omega)
    exact o.2.1 _ (getD_mem (by rw [o.1]; omega))
  · have o := H.ord (i := (-l - 1).toNat) (by omega)
    have := List.idxOf_lt_length_iff.mpr (o.full h0 h1)
    rw [o.1] at this
    omega
theorem idx_get {o : List Int} (ho : o.Nodup) {i : Nat} (h : i < o.length) : o.idxOf (o.getD i 0) = i := by
  have h3 : o.getD i 0 = o[i] := by rw [List.getD_eq_getElem?_getD, List.getElem?_eq_getElem h] <;> rfl
  rw [h3]
  exact ho.idxOf_getElem i h
theorem get_idx {o : List Int} {p : Int} (h : p ∈ o) : o.getD (o.idxOf p) 0 = p := by
  have h1 := List.idxOf_lt_length_iff.mpr h
  rw [List.getD_eq_getElem?_getD, List.getElem?_eq_getElem h1]
  exact List.getElem_idxOf h1
theorem act_back (H : Hs N n hs) {l p : Int} (hl : Let n l) (h0 : 0 ≤ p) (h1 : p < N) : act hs (-l) (act hs l p) = p := by
  obtain ⟨a, b, c⟩ := hl
  have z := H.len
  by_cases hp : 0 < l
  · have o := H.ord (i := (l - 1).toNat) (by omega)
    unfold act
    rw [if_pos hp, if_neg (by omega), show (- -l - 1).toNat = (l - 1).toNat by omega, idx_get o.2.2 (by rw [o.1]; omega)]
    omega
  · have o := H.ord (i := (-l - 1).toNat) (by omega)
    unfold act
    rw [if_neg hp, if_pos (by omega), Int.toNat_natCast, get_idx (o.full h0 h1)]
theorem walk_app (xs ys : List Int) (p : Int) : walk hs (xs ++ ys) p = walk hs ys (walk hs xs p) := by
  unfold walk
  rw [List.foldl_append]
theorem walk_in (H : Hs N n hs) : ∀ {row : List Int} {p : Int}, (∀ l ∈ row, Let n l) → 0 ≤ p → p < N → 0 ≤ walk hs row p ∧ walk hs row p < N
  | [], _, _, h0, h1 => ⟨h0, h1⟩
  | l :: r, p, hl, h0, h1 => by
    have q := act_in H (hl l (by simp)) h0 h1
    exact walk_in H (row := r) (fun x hx => hl x (by simp [hx])) q.1 q.2
theorem walk_stack (H : Hs N n hs) : ∀ {xs st : List Int} {p : Int}, (∀ l ∈ xs, Let n l) → (∀ l ∈ st, Let n l) → 0 ≤ p → p < N → walk hs (stack st xs).reverse p = walk hs (st.reverse ++ xs) p
  | [], st, p, _, _, _, _ => by simp [stack]
  | x :: xs, st, p, hx, hst, h0, h1 => by
    have hx0 := hx x (by simp)
    have e : stack st (x :: xs) = stack (push st x) xs := rfl
    rw [e, walk_stack H (fun l hl => hx l (by simp [hl])) (fun l hl => (push_mem hl).elim (hst l) fun z => z ▸ hx0) h0 h1, walk_app, walk_app]
    show _ = walk hs xs (act hs x (walk hs st.reverse p))
    congr 1
    cases st with
    | nil => rfl
    | cons y r =>
      by_cases e2 : y = -x
      · rw [push_c r e2, List.reverse_cons, walk_app]
        have hw := walk_in H (row := r.reverse) (fun l hl => hst l (by simp [List.mem_reverse.mp hl])) h0 h1
        show _ = act hs x (act hs y (walk hs r.reverse p))
        rw [show x = -y by omega, act_back H (hst y (by simp)) hw.1 hw.2]
      · rw [push_n r e2, List.reverse_cons, walk_app]
        rfl
/-- the plain row leads as the row does -/
theorem walk_red (H : Hs N n hs) {xs : List Int} {p : Int} (hx : ∀ l ∈ xs, Let n l) (h0 : 0 ≤ p) (h1 : p < N) : walk hs (red xs) p = walk hs xs p := walk_stack H (st := []) hx (fun _ h => nomatch h) h0 h1
theorem walk_inv (H : Hs N n hs) : ∀ {xs : List Int} {p : Int}, (∀ l ∈ xs, Let n l) → 0 ≤ p → p < N → walk hs (inv xs) (walk hs xs p) = p
  | [], _, _, _, _ => rfl
  | x :: xs, p, hx, h0, h1 => by
    have q := act_in H (hx x (by simp)) h0 h1
    have e : inv (x :: xs) = inv xs ++ [-x] := by simp [inv]
    rw [e, walk_app]
    show act hs (-x) (walk hs (inv xs) (walk hs xs (act hs x p))) = p
    rw [walk_inv H (fun l hl => hx l (by simp [hl])) q.1 q.2, act_back H (hx x (by simp)) h0 h1]
/-- which steps are written: of the letters up to a all, of the next one those of the places below b -/
def Dn (a b l p : Int) : Prop := l ≤ a ∨ (l = a + 1 ∧ p < b)
instance (a b l p : Int) : Decidable (Dn a b l p) := by unfold Dn; exact inferInstance
def F (hs : List (List Int)) (a b p l : Int) : Option Int :=
  if 0 < l then (if Dn a b l p then some (act hs l p) else none) else if l < 0 then (if Dn a b (-l) (act hs l p) then some (act hs l p) else none) else none
theorem F_pos {a b p l : Int} (h : 0 < l) : F hs a b p l = if Dn a b l p then some (act hs l p) else none := by
  unfold F
  rw [if_pos h]
theorem F_neg {a b p l : Int} (h : l < 0) : F hs a b p l = if Dn a b (-l) (act hs l p) then some (act hs l p) else none := by
  unfold F
  rw [if_neg (by omega), if_pos h]
theorem F_zero {a b p : Int} : F hs a b p 0 = none := by
  unfold F
  rw [if_neg (by omega), if_neg (by omega)]
theorem act_nn {l p : Int} (h : l < 0) : 0 ≤ act hs l p := by
  unfold act
  rw [if_neg (by omega)]
  omega
theorem F_start {p l : Int} (h0 : 0 ≤ p) : F hs 0 0 p l = none := by
  rcases Int.lt_trichotomy l 0 with h | h | h
  · have := act_nn (hs := hs) (p := p) h
    rw [F_neg h, if_neg]
    unfold Dn; omega
  · rw [h, F_zero]
  · rw [F_pos h, if_neg]
    unfold Dn; omega
theorem if_iff {P Q : Prop} [Decidable P] [Decidable Q] {α : Type} {x y : α} (h : P ↔ Q) : (if P then x else y) = if Q then x else y := by
  by_cases e : P
  · rw [if_pos e, if_pos (h.mp e)]
  · rw [if_neg e, if_neg (fun z => e (h.mpr z))]
theorem F_step (H : Hs N n hs) {a b p l : Int} (ha : 0 ≤ a) (han : a < n) (hb : 0 ≤ b) (hbN : b < N) (h0 : 0 ≤ p) (h1 : p < N) :
    (if p = act hs (a + 1) b ∧ l = -(a + 1) then some b else if p = b ∧ l = a + 1 then some (act hs (a + 1) b) else F hs a b p l) = F hs a (b + 1) p l := by
  by_cases e1 : l = a + 1
  · subst e1
    rw [if_neg (by omega), F_pos (by omega), F_pos (by omega)]
    by_cases e2 : p = b
    · subst e2
      rw [if_pos ⟨rfl, rfl⟩, if_pos (show Dn a (p + 1) (a + 1) p by unfold Dn; omega)]
    · rw [if_neg (fun z => e2 z.1)]
      exact if_iff (by unfold Dn; omega)
  · by_cases e2 : l = -(a + 1)
    · subst e2
      have L : Let n (a + 1) := ⟨by omega, by omega, by omega⟩
      have L2 : Let n (-(a + 1)) := ⟨by omega, by omega, by omega⟩
      have q := act_in H L2 h0 h1
      rw [F_neg (by omega), F_neg (by omega)]
      by_cases e3 : p = act hs (a + 1) b
      · rw [if_pos ⟨e3, rfl⟩]
        have back := act_back H L hb hbN
        rw [← e3] at back
        rw [back, if_pos (show Dn a (b + 1) (- -(a + 1)) b by unfold Dn; omega)]
      · rw [if_neg (fun z => e3 z.1), if_neg (fun z => e1 z.2)]
        have ne : act hs (-(a + 1)) p ≠ b := fun z => e3 (by
          have := act_back H L2 h0 h1
          rw [z, show - -(a + 1) = a + 1 by omega] at this
          exact this.symm)
        exact if_iff (by unfold Dn; omega)
    · rw [if_neg (fun z => e2 z.2), if_neg (fun z => e1 z.2)]
      have same : ∀ m q : Int, m ≠ a + 1 → (Dn a b m q ↔ Dn a (b + 1) m q) := fun m q hm => by unfold Dn; omega
      rcases Int.lt_trichotomy l 0 with h | h | h
      · rw [F_neg h, F_neg h]
        exact if_iff (same _ _ (by omega))
      · rw [h, F_zero, F_zero]
      · rw [F_pos h, F_pos h]
        exact if_iff (same _ _ e1)
theorem F_next (H : Hs N n hs) {a p l : Int} (ha : 0 ≤ a) (han : a < n) (h0 : 0 ≤ p) (h1 : p < N) : F hs a N p l = F hs (a + 1) 0 p l := by
  rcases Int.lt_trichotomy l 0 with h | h | h
  · have := act_nn (hs := hs) (p := p) h
    rw [F_neg h, F_neg h]
    by_cases e : -l ≤ a + 1
    · have q := act_in H (l := l) (p := p) ⟨by omega, by omega, by omega⟩ h0 h1
      exact if_iff (by unfold Dn; omega)
    · exact if_iff (by unfold Dn; omega)
  · rw [h, F_zero, F_zero]
  · rw [F_pos h, F_pos h]
    exact if_iff (by unfold Dn; omega)
theorem F_end {p l : Int} (hl : Let n l) : F hs n 0 p l = some (act hs l p) := by
  obtain ⟨a, b, c⟩ := hl
  by_cases h : 0 < l
  · rw [F_pos h, if_pos (show Dn n 0 l p by unfold Dn; omega)]
  · rw [F_neg (by omega), if_pos (show Dn n 0 (-l) (act hs l p) by unfold Dn; omega)]
end
end XH

set_option linter.all false
set_option maxRecDepth 100000
set_option maxHeartbeats 4000000
/-! XV: values two levels deep, steps as a list of dicts, a few readings. -/
namespace XV
open PySem PySem.Spec PyProof.Rows L2 XA XB XC XD XE XF XG XQ
/-! ### a tuple or list of things -/
inductive Dat2 where
  | one (d : Dat)
  | tups (ds : List Dat)
  | lsts (ds : List Dat)
def Rp2 (K : PySem.W.Frag) (H : Hp) (v : V) : Dat2 → Prop
  | .one d => Rp K H v d
  | .tups ds => ∃ a vs, v = .ref a ∧ SqT K H a vs ∧ Paired (Rp K H) vs ds
  | .lsts ds => ∃ a vs, v = .ref a ∧ SqL K H a vs ∧ Paired (Rp K H) vs ds
section
variable {K : PySem.W.Frag} {H H' : Hp} {v : V} {d : Dat2} {ds : List Dat} {vs : List V}
theorem prs_same (h : Paired (Rp K H) vs ds) (e : Same H H') : Paired (Rp K H') vs ds := L2.Paired.mapP h fun _ _ q => q.same e
theorem Rp2.same (h : Rp2 K H v d) (e : Same H H') : Rp2 K H' v d := by
  cases d with
  | one d => exact Rp.same h e
  | tups ds => obtain ⟨a, vs, q, r, z⟩ := h; exact ⟨a, vs, q, sqT_same e r, prs_same z e⟩
  | lsts ds => obtain ⟨a, vs, q, r, z⟩ := h; exact ⟨a, vs, q, e.seq r, prs_same z e⟩
def Dat2.ty : Dat2 → String
  | .one d => d.ty
  | .tups _ => "tuple"
  | .lsts _ => "list"
theorem tyx_T {a : Addr} {xs : List V} (h : SqT K H a xs) : TyX K H (.ref a) (.type "tuple") := by
  rcases h with (q | ⟨o, q⟩) | q
  · exact .base (.tup q)
  · exact .fTuple q
  · obtain ⟨o, its, n, e, c, _⟩ := q
    exact .kTuple e c
theorem tyx_L {a : Addr} {xs : List V} (h : SqL K H a xs) : TyX K H (.ref a) (.type "list") := by
  rcases h with (q | ⟨o, q⟩) | q
  · exact .base (.lst q)
  · exact .base (.frz q)
  · obtain ⟨o, its, n, e, c, _⟩ := q
    exact .kList e c
theorem Rp2.ty (h : Rp2 K H v d) : TyX K H v (.type d.ty) := by
  cases d with
  | one d => exact Rp.ty h
  | tups ds => obtain ⟨a, vs, rfl, q, _⟩ := h; exact tyx_T q
  | lsts ds => obtain ⟨a, vs, rfl, q, _⟩ := h; exact tyx_L q
/-- isinstance(v, T) -/
theorem rd_isT2 {T : String} {b : Bool} {Q : VK} (h : Rp2 K H v d) (e : kitB d.ty T = some b) (q : Q (.bl b) H) : rIsU K [v, .ty T] H Q :=
  .inl ⟨v, .ty T, .type d.ty, .type T, b, rfl, .ty T, h.ty, kit_ty e, q⟩
def Dat2.isT : Dat2 → Bool
  | .one d => d.isT
  | .tups _ => true
  | .lsts _ => false
def Dat.isL : Dat → Bool
  | .lst _ => true
  | _ => false
def Dat2.isL : Dat2 → Bool
  | .one d => Dat.isL d
  | .tups _ => false
  | .lsts _ => true
theorem kit_list (d : Dat) : kitB d.ty "list" = some (Dat.isL d) := by
  cases d with
  | flat v => cases v <;> (simp only [Dat.ty, Dat.isL]; decide +kernel)
  | tup xs => simp only [Dat.ty, Dat.isL]; decide +kernel
  | lst xs => simp only [Dat.ty, Dat.isL]; decide +kernel
  | dct => simp only [Dat.ty, Dat.isL]; decide +kernel
theorem kit_tuple2 (d : Dat2) : kitB d.ty "tuple" = some d.isT := by
  cases d with
  | one d => exact kit_tuple d
  | tups ds => simp only [Dat2.ty, Dat2.isT]; decide +kernel
  | lsts ds => simp only [Dat2.ty, Dat2.isT]; decide +kernel
theorem kit_list2 (d : Dat2) : kitB d.ty "list" = some d.isL := by
  cases d with
  | one d => exact kit_list d
  | tups ds => simp only [Dat2.ty, Dat2.isL]; decide +kernel
  | lsts ds => simp only [Dat2.ty, Dat2.isL]; decide +kernel
/-- isinstance(v, (list, tuple)) -/
theorem rd_isLT {Q : VK} (h : Rp2 K H v d) (q : ∀ p, H p = none → Q (.bl (d.isL || d.isT)) (upd H p (.tup [.ty "list", .ty "tuple"]))) :
    ∀ p, H p = none → rIsV K [v, .ref p] (upd H p (.tup [.ty "list", .ty "tuple"])) Q := fun p hp =>
  .inr ⟨v, p, [.ty "list", .ty "tuple"], .type d.ty, [.type "list", .type "tuple"], _, rfl, upd_same, .cons (.ty _) (.cons (.ty _) .nil), (h.same (same_new hp)).ty, kit_seq (kit_list2 d) (kit_tuple2 d), q p hp⟩
/-- tuples of whole numbers, their addresses -/
def Tups (K : PySem.W.Frag) (H : Hp) (ps : List Addr) (xss : List (List Int)) : Prop := Paired (fun p xs => SqT K H p (xs.map V.int)) ps xss
theorem Tups.same {ps : List Addr} {xss : List (List Int)} (h : Tups K H ps xss) (e : Same H H') : Tups K H' ps xss := L2.Paired.mapP h fun _ _ q => sqT_same e q
theorem tups_of : ∀ {vs : List V} {xss : List (List Int)}, Paired (Rp K H) vs (xss.map fun xs => Dat.tup (xs.map V.int)) → ∃ ps : List Addr, vs = ps.map V.ref ∧ Tups K H ps xss
  | [], [], _ => ⟨[], rfl, .nil⟩
  | v :: vs, xs :: xss, .cons ⟨a, e, q, _⟩ h => by
    obtain ⟨ps, e2, t⟩ := tups_of (vs := vs) (xss := xss) h
    exact ⟨a :: ps, by rw [e, e2]; rfl, .cons q t⟩
theorem of_tups : ∀ {ps : List Addr} {xss : List (List Int)}, Tups K H ps xss → (∀ xs ∈ xss, xs.length ≤ 20000) → Paired (Rp K H) (ps.map V.ref) (xss.map fun xs => Dat.tup (xs.map V.int))
  | [], [], _, _ => .nil
  | p :: ps, xs :: xss, .cons q h, l => .cons ⟨p, rfl, q, okI (l xs (by simp))⟩ (of_tups h fun z hz => l z (List.mem_cons_of_mem _ hz))
theorem Tups.len {ps : List Addr} {xss : List (List Int)} (h : Tups K H ps xss) : ps.length = xss.length := Paired.length h
theorem Tups.at {ps : List Addr} {xss : List (List Int)} (h : Tups K H ps xss) {i : Nat} {v : V} (e : (ps.map V.ref)[i]? = some v) : ∃ p xs, v = .ref p ∧ ps[i]? = some p ∧ xss[i]? = some xs ∧ SqT K H p (xs.map V.int) := by
  rw [List.getElem?_map] at e
  cases ep : ps[i]? with
  | none => rw [ep] at e; cases e
  | some p =>
    rw [ep] at e
    have key : ∀ {ps : List Addr} {xss : List (List Int)}, Tups K H ps xss → ∀ {i : Nat} {p : Addr}, ps[i]? = some p → ∃ xs, xss[i]? = some xs ∧ SqT K H p (xs.map V.int) := by
      intro ps xss h
      induction h with
      | nil => intro i p e; simp at e
      | cons a _ ih =>
        intro i p e
        cases i with
        | zero => simp at e; subst e; exact ⟨_, rfl, a⟩
        | succ i => simp at e; simpa using ih e
    obtain ⟨xs, e2, q⟩ := key h ep
    exact ⟨p, xs, (Option.some.inj e).symm, rfl, e2, q⟩
end
section
variable {K : PySem.W.Frag} {H H' : Hp} {ps : List Addr} {xss : List (List Int)}
/-- .. that were made by tuple() -/
def TupsP (H : Hp) (ps : List Addr) (xss : List (List Int)) : Prop := Paired (fun p xs => Tp H p (xs.map V.int)) ps xss
theorem TupsP.same (h : TupsP H ps xss) (e : Same H H') : TupsP H' ps xss := L2.Paired.mapP h fun _ _ q => q.same e
theorem TupsP.tups (h : TupsP H ps xss) : Tups K H ps xss := L2.Paired.mapP h fun _ _ q => q.sqT
theorem TupsP.at : ∀ {ps : List Addr} {xss : List (List Int)}, TupsP H ps xss → ∀ {i : Nat}, i < xss.length → ∃ p, ps[i]? = some p ∧ Tp H p ((xss.getD i []).map V.int)
  | [], [], _, i, h => absurd h (by simp)
  | p :: ps, xs :: xss, .cons a b, 0, _ => ⟨p, rfl, a⟩
  | p :: ps, xs :: xss, .cons a b, i + 1, h => by
    obtain ⟨q, e, t⟩ := TupsP.at b (i := i) (by simpa using h)
    exact ⟨q, by simpa using e, by simpa using t⟩
end
/-! ### values that hang not on the great numbers of the draws -/
def Rp2g (K : PySem.W.Frag) (g : Addr) (H : Hp) (v : V) : Dat2 → Prop
  | .one d => Rp K H v d ∧ v ≠ .ref g
  | .tups ds => v ≠ .ref g ∧ ∃ a vs, v = .ref a ∧ SqT K H a vs ∧ Paired (Rp K H) vs ds ∧ ∀ x ∈ vs, x ≠ .ref g
  | .lsts ds => v ≠ .ref g ∧ ∃ a vs, v = .ref a ∧ SqL K H a vs ∧ Paired (Rp K H) vs ds ∧ ∀ x ∈ vs, x ≠ .ref g
section
variable {K : PySem.W.Frag} {H H' : Hp} {s g c : Addr} {m : Nat} {v : V} {d : Dat2}
theorem Rp2g.ne (h : Rp2g K g H v d) : v ≠ .ref g := by
  cases d with
  | one d => exact h.2
  | tups ds => exact h.1
  | lsts ds => exact h.1
theorem Rp2g.rp (h : Rp2g K g H v d) : Rp2 K H v d := by
  cases d with
  | one d => exact h.1
  | tups ds => obtain ⟨_, a, vs, e, q, z, _⟩ := h; exact ⟨a, vs, e, q, z⟩
  | lsts ds => obtain ⟨_, a, vs, e, q, z, _⟩ := h; exact ⟨a, vs, e, q, z⟩
theorem Rp2g.same (h : Rp2g K g H v d) (e : Same H H') : Rp2g K g H' v d := by
  cases d with
  | one d => exact ⟨h.1.same e, h.2⟩
  | tups ds => obtain ⟨n, a, vs, q, r, z, w⟩ := h; exact ⟨n, a, vs, q, sqT_same e r, prs_same z e, w⟩
  | lsts ds => obtain ⟨n, a, vs, q, r, z, w⟩ := h; exact ⟨n, a, vs, q, e.seq r, prs_same z e, w⟩
theorem prs_kept (k : XE.Kept s g H H') (S : StAt m H s g c) : ∀ {vs : List V} {ds : List Dat}, Paired (Rp K H) vs ds → (∀ x ∈ vs, x ≠ .ref g) → Paired (Rp K H') vs ds
  | [], [], _, _ => .nil
  | v :: vs, d :: ds, .cons a b, h => .cons (k.rp S a (h v (by simp))) (prs_kept k S b fun x hx => h x (by simp [hx]))
theorem Rp2g.kept (k : XE.Kept s g H H') (S : StAt m H s g c) (h : Rp2g K g H v d) : Rp2g K g H' v d := by
  cases d with
  | one d => exact ⟨k.rp S h.1 h.2, h.2⟩
  | tups ds => obtain ⟨n, a, vs, q, r, z, w⟩ := h; exact ⟨n, a, vs, q, k.sqT S r, prs_kept k S z w, w⟩
  | lsts ds => obtain ⟨n, a, vs, q, r, z, w⟩ := h; exact ⟨n, a, vs, q, k.sqL S r (fun e => n (by rw [q, e])), prs_kept k S z w, w⟩
theorem prs_ext (e : LamX.ExtN H H') : ∀ {vs : List V} {ds : List Dat}, Paired (Rp K H) vs ds → Paired (Rp K H') vs ds := fun h => L2.Paired.mapP h fun _ _ q => ext_rp e q
theorem ext_rp2 (e : LamX.ExtN H H') (h : Rp2 K H v d) : Rp2 K H' v d := by
  cases d with
  | one d => exact ext_rp e h
  | tups ds => obtain ⟨a, vs, q, r, z⟩ := h; exact ⟨a, vs, q, ext_sqT e r, prs_ext e z⟩
  | lsts ds => obtain ⟨a, vs, q, r, z⟩ := h; exact ⟨a, vs, q, ext_sqL e r, prs_ext e z⟩
end
/-! ### lists of rows compared -/
def dR (rs : List (List Int)) : List PyData := rs.map fun r => PyData.tuple (dI r)
section
variable {K : PySem.W.Frag} {H : Hp} {a b : Addr} {ps qs : List Addr} {rs : List (List Int)} {Q : VK}
theorem dp_rows : ∀ {ps : List Addr} {rs : List (List Int)}, Tups K H ps rs → DpAll K H (ps.map V.ref) (dR rs)
  | [], [], _ => .nil
  | p :: ps, r :: rs, .cons x t => .cons (dpT x) (dp_rows t)
theorem can_rows : ∀ rs : List (List Int), PyData.canLayAll0 (dR rs) = true
  | [] => by simp [dR, PyData.canLayAll0]
  | r :: rs => by
    have h := can_rows rs
    have h2 := can_dI r
    simp only [dR, List.map_cons, PyData.canLayAll0, PyData.canLay0] at h ⊢
    rw [h2, h] <;> rfl
theorem dep_rows : ∀ rs : List (List Int), PyData.depthAll (dR rs) ≤ 3
  | [] => by simp [dR, PyData.depthAll]
  | r :: rs => by
    have h := dep_rows rs
    have h2 := dep_dI r
    simp only [dR, List.map_cons, PyData.depthAll, PyData.depth] at h ⊢
    omega
theorem sh_rows (rs : List (List Int)) : SeqAt.shaped (.list (dR rs)) = true := by
  have h := dep_rows rs
  have e : PyData.depth (.list (dR rs)) ≤ 64 := by
    rw [PyData.depth]
    omega
  have e2 : PyData.canLay0 (.list (dR rs)) = true := by
    rw [PyData.canLay0]
    exact can_rows rs
  unfold SeqAt.shaped
  rw [e2, decide_eq_true e] <;> rfl
/-- two lists of the same rows -/
theorem neRows (h1 : SqL K H a (ps.map V.ref)) (t1 : Tups K H ps rs) (h2 : SqL K H b (qs.map V.ref)) (t2 : Tups K H qs rs) (q : Q (.bl false) H) : rNeU K (.ref a) (.ref b) H Q :=
  .inr ⟨_, _, .lst h1 (dp_rows t1), .lst h2 (dp_rows t2), sh_rows rs, sh_rows rs, by
    rw [SeqAt.eqv_refl _ (by rw [PyData.canLay0]; exact can_rows rs)]
    exact q⟩
end
/-! ### readings -/
section
variable {K : PySem.W.Frag} {σ : L2.St} {H : Hp} {Q : VK} {ta tb : TE}
theorem rd_din (h : ta σ H fun y H1 => tb σ H1 fun x H2 => ∃ a o, x = .ref a ∧ DGet H2 a y o ∧ Q (.bl o.isSome) H2) : tDIn ta tb σ H Q := h
theorem rd_dnin (h : ta σ H fun y H1 => tb σ H1 fun x H2 => ∃ a o, x = .ref a ∧ DGet H2 a y o ∧ Q (.bl (!o.isSome)) H2) : tDNotIn ta tb σ H Q := h
theorem rd_dnew (h : ∀ p, H p = none → Q (.ref p) (upd H p (.dK []))) : tDNewK σ H Q := h
theorem rd_lset (h : ta σ H fun x H1 => ∃ (l : Addr) (ns : List Int), x = .ref l ∧ SqT K H1 l (ns.map V.int) ∧ ns.length ≤ 4000 ∧ ∀ L : List Int, L.Nodup → (∀ z, z ∈ L ↔ z ∈ ns) → Q (.int (L.length : Nat)) H1) : tLenSetT K ta σ H Q := h
theorem rd_enT {t : TA} {R : It → Hp → Prop} (h : t σ H fun vs H1 => ∃ a xs, vs = [.ref a] ∧ SqT K H1 a xs ∧ R (IteT K a) H1) : iEnumT K t σ H R := h
theorem rd_idx (h : ta σ H fun x H1 => ∃ (p : Addr) (ns : List Int), x = .ref p ∧ Tp H1 p (ns.map V.int) ∧ tCons tb tNil σ H1 fun vs H2 => ∃ k j, vs = [V.int k] ∧ Tp H2 p (ns.map V.int) ∧ ns[j]? = some k ∧ (∀ m : Nat, m < j → ns[m]? ≠ some k) ∧ Q (.int (j : Nat)) H2) : tIdx ta tb σ H Q := h
theorem rd_rg1 {Q : Int → Int → Hp → Prop} (h : ta σ H fun x H1 => ∃ j, x = .int j ∧ Q 0 j H1) : tRg1 ta σ H Q := h
theorem rd_tupRg {t : L2.St → Hp → (Int → Int → Hp → Prop) → Prop} (h : t σ H fun a b H1 => RgOk a b ∧ ∀ q, H1 q = none → Q (.ref q) (upd H1 q (.tup (rgV a b)))) : tTupRg t σ H Q := h
theorem rd_branch {b : Bool} (C : V → Hp → Prop) (key : ∀ x H, C x H → Q x H) (h : (∀ x H, C x H → Q x H) → if b = true then ta σ H Q else tb σ H Q) : if b = true then ta σ H Q else tb σ H Q := h key
theorem rd_ifE {c : TT} (h : c σ H fun b H1 => if b = true then ta σ H1 Q else tb σ H1 Q) : tIf c ta tb σ H Q := h
end
section
variable {K : PySem.W.Frag} {σ : L2.St} {H : Hp}
/-- a walk over a tuple or a list -/
theorem overU {i : Nat} {a : Addr} {vs : List V} {R : It → Hp → Prop} (hv : σ[i]? = some (some (.ref a))) (h : SqT K H a vs ∨ SqL K H a vs)
    (q : ∀ (J : It) (G : Hp → Prop), L2.Walk J vs.length G (fun i H x H' => H' = H ∧ vs[i]? = some x) → (∀ H', Same H H' → G H') → R J H) : iU K (tVar i) σ H R := by
  rcases h with h | h
  · exact .inr ⟨.ref a, hv, a, rfl, ⟨vs, h⟩, q _ _ walk_tup fun H' e => sqT_same e h⟩
  · exact .inl ⟨.ref a, hv, a, rfl, ⟨vs, h⟩, q _ _ walk_list fun H' e => e.seq h⟩
theorem lenU {p : Addr} {xs : List V} {R : Nat → Prop} (h : SqT K H p xs ∨ SqL K H p xs) (q : R xs.length) : ∃ x n, [V.ref p] = [x] ∧ LenV K x H n ∧ R n := by
  rcases h with h | h
  · exact lenT h q
  · exact lenL h q
end
/-- raise C(e): e is read -/
theorem ps_raiseR {X : Cx} {W : WX} {C : Addr} {x : Str} {e : Expr} {ta : TE} {p pos pos2 : Pos} (T : Xc X.K X.mg x C) (hg : Gl X x) (he : PE X e ta) (tk : Takes X W) (hc : X.calm = true := by rfl)
    (hs : starEach [e] X.env = (false, eval e X.env) :: starEach [] X.env := by rfl) (hdb : (x == ("__debug__" : Str)) = false := by decide) :
    PS X (.Raise (some (.Call (.Name x p) [e] [] pos)) none pos2) (fun _ σ H => ta σ H fun _ H1 => W (.ref C) none σ H1) :=
  ⟨fun pins s σ H D I h => (ps_raise hc tk (pmkx T hg he hs hdb)).run pins s σ H D I h⟩
/-! ### lists and tuples, so many times -/
def rMulV (K : PySem.W.Frag) : R2 := fun x y H Q => rMulU K x y H Q ∨ rRep x y H Q
theorem op_mulV {X : Cx} : OpR X (binaryOp .Mult) (rMulV X.K) := opr_or op_mulU op_rep
/-- a tuple that is known to the heap -/
def Tk (H : Hp) (p : Addr) (xs : List V) : Prop := H p = some (.tup xs) ∨ ∃ o, H p = some (.frz o (.tup xs))
section
variable {K : PySem.W.Frag} {H H' : Hp} {p : Addr} {xs : List V}
theorem Tk.sqT (h : Tk H p xs) : SqT K H p xs := .inl h
theorem Tk.same (h : Tk H p xs) (e : Same H H') : Tk H' p xs := h.elim (fun q => .inl (e _ _ q)) fun ⟨o, q⟩ => .inr ⟨o, e _ _ q⟩
theorem Tk.upd {D : Addr} {acc : List V} {o : HO} (h : Tk H p xs) (e : H D = some (.lst acc)) : Tk (upd H D o) p xs := h.elim
  (fun q => .inl (by rw [upd_ne (ne_of q e (by intro z; cases z))]; exact q)) fun ⟨u, q⟩ => .inr ⟨u, by rw [upd_ne (ne_of q e (by intro z; cases z))]; exact q⟩
theorem Tk.ne_g {s g c : Addr} {n : Nat} (h : Tk H p xs) (S : StAt n H s g c) : p ≠ g := h.elim (fun q => S.ne_g q (by intro _ z; cases z)) fun ⟨o, q⟩ => S.ne_g q (by intro _ z; cases z)
theorem Tk.kept {s g c : Addr} {n : Nat} (k : XE.Kept s g H H') (S : StAt n H s g c) (h : Tk H p xs) : Tk H' p xs := h.elim
  (fun q => .inl (k _ _ q (S.ne_s q (by intro _ z; cases z)) (S.ne_g q (by intro _ z; cases z)))) fun ⟨o, q⟩ => .inr ⟨o, k _ _ q (S.ne_s q (by intro _ z; cases z)) (S.ne_g q (by intro _ z; cases z))⟩
theorem Tk.ext (e : LamX.ExtN H H') (h : Tk H p xs) : Tk H' p xs := h.elim (fun q => .inl (e _ _ q (by intro _ z; cases z))) fun ⟨o, q⟩ => .inr ⟨o, e _ _ q (by intro _ z; cases z)⟩
/-- one thing, so many times: a tuple -/
theorem repOne {Q : VK} {v : V} {k : Int} (h : Tk H p [v]) (h1 : -1000 ≤ k) (h2 : k ≤ 1000) (q : ∀ p' H', Same H H' → Tk H' p' (List.replicate k.toNat v) → Q (.ref p') H') : rMulU K (.ref p) (.int k) H Q := by
  refine .inr ⟨p, k, [v], rfl, rfl, h.sqT, h1, h2, by simp, fun e => ?_, fun e p' o hp ho hd => q p' _ (same_new hp) (.inr ⟨o, by rw [List.flatten_replicate_singleton]; exact upd_same⟩)⟩
  rcases e with e | e
  · cases e
  · subst e
    exact q p H (Same.refl _) h
/-- tuple + tuple -/
theorem catTk {Q : VK} {a b : Addr} {xs ys : List V} (h1 : Tk H a xs) (h2 : Tk H b ys) (hz : xs.length + ys.length ≤ 100000) (q : ∀ p H', Same H H' → Tk H' p (xs ++ ys) → Q (.ref p) H') : rAddU K (.ref a) (.ref b) H Q :=
  .inr (.inl ⟨a, b, xs, ys, rfl, rfl, h1.sqT, h2.sqT, lz hz, fun e => q b H (Same.refl _) (by rw [e]; exact h2), fun _ e => q a H (Same.refl _) (by rw [e, List.append_nil]; exact h1), fun _ _ p hp => q p _ (same_new hp) (.inl upd_same)⟩)
/-- .. a list -/
theorem repOneL {Q : VK} {v : V} {k : Int} (h : H p = some (.lst [v])) (h1 : -1000 ≤ k) (h2 : k ≤ 1000) (q : ∀ p', H p' = none → Q (.ref p') (upd H p' (.lst (List.replicate k.toNat v)))) : rMulV K (.ref p) (.int k) H Q := by
  refine .inr ⟨p, k, [v], rfl, rfl, h, by omega, by omega, lz (by simp; omega), fun p' hp => ?_⟩
  rw [List.flatten_replicate_singleton]
  exact q p' hp
theorem prs_rep {v : V} {d : Dat} (h : Rp K H v d) : ∀ k : Nat, Paired (Rp K H) (List.replicate k v) (List.replicate k d)
  | 0 => .nil
  | k + 1 => .cons h (prs_rep h k)
end
/-! ### a comprehension whose items are made one by one -/
theorem lc_rel {J : It} {n : Nat} {G : Hp → Prop} {Y : Nat → Hp → V → Hp → Prop} (w : L2.Walk J n G Y) {g : TG} {tt : TT} {te : TE} {vs : List Nat} {σ : L2.St} {H1 : Hp} {D : Addr} {Qd : Hp → Prop} (hD : H1 D = none) (hz : n < 100000)
    (Φ : Nat → V → Hp → Prop) (hΦ : ∀ i y H H', Same H H' → Φ i y H → Φ i y H') (hu : ∀ i y H acc o, H D = some (.lst acc) → Φ i y H → Φ i y (upd H D (.lst o)))
    (hG : ∀ H', Same H1 H' → G H')
    (hs : ∀ i x H H', i < n → Same H1 H → Y i H x H' → Same H H' ∧ ∀ (R : V → Hp → Prop) (R0 : Hp → Prop), (∀ y H'', Same H' H'' → Φ i y H'' → R y H'') →
      g x (wipe σ vs) H' fun σ2 H2 => wipe σ2 vs = wipe σ vs ∧ tt σ2 H2 fun b H3 => if b = true then te σ2 H3 R else R0 H3)
    (hd : ∀ H' ys, Same H1 H' → H' D = some (.lst ys) → ys.length = n → (∀ i y, ys[i]? = some y → Φ i y H') → Qd H') :
    ∃ W : Nat → Nat → Hp → Prop, (∃ m, W 0 m (upd H1 D (.lst []))) ∧ ∀ i m H, W i m H →
      (J.stop i H ∧ Qd H) ∨ (J.go i H ∧ ∃ Nx : Hp → Prop, (∀ H', Nx H' → ∃ m', m' < m ∧ W (i + 1) m' H') ∧ ∀ x H', J.yld i H x H' → g x (wipe σ vs) H' fun σ2 H2 => wipe σ2 vs = wipe σ vs ∧ tt σ2 H2 fun b H3 =>
        if b = true then te σ2 H3 fun y H4 => ∃ acc, H4 D = some (.lst acc) ∧ acc.length < sizeLine ∧ Nx (upd H4 D (.lst (acc ++ [y]))) else Nx H3) := by
  refine lc_it w (fun i H => Same H1 H ∧ ∃ ys, H D = some (.lst ys) ∧ ys.length = i ∧ ∀ j y, ys[j]? = some y → Φ j y H) ⟨same_new hD, [], upd_same, rfl, fun j y h => by simp at h⟩ (fun i H _ h => hG H h.1) (fun i x H H' hi h y => ?_) fun H h => ?_
  · obtain ⟨e, ys, eD, hl, hp⟩ := h
    obtain ⟨e2, q⟩ := hs i x H H' hi e y
    refine q _ _ fun y H'' e3 hy => ⟨ys, e3 _ _ (e2 _ _ eD), lzl (by omega), same_mut (e.trans (e2.trans e3)) hD, ys ++ [y], upd_same, by simp [hl], fun j z hj => ?_⟩
    refine hu j z H'' ys _ (e3 _ _ (e2 _ _ eD)) ?_
    by_cases hji : j < ys.length
    · rw [List.getElem?_append_left hji] at hj
      exact hΦ j z H H'' (e2.trans e3) (hp j z hj)
    · have : j = ys.length := by
        have := (List.getElem?_eq_some_iff.mp hj).1
        simp only [List.length_append, List.length_cons, List.length_nil] at this
        omega
      subst this
      rw [List.getElem?_append_right (Nat.le_refl _)] at hj
      simp at hj
      rw [← hj, hl]
      exact hy
  · obtain ⟨e, ys, eD, hl, hp⟩ := h
    exact hd H ys e eD hl hp
/-- truth values, one by one -/
theorem bools_of : ∀ {ys : List V}, (∀ (i : Nat) y, ys[i]? = some y → ∃ b, y = V.bl b) → ∃ bs : List Bool, ys = bs.map V.bl
  | [], _ => ⟨[], rfl⟩
  | y :: r, h => by
    obtain ⟨b, e⟩ := h 0 y rfl
    obtain ⟨bs, e2⟩ := bools_of (ys := r) fun i y hi => h (i + 1) y (by simpa using hi)
    exact ⟨b :: bs, by rw [e, e2] <;> rfl⟩
theorem bools_all {bs : List Bool} {n : Nat} {P : Nat → Prop} (hl : bs.length = n) (h : ∀ i b, bs[i]? = some b → (b = true ↔ P i)) : bs.all id = true ↔ ∀ i, i < n → P i := by
  rw [List.all_eq_true]
  constructor
  · intro a i hi
    have hi2 : i < bs.length := by omega
    exact (h i bs[i] (List.getElem?_eq_getElem hi2)).mp (a _ (List.getElem_mem hi2))
  · intro a b hb
    obtain ⟨i, hi, e⟩ := List.mem_iff_getElem.mp hb
    exact (h i b (by rw [List.getElem?_eq_getElem hi, e])).mpr (a i (by omega))
/-! ### none twice, by counting -/
theorem sub_len {α : Type} [BEq α] [LawfulBEq α] : ∀ {L M : List α}, L.Nodup → (∀ z ∈ L, z ∈ M) → L.length ≤ M.length
  | [], _, _, _ => Nat.zero_le _
  | a :: r, M, hn, hs => by
    obtain ⟨h1, h2⟩ := List.nodup_cons.mp hn
    have hm := hs a (by simp)
    have := sub_len (L := r) (M := M.erase a) h2 fun z hz => (List.mem_erase_of_ne (fun e : z = a => h1 (by rw [← e]; exact hz))).mpr (hs z (by simp [hz]))
    rw [List.length_erase_of_mem hm] at this
    have : 0 < M.length := List.length_pos_of_mem hm
    simp only [List.length_cons]
    omega
theorem not_nodup {α : Type} : ∀ {M : List α}, ¬ M.Nodup → ∃ M' : List α, M'.length + 1 = M.length ∧ ∀ z ∈ M, z ∈ M'
  | [], h => absurd List.nodup_nil h
  | x :: r, h => by
    by_cases hx : x ∈ r
    · exact ⟨r, rfl, fun z hz => (List.mem_cons.mp hz).elim (fun e => e ▸ hx) id⟩
    · have hr : ¬ r.Nodup := fun n => h (List.nodup_cons.mpr ⟨hx, n⟩)
      obtain ⟨M', a, b⟩ := not_nodup hr
      exact ⟨x :: M', by simp [a], fun z hz => (List.mem_cons.mp hz).elim (fun e => by simp [e]) fun e => by simp [b z e]⟩
/-- as many members as places exactly if none stands twice -/
theorem nodup_len {L M : List Int} (hL : L.Nodup) (hm : ∀ z, z ∈ L ↔ z ∈ M) : L.length = M.length ↔ M.Nodup := by
  constructor
  · intro e
    refine Classical.byContradiction fun hn => ?_
    obtain ⟨M', a, b⟩ := not_nodup hn
    have := sub_len (M := M') hL fun z hz => b z ((hm z).mp hz)
    omega
  · intro hM
    have h1 := sub_len (M := M) hL fun z hz => (hm z).mp hz
    have h2 := sub_len (M := L) hM fun z hz => (hm z).mpr hz
    omega
theorem putK_len1 {κ : Type} [DecidableEq κ] (c : List (κ × V)) (k : κ) (x : V) : (putK c k x).length ≤ c.length + 1 := by
  unfold putK
  split
  · simp
  · simp
/-- a number at a text's end -/
theorem num_log {i : Int} (h0 : 0 ≤ i) (h1 : i < 10 ^ 18) : i.natAbs.log2 < 1920 := by
  by_cases e : i.natAbs = 0
  · rw [e]; decide
  · exact Nat.lt_of_lt_of_le (Nat.log2_lt e |>.mpr (show i.natAbs < 2 ^ 64 by omega)) (by decide)
theorem num_len {a : Str} {i : Int} (ha : a.length ≤ 1000) (h0 : 0 ≤ i) (h1 : i < 10 ^ 18) : (Str.empty ++ a ++ (toString i : Str)).length ≤ sizeLine := by
  have h := PyProof.Rows.toString_length_le h0 (k := 18) (by decide) h1
  have e : (Str.empty ++ a ++ (toString i : Str)).length = Str.empty.length + a.length + (Str.ofString (toString i)).length := by
    rw [Str.length_append, Str.length_append]
  rw [e]
  have z : Str.empty.length = 0 := by decide +kernel
  exact lz (by omega)
/-! ### steps: a list of dicts -/
structure StpAt (H : Hp) (S : Addr) (ds : List Addr) (B : Nat) (f : Int → Int → Option Int) : Prop where
  ls : H S = some (.lst (ds.map V.ref))
  nd : ds.Nodup
  dt : ∀ (i : Nat) (d : Addr), ds[i]? = some d → ∃ kvs : List (Key × V), H d = some (.dK kvs) ∧ kvs.length ≤ B ∧ ∀ l : Int, valV kvs (Sum.inl l) = (f i l).map V.int
  cl : ∀ p l q, 0 ≤ p → p < (ds.length : Int) → f p l = some q → 0 ≤ q ∧ q < (ds.length : Int)
/-- all but these is as it was -/
def Off (ds : List Addr) (H H' : Hp) : Prop := ∀ b o, H b = some o → b ∉ ds → H' b = some o
theorem Off.refl {ds : List Addr} {H : Hp} : Off ds H H := fun _ _ h _ => h
theorem Off.trans {ds : List Addr} {H H1 H2 : Hp} (a : Off ds H H1) (b : Off ds H1 H2) : Off ds H H2 := fun c o h n => b c o (a c o h n) n
theorem Off.of {ds : List Addr} {H H' : Hp} (e : Same H H') : Off ds H H' := fun b o h _ => e b o h
/-- of objects that weren't there ahead -/
theorem Off.new {ds : List Addr} {H0 H H' : Hp} (a : Off ds H H') (e : Same H0 H) (n : ∀ d ∈ ds, H0 d = none) : Same H0 H' := fun b o h => a b o (e b o h) fun m => by
  rw [n b m] at h
  cases h
def put1 (f : Int → Int → Option Int) (p l g : Int) : Int → Int → Option Int := fun i m => if i = p ∧ m = l then some g else f i m
section
variable {K : PySem.W.Frag} {H H' : Hp} {S : Addr} {ds : List Addr} {B : Nat} {f : Int → Int → Option Int}
theorem StpAt.same (h : StpAt H S ds B f) (e : Same H H') : StpAt H' S ds B f :=
  ⟨e _ _ h.ls, h.nd, fun i d hd => by obtain ⟨kvs, a, b⟩ := h.dt i d hd; exact ⟨kvs, e _ _ a, b⟩, h.cl⟩
theorem StpAt.mem (h : StpAt H S ds B f) {d : Addr} (hd : d ∈ ds) : ∃ kvs : List (Key × V), H d = some (.dK kvs) := by
  obtain ⟨i, hi, e⟩ := List.mem_iff_getElem.mp hd
  obtain ⟨kvs, a, _⟩ := h.dt i d (by rw [List.getElem?_eq_getElem hi, e])
  exact ⟨kvs, a⟩
theorem StpAt.ls_off (h : StpAt H S ds B f) : S ∉ ds := fun m => by
  obtain ⟨kvs, a⟩ := h.mem m
  rw [h.ls] at a
  cases a
/-- one more step is written -/
theorem StpAt.put (h : StpAt H S ds B f) {i : Nat} {d : Addr} (hd : ds[i]? = some d) {l g : Int} (g0 : 0 ≤ g) (g1 : g < (ds.length : Int)) {kvs : List (Key × V)} (hk : H d = some (.dK kvs)) :
    StpAt (upd H d (.dK (putK kvs (Sum.inl l) (.int g)))) S ds (B + 1) (put1 f i l g) ∧ Off ds H (upd H d (.dK (putK kvs (Sum.inl l) (.int g)))) := by
  have hdm : d ∈ ds := List.mem_of_getElem? hd
  refine ⟨⟨?_, h.nd, fun j e he => ?_, fun p m q p0 p1 hq => ?_⟩, fun b o hb hn => ?_⟩
  · rw [upd_ne (fun z : S = d => h.ls_off (by rw [z]; exact hdm))]
    exact h.ls
  · obtain ⟨kv2, a1, a2, a3⟩ := h.dt j e he
    by_cases ed : e = d
    · subst ed
      have ij : j = i := by
        have hi := (List.getElem?_eq_some_iff.mp hd)
        have hj := (List.getElem?_eq_some_iff.mp he)
        obtain ⟨hi1, hi2⟩ := hi
        obtain ⟨hj1, hj2⟩ := hj
        exact (List.getElem_inj h.nd).mp (hj2.trans hi2.symm)
      subst ij
      obtain rfl : kv2 = kvs := by rw [a1] at hk; exact HO.dK.inj (Option.some.inj hk)
      refine ⟨_, upd_same, Nat.le_trans (putK_len1 _ _ _) (by omega), fun m => ?_⟩
      rw [valV_put, a3]
      unfold put1
      by_cases em : m = l
      · rw [if_pos (by rw [em]), if_pos ⟨rfl, em⟩]; rfl
      · rw [if_neg (fun z => em (Sum.inl.inj z)), if_neg (fun z => em z.2)]
    · refine ⟨kv2, by rw [upd_ne ed]; exact a1, by omega, fun m => ?_⟩
      rw [a3]
      unfold put1
      rw [if_neg (fun z => ed ?_)]
      have e1 : j = i := by have := z.1; omega
      rw [e1, hd] at he
      exact (Option.some.inj he).symm
  · unfold put1 at hq
    split at hq
    · cases hq; exact ⟨g0, g1⟩
    · exact h.cl p m q p0 p1 hq
  · rw [upd_ne (fun z : b = d => hn (by rw [z]; exact hdm))]
    exact hb
theorem StpAt.congr {C : Nat} {g : Int → Int → Option Int} (h : StpAt H S ds B f) (e : ∀ p l, 0 ≤ p → p < (ds.length : Int) → f p l = g p l) (hB : B ≤ C) : StpAt H S ds C g :=
  ⟨h.ls, h.nd, fun i d hd => by
    obtain ⟨kvs, a, b, c⟩ := h.dt i d hd
    have := (List.getElem?_eq_some_iff.mp hd).1
    exact ⟨kvs, a, by omega, fun l => by rw [c l, e _ _ (by omega) (by omega)]⟩, fun p l q p0 p1 hq => h.cl p l q p0 p1 (by rw [e p l p0 p1]; exact hq)⟩
/-- where letters are read to -/
def walkF (f : Int → Int → Option Int) : List Int → Int → Option Int
  | [], p => some p
  | l :: r, p => (f p l).bind (walkF f r)
theorem walkF_snoc (f : Int → Int → Option Int) : ∀ (xs : List Int) (l p : Int), walkF f (xs ++ [l]) p = (walkF f xs p).bind fun q => f q l
  | [], l, p => by
    show (f p l).bind (walkF f []) = f p l
    cases f p l <;> rfl
  | x :: xs, l, p => by
    show (f p x).bind (walkF f (xs ++ [l])) = ((f p x).bind (walkF f xs)).bind fun q => f q l
    cases e : f p x with
    | none => rfl
    | some q => exact walkF_snoc f xs l q
def optI : Option Int → V
  | none => .non
  | some i => .int i
end
end XV

set_option linter.all false
set_option maxRecDepth 100000
set_option maxHeartbeats 4000000
namespace KP
open PySem PySem.Spec PyProof.Rows L2 XA XB XC XD XM XE XF XG
def top (i : Nat) : Stmt := PySem.Challenge.pw_meankept_k03_houses_and_kept_places.main.body.getD i (.Pass ⟨0, 0, 0, 0⟩)
/-- what the top holds: built-ins by their own names, constants, error classes -/
structure Bs (K : PySem.W.Frag) (mg : Str → Option Value) : Prop where
  n_isinstance : mg "isinstance" = none
  n_int : mg "int" = none
  n_bool : mg "bool" = none
  n_tuple : mg "tuple" = none
  n_list : mg "list" = none
  n_len : mg "len" = none
  n_all : mg "all" = none
  n_abs : mg "abs" = none
  n_min : mg "min" = none
  n_range : mg "range" = none
  n_set : mg "set" = none
  n_enumerate : mg "enumerate" = none
  c_MOST_DEEDS : ∃ t, mg "MOST_DEEDS" = some (.int 4 t)
  c_MOST_LETTERS : ∃ t, mg "MOST_LETTERS" = some (.int 200 t)
  c_MOST_ROWS : ∃ t, mg "MOST_ROWS" = some (.int 6 t)
  c_MOST_PLACES : ∃ t, mg "MOST_PLACES" = some (.int 60 t)
  x_KeepError : Xc K mg "KeepError" (He.ga K "KeepError")
  x_BadDeeds : Xc K mg "BadDeeds" (He.ga K "BadDeeds")
  x_BadHouse : Xc K mg "BadHouse" (He.ga K "BadHouse")
  x_BadPlace : Xc K mg "BadPlace" (He.ga K "BadPlace")
  x_BadRow : Xc K mg "BadRow" (He.ga K "BadRow")
  x_BadRows : Xc K mg "BadRows" (He.ga K "BadRows")
/-- what is known of error classes -/
structure Es (K : PySem.W.Frag) : Prop where
  m_BadDeeds : PySem.W.exmOne K (.ref (He.ga K "BadDeeds")) (.ref (He.ga K "KeepError")) = some true
  m_BadHouse : PySem.W.exmOne K (.ref (He.ga K "BadHouse")) (.ref (He.ga K "KeepError")) = some true
  m_BadPlace : PySem.W.exmOne K (.ref (He.ga K "BadPlace")) (.ref (He.ga K "KeepError")) = some true
  m_BadRow : PySem.W.exmOne K (.ref (He.ga K "BadRow")) (.ref (He.ga K "KeepError")) = some true
  m_BadRows : PySem.W.exmOne K (.ref (He.ga K "BadRows")) (.ref (He.ga K "KeepError")) = some true
  k_BadDeeds : PySem.W.kitOne K (.ref (He.ga K "BadDeeds")) (.ref (He.ga K "BadDeeds")) = some true
  k_BadHouse : PySem.W.kitOne K (.ref (He.ga K "BadHouse")) (.ref (He.ga K "BadHouse")) = some true
  k_BadPlace : PySem.W.kitOne K (.ref (He.ga K "BadPlace")) (.ref (He.ga K "BadPlace")) = some true
  k_BadRow : PySem.W.kitOne K (.ref (He.ga K "BadRow")) (.ref (He.ga K "BadRow")) = some true
  k_BadRows : PySem.W.kitOne K (.ref (He.ga K "BadRows")) (.ref (He.ga K "BadRows")) = some true
local macro_rules | `(tactic| walk_at "rd") => `(tactic| repeat (first
  | (with_reducible refine rd_seq ?_) | (with_reducible refine rd_asg ?_) | ((with_reducible refine' rd_var ?hv ?_); (case hv => exact rfl)) | (with_reducible refine rd_c ?_) | (with_reducible refine rd_gn ?_)
  | (with_reducible refine rd_op ?_) | (with_reducible refine rd_un ?_) | (with_reducible refine rd_cons ?_) | (with_reducible refine rd_nil ?_) | (with_reducible refine rd_cl ?_) | (with_reducible refine rd_ck ?_) | (with_reducible refine rd_cb ?_)
  | (with_reducible refine rd_ret ?_) | (with_reducible refine rd_drop ?_) | (with_reducible refine rd_ifs ?_) | (with_reducible refine rd_if ?_) | (with_reducible refine rd_test ?_) | (with_reducible refine rd_tb ?_) | (with_reducible refine rd_and ?_) | (with_reducible refine rd_or ?_)
  | (with_reducible refine rd_not ?_) | (with_reducible refine rd_andV ?_) | (with_reducible refine rd_orV ?_) | (with_reducible refine rd_notV ?_) | (with_reducible refine rd_chain ?_) | (with_reducible refine rd_tup ?_) | (with_reducible refine rd_lst ?_)
  | (with_reducible refine rd_bm0 ?_) | (with_reducible refine rd_bm ?_) | (with_reducible refine rd_sl ?_) | (with_reducible refine rd_part ?_) | (with_reducible refine rd_nopart ?_) | (with_reducible refine rd_dget ?_) | (with_reducible refine rd_dput ?_)
  | (with_reducible refine rd_next ?_) | (with_reducible refine rd_lc ?_) | ((with_reducible refine' rd_aug ?hv ?_); (case hv => exact rfl)) | (with_reducible refine rd_cont ?_) | (with_reducible refine rd_gcons ?_) | (with_reducible refine rd_gnil ?_) | (with_reducible refine rd_ifT ?_) | (with_reducible refine rd_yes ?_) | (with_reducible refine rd_tru ?_) | (with_reducible refine rd_cntE ?_) | (with_reducible refine rd_rng1 ?_) | (with_reducible refine rd_lrg ?_) | (with_reducible refine rd_rg2 ?_) | (with_reducible refine rd_back ?_) | (with_reducible refine rd_disp ?_) | (with_reducible refine rd_prN ?_) | (with_reducible refine rd_prC ?_) | (with_reducible refine rd_par ?_) | (with_reducible refine rd_par3 ?_) | (with_reducible refine rd_two ?_) | (with_reducible refine rd_three ?_) | (with_reducible refine rd_one ?_) | (with_reducible refine rd_onei ?_) | (with_reducible refine rd_iL ?_) | (with_reducible refine rd_iT ?_) | (with_reducible refine rd_rng2 ?_) | (with_reducible refine rd_bl ?_) | (with_reducible refine rd_int ?_) | (with_reducible refine rd_I0 ?_) | (with_reducible refine rd_U ?_) | (with_reducible refine rd_din ?_) | (with_reducible refine rd_dnin ?_) | (with_reducible refine rd_dnew ?_) | (with_reducible refine rd_lset ?_) | (with_reducible refine rd_enT ?_) | (with_reducible refine rd_idx ?_) | (with_reducible refine rd_rg1 ?_) | (with_reducible refine rd_tupRg ?_)))

section
variable {P : Program} {w : World} {K : PySem.W.Frag} {mg : Str → Option Value} {base : Heap}
/-! ### plain_letters -/
def spPlain (K : PySem.W.Frag) : Sp := fun vs H Q _ => ∃ (a : Addr) (xs : List Int), vs = [.ref a] ∧ SqT K H a (xs.map V.int) ∧ xs.length ≤ 10000 ∧ ∀ p H', Same H H' → Tp H' p ((red xs).map V.int) → Q (.ref p) H'
abbrev s_plain_letters : Stmt := top 8
abbrev N_plain_letters : List Str := ["letters", "kept", "letter"]
theorem sc_plain_letters : FnScope ["letters", "kept", "letter"] ["letters"] (defScope s_plain_letters) := ⟨rfl, rfl, rfl, by decide +kernel, rfl, by decide +kernel, by decide +kernel⟩
theorem bd_plain_letters : Bnd s_plain_letters "plain_letters" ["letters"] := fun _ _ _ _ _ _ us hl => match us, hl with | [_], _ => rfl

theorem d_plain_letters (T : Bs K mg) (R : Rw K mg "plain_letters" s_plain_letters) : Df P w K mg base CX0 1 "plain_letters" s_plain_letters ["letters"] (spPlain K) := by
  refine mk0 R sc_plain_letters bd_plain_letters (fun vs H Q E h => ?_) fun f cdv A outer s H vs Q E hr h => ?_
  · obtain ⟨a, xs, rfl, _⟩ := h; rfl
  obtain ⟨a, xs, rfl, hS, hz, q⟩ := h
  refine ⟨_, (pss_cons (ps_set (i := 1) sc_plain_letters.nd rfl (Or.inl rfl) (pe_lst pa_nil))
      (pss_cons (ps_for PassesOwn.never rfl (pi_U (pv 0)) (pg_name (i := 2) sc_plain_letters.nd rfl (Or.inl rfl))
        (pss_one (ps_if (PW.pt (pw_and (pt_tru (pv 1) (by intro _; rfl)) (pw_and1 (pt_cmpR (op_eqU hr.units) (pe_ix ix_seq (pv 1) (pe_un un_neg pe_int) (fun _ _ => rfl)) (pe_un un_neg (pv 2)) (nomark _))))) (pss_one (ps_expr (pe_bm0 PySem.F.plainAttrs_list PySem.F.slot_list_pop PySem.F.type_list_pop mt_pop (pv 1)))) (pss_one (ps_expr (pe_bm PySem.F.plainAttrs_list PySem.F.slot_list_append PySem.F.type_list_append mt_append (pv 1) (pa_cons (pv 2) pa_nil)))))))
      (pss_one (ps_ret (pe_callTy call_tupN (by rfl) T.n_tuple (by decide +kernel) (pa_cons (pv 1) pa_nil)))))), ?_⟩
  walk_at "rd"
  refine ⟨lz (by decide), fun k hk => ?_⟩
  walk_at "rd"
  refine forT (xs := xs.map V.int) (fun i σ H' => ∃ y, σ = [some (.ref a), some (.ref k), y] ∧ Same H H' ∧ H' k = some (.lst ((stack [] (xs.take i)).reverse.map V.int))) rfl (sqT_same (same_new hk) hS) ⟨none, rfl, same_new hk, upd_same⟩
    (fun i σ H' _ h => ?_) (fun i x σ H' hx h => ?_) (fun σ H' h => ?_)
  · obtain ⟨y, rfl, sm, _⟩ := h
    exact sqT_same sm hS
  · obtain ⟨y, rfl, sm, ek⟩ := h
    obtain ⟨z, hz2, rfl⟩ := item_of hx
    have el : (stack [] (xs.take i)).length ≤ xs.length := Nat.le_trans (stack_len _ _) (by rw [List.length_take]; simp only [List.length_nil]; omega)
    have en : stack [] (xs.take (i + 1)) = push (stack [] (xs.take i)) z := by rw [take_more hz2, stack_snoc]
    have more : ∀ st, stack [] (xs.take i) = st → (∀ y r, st = y :: r → ¬ y = -z) → push st z = z :: st := fun st _ hn => by
      cases st with
      | nil => rfl
      | cons y r => exact push_n r (hn y r rfl)
    walk_at "rd"
    refine truL (.inl (.inl ek)) ?_
    cases hst : stack [] (xs.take i) with
    | nil =>
      rw [hst] at ek en el
      refine iteF (iteF ?_)
      walk_at "rd"
      refine ⟨tyl ek, ?_⟩
      walk_at "rd"
      refine app ek (by simp) ?_
      walk_at "rd"
      refine ⟨_, rfl, same_mut sm hk, ?_⟩
      rw [upd_same, en]
      rfl
    | cons y r =>
      rw [hst] at ek en el
      have ee : (y :: r).reverse.map V.int = r.reverse.map V.int ++ [.int y] := by simp
      rw [ee] at ek ⊢
      rw [show (!(List.map V.int r.reverse ++ [V.int y]).isEmpty) = true by simp]
      refine iteT ?_
      walk_at "rd"
      refine rd_ixL (.inl (.inl ek)) (atI_last _ _) ?_
      walk_at "rd"
      refine rd_eqI ?_
      walk_at "rd"
      refine rd_ite (fun e => ?_) fun e => ?_
      · have e := of_decide_eq_true e
        walk_at "rd"
        refine ⟨tyL (.inl (.inl ek)), k, _, .int y, rfl, rfl, ek, by simp, ?_⟩
        walk_at "rd"
        refine ⟨_, rfl, same_mut sm hk, ?_⟩
        rw [upd_same, en, push_c r e, List.dropLast_concat]
      · have e := of_decide_eq_false e
        walk_at "rd"
        refine ⟨tyl ek, ?_⟩
        walk_at "rd"
        refine app ek (by simp only [List.length_append, List.length_map, List.length_reverse, List.length_cons, List.length_nil] at el ⊢; omega) ?_
        walk_at "rd"
        refine ⟨_, rfl, same_mut sm hk, ?_⟩
        rw [upd_same, en, push_n r e]
        simp
  · obtain ⟨y, rfl, sm, ek⟩ := h
    rw [List.length_map, List.take_length] at ek
    walk_at "rd"
    refine rd_tupOfL (.inl (.inl ek)) fun p o hp ho hd => q p _ (sm.trans (same_new hp)) ⟨o, upd_same, ho, hd⟩
/-! ### own: undone -/
def negV : V → V
  | .int i => .int (-i)
  | v => v
def spUndone (K : PySem.W.Frag) : Sp := fun vs H Q _ => ∃ (a : Addr) (xs : List Int), vs = [.ref a] ∧ SqT K H a (xs.map V.int) ∧ xs.length ≤ 10000 ∧ ∀ p H', Same H H' → Tp H' p ((inv xs).map V.int) → Q (.ref p) H'
theorem neg_map (xs : List Int) : ((xs.map V.int).reverse.filter (fun _ => true)).map negV = (inv xs).map V.int := by
  rw [List.filter_eq_self.mpr fun _ _ => rfl]
  simp [inv, List.map_reverse, Function.comp_def, negV]
theorem mem_int {xs : List Int} {x : V} (h : x ∈ (xs.map V.int).reverse) : ∃ z, x = .int z := by
  obtain ⟨z, _, e⟩ := List.mem_map.mp (List.mem_reverse.mp h)
  exact ⟨z, e.symm⟩
/-! ### is_whole and its like -/
def spWhole (K : PySem.W.Frag) : Sp := fun vs H Q _ => ∃ (v : V) (d : Dat), vs = [v] ∧ Rp K H v d ∧ Q (.bl d.whole) H
abbrev s_is_whole : Stmt := top 17
abbrev N_is_whole : List Str := ["value"]
theorem sc_is_whole : FnScope ["value"] ["value"] (defScope s_is_whole) := ⟨rfl, rfl, rfl, by decide +kernel, rfl, by decide +kernel, by decide +kernel⟩
theorem bd_is_whole : Bnd s_is_whole "is_whole" ["value"] := fun _ _ _ _ _ _ us hl => match us, hl with | [_], _ => rfl

theorem d_is_whole (T : Bs K mg) (R : Rw K mg "is_whole" s_is_whole) : Df P w K mg base CX0 1 "is_whole" s_is_whole ["value"] (spWhole K) := by
  refine mk0 R sc_is_whole bd_is_whole (fun vs H Q E h => ?_) fun f cdv A outer s H vs Q E hr h => ?_
  · obtain ⟨v, d, rfl, _⟩ := h; rfl
  obtain ⟨v, d, rfl, hv, q⟩ := h
  refine ⟨_, (pss_one (ps_ret (pe_and (pe_callB call_isU (by rfl) T.n_isinstance (by decide +kernel) (pa_cons (pv 0) (pa_cons (pe_bltn (v := .ty "int") (by rfl) T.n_int (by decide +kernel) rfl) pa_nil))) (pe_one (pe_not (pe_callB call_isU (by rfl) T.n_isinstance (by decide +kernel) (pa_cons (pv 0) (pa_cons (pe_bltn (v := .ty "bool") (by rfl) T.n_bool (by decide +kernel) rfl) pa_nil)))))))), ?_⟩
  walk_at "rd"
  refine rd_isT hv (kit_int d) ?_
  walk_at "rd"
  unfold Dat.whole at q
  refine rd_ite (fun e => ?_) fun e => ?_
  · walk_at "rd"
    refine rd_isT hv (kit_bool d) ?_
    walk_at "rd"
    rw [e] at q
    exact q
  · rw [e] at q
    exact q
def spFrom (K : PySem.W.Frag) : Sp := fun vs H Q _ => ∃ (v : V) (d : Dat) (lo hi : Int), vs = [v, .int lo, .int hi] ∧ Rp K H v d ∧ Q (.bl (d.from lo hi)) H
abbrev s_is_whole_from : Stmt := top 18
abbrev N_is_whole_from : List Str := ["value", "low", "high"]
theorem sc_is_whole_from : FnScope ["value", "low", "high"] ["value", "low", "high"] (defScope s_is_whole_from) := ⟨rfl, rfl, rfl, by decide +kernel, rfl, by decide +kernel, by decide +kernel⟩
theorem bd_is_whole_from : Bnd s_is_whole_from "is_whole_from" ["value", "low", "high"] := fun _ _ _ _ _ _ us hl => match us, hl with | [_, _, _], _ => rfl

theorem d_is_whole_from (T : Bs K mg) (R : Rw K mg "is_whole_from" s_is_whole_from) (D_is_whole : Df P w K mg base CX0 1 "is_whole" s_is_whole ["value"] (spWhole K)) :
    Df P w K mg base CX0 2 "is_whole_from" s_is_whole_from ["value", "low", "high"] (spFrom K) := by
  refine mk0 R sc_is_whole_from bd_is_whole_from (fun vs H Q E h => ?_) fun f cdv A outer s H vs Q E hr h => ?_
  · obtain ⟨v, d, lo, hi, rfl, _⟩ := h; rfl
  obtain ⟨v, d, lo, hi, rfl, hv, q⟩ := h
  refine ⟨_, (pss_one (ps_ret (pe_and (pe_d D_is_whole hr (by decide) (by rfl) pass0 (pa_cons (pv 0) pa_nil)) (pe_one (pe_chain op_le op_le (pv 1) (pv 0) (pv 2)))))), ?_⟩
  walk_at "rd"
  refine ⟨v, d, rfl, hv, ?_⟩
  walk_at "rd"
  refine rd_ite (fun e => ?_) fun e => ?_
  · obtain ⟨i, rfl⟩ := Dat.whole_int e
    obtain ⟨rfl, _⟩ := hv
    have q : Q (.bl (decide (lo ≤ i) && decide (i ≤ hi))) H := q
    walk_at "rd"
    refine rd_ite (fun e1 => ?_) fun e1 => ?_
    · rw [e1] at q
      walk_at "rd"
      exact q
    · rw [e1] at q
      exact q
  · rw [Dat.from_no e] at q
    exact q
def spLetter (K : PySem.W.Frag) : Sp := fun vs H Q _ => ∃ (n : Int) (v : V) (d : Dat), vs = [.int n, v] ∧ Rp K H v d ∧ Q (.bl (d.letter n)) H
abbrev s_is_letter : Stmt := top 19
abbrev N_is_letter : List Str := ["deeds", "value"]
theorem sc_is_letter : FnScope ["deeds", "value"] ["deeds", "value"] (defScope s_is_letter) := ⟨rfl, rfl, rfl, by decide +kernel, rfl, by decide +kernel, by decide +kernel⟩
theorem bd_is_letter : Bnd s_is_letter "is_letter" ["deeds", "value"] := fun _ _ _ _ _ _ us hl => match us, hl with | [_, _], _ => rfl

theorem d_is_letter (T : Bs K mg) (R : Rw K mg "is_letter" s_is_letter) (D_is_whole_from : Df P w K mg base CX0 2 "is_whole_from" s_is_whole_from ["value", "low", "high"] (spFrom K)) :
    Df P w K mg base CX0 3 "is_letter" s_is_letter ["deeds", "value"] (spLetter K) := by
  refine mk0 R sc_is_letter bd_is_letter (fun vs H Q E h => ?_) fun f cdv A outer s H vs Q E hr h => ?_
  · obtain ⟨n, v, d, rfl, _⟩ := h; rfl
  obtain ⟨n, v, d, rfl, hv, q⟩ := h
  refine ⟨_, (pss_one (ps_ret (pe_and (pe_d D_is_whole_from hr (by decide) (by rfl) pass0 (pa_cons (pv 1) (pa_cons (pe_un un_neg (pv 0)) (pa_cons (pv 0) pa_nil)))) (pe_one (pe_cmpR (op_neU hr.units) (pv 1) pe_int (nomark _)))))), ?_⟩
  walk_at "rd"
  refine ⟨v, d, -n, n, rfl, hv, ?_⟩
  walk_at "rd"
  refine rd_ite (fun e => ?_) fun e => ?_
  · obtain ⟨i, rfl, h1, h2⟩ := Dat.from_int e
    obtain ⟨rfl, _⟩ := hv
    have q : Q (.bl (decide (-n ≤ i) && decide (i ≤ n) && !decide (i = 0))) H := q
    rw [decide_eq_true h1, decide_eq_true h2] at q
    walk_at "rd"
    exact rd_neI q
  · rw [Dat.letter_no e] at q
    exact q
def spLRow (K : PySem.W.Frag) : Sp := fun vs H Q _ => ∃ (n : Int) (v : V) (d : Dat), vs = [.int n, v] ∧ Rp K H v d ∧ ∀ H', Same H H' → Q (.bl (d.row n)) H'
theorem let_map (n : Int) (xs : List V) : (xs.filter (fun _ => true)).map (fun x => V.bl (letV n x)) = (xs.map (letV n)).map V.bl := by
  rw [List.filter_eq_self.mpr fun _ _ => rfl, List.map_map] <;> rfl
def spARow (K : PySem.W.Frag) : Sp := fun vs H Q _ => ∃ (n : Int) (v : V) (d : Dat), vs = [.int n, v] ∧ Rp K H v d ∧ ∀ H', Same H H' → Q (.bl (d.lets n)) H'
abbrev s_are_letters : Stmt := top 20
abbrev N_are_letters : List Str := ["deeds", "value", "item"]
theorem sc_are_letters : FnScope ["deeds", "value", "item"] ["deeds", "value"] (defScope s_are_letters) := ⟨rfl, rfl, rfl, by decide +kernel, rfl, by decide +kernel, by decide +kernel⟩
theorem bd_are_letters : Bnd s_are_letters "are_letters" ["deeds", "value"] := fun _ _ _ _ _ _ us hl => match us, hl with | [_, _], _ => rfl

theorem d_are_letters (T : Bs K mg) (R : Rw K mg "are_letters" s_are_letters) (D_is_letter : Df P w K mg base CX0 3 "is_letter" s_is_letter ["deeds", "value"] (spLetter K)) :
    Df P w K mg base CX0 4 "are_letters" s_are_letters ["deeds", "value"] (spARow K) := by
  refine mk0 R sc_are_letters bd_are_letters (fun vs H Q E h => ?_) fun f cdv A outer s H vs Q E hr h => ?_
  · obtain ⟨n, v, d, rfl, _⟩ := h; rfl
  obtain ⟨n, v, d, rfl, hv, q⟩ := h
  refine ⟨_, (pss_one (ps_ret (pe_and (pe_callB call_isU (by rfl) T.n_isinstance (by decide +kernel) (pa_cons (pv 1) (pa_cons (pe_bltn (v := .ty "tuple") (by rfl) T.n_tuple (by decide +kernel) rfl) pa_nil))) (pe_one (pe_callB (cr_all rfl) (by rfl) T.n_all (by decide +kernel) (pa_cons (pe_lc (own := [("item", 2)]) rfl sc_are_letters.nd (pi_U (pv 1)) (blkOk_by (own := [("item", 2)]) (N := ["deeds", "value", "item"]) (sc := defScope s_are_letters) (by decide +kernel)) (fun _ _ _ _ _ => (pg_name (i := 2) sc_are_letters.nd rfl (Or.inl rfl))) (fun _ _ _ _ _ => pts_nil) (fun _ _ _ _ _ => (pe_d D_is_letter hr (by decide) (by rfl) pass0 (pa_cons (pv 0) (pa_cons (pv 2) pa_nil))))) pa_nil)))))), ?_⟩
  walk_at "rd"
  refine rd_isT hv (kit_tuple d) ?_
  walk_at "rd"
  cases d with
  | flat u =>
    refine iteF ?_
    exact q H (Same.refl _)
  | lst xs =>
    refine iteF ?_
    exact q H (Same.refl _)
  | dct =>
    refine iteF ?_
    exact q H (Same.refl _)
  | tup xs =>
    obtain ⟨a, rfl, hS, hp⟩ := hv
    have q : ∀ H', Same H H' → Q (.bl (xs.all (letV n))) H' := q
    refine iteT ?_
    walk_at "rd"
    refine .inr ⟨.ref a, rfl, a, rfl, ⟨xs, hS⟩, fun D hD => ?_⟩
    refine lc_pure walk_tup hD xs (fun _ => true) (fun x => .bl (letV n x)) rfl (by have := okB_len hp; omega) (fun H' e => sqT_same e hS) (fun i H x H' hi y => y) (fun x H' hx e R R0 h1 h0 => ?_) fun H' e hD' => ?_
    · walk_at "rd"
      refine ⟨rfl, ?_⟩
      walk_at "rd"
      refine iteT ?_
      walk_at "rd"
      exact ⟨n, x, .flat x, rfl, ⟨rfl, List.all_eq_true.mp (okB_all hp) x hx⟩, h1 rfl H' (Same.refl _)⟩
    · rw [let_map] at hD'
      walk_at "rd"
      refine ⟨D, xs.map (letV n), rfl, .inl (.inl hD'), ?_⟩
      have q := q H' e
      rw [show ((xs.map (letV n)).all id) = xs.all (letV n) by simp [List.all_map]]
      exact q
abbrev s_is_letter_row : Stmt := top 21
abbrev N_is_letter_row : List Str := ["deeds", "value"]
theorem sc_is_letter_row : FnScope ["deeds", "value"] ["deeds", "value"] (defScope s_is_letter_row) := ⟨rfl, rfl, rfl, by decide +kernel, rfl, by decide +kernel, by decide +kernel⟩
theorem bd_is_letter_row : Bnd s_is_letter_row "is_letter_row" ["deeds", "value"] := fun _ _ _ _ _ _ us hl => match us, hl with | [_, _], _ => rfl

theorem d_is_letter_row (T : Bs K mg) (R : Rw K mg "is_letter_row" s_is_letter_row) (D_are_letters : Df P w K mg base CX0 4 "are_letters" s_are_letters ["deeds", "value"] (spARow K)) :
    Df P w K mg base CX0 5 "is_letter_row" s_is_letter_row ["deeds", "value"] (spLRow K) := by
  refine mk0 R sc_is_letter_row bd_is_letter_row (fun vs H Q E h => ?_) fun f cdv A outer s H vs Q E hr h => ?_
  · obtain ⟨n, v, d, rfl, _⟩ := h; rfl
  obtain ⟨n, v, d, rfl, hv, q⟩ := h
  refine ⟨_, (pss_one (ps_ret (pe_and (pe_d D_are_letters hr (by decide) (by rfl) pass0 (pa_cons (pv 0) (pa_cons (pv 1) pa_nil))) (pe_one (pe_cmpR op_le (pe_callB call_len (by rfl) T.n_len (by decide +kernel) (pa_cons (pv 1) pa_nil)) (pe_gi T.c_MOST_LETTERS (by rfl)) (nomark _)))))), ?_⟩
  walk_at "rd"
  refine ⟨n, v, d, rfl, hv, fun H1 e1 => ?_⟩
  have q := q H1 e1
  refine ⟨_, rfl, ?_⟩
  cases d with
  | flat u => exact iteF q
  | lst xs => exact iteF q
  | dct => exact iteF q
  | tup xs =>
    obtain ⟨a, rfl, hS, hp⟩ := hv
    have q : Q (.bl (decide (xs.length ≤ 200) && xs.all (letV n))) H1 := q
    rw [Bool.and_comm] at q
    refine rd_ite (fun e => ?_) fun e => ?_
    · rw [show xs.all (letV n) = true from e, Bool.true_and] at q
      walk_at "rd"
      refine lenT (sqT_same e1 hS) ?_
      walk_at "rd"
      rw [show decide (((xs.length : Nat) : Int) ≤ 200) = decide (xs.length ≤ 200) from decide_eq_decide.mpr (by omega)]
      exact q
    · rw [show xs.all (letV n) = false from e, Bool.false_and] at q
      exact q
/-! ### check_deeds, taken_row -/
def Dat.deeds (d : Dat) : Bool := d.from 1 4
def spDeeds (K : PySem.W.Frag) : Sp := fun vs H Q E => ∃ (v : V) (d : Dat), vs = [v] ∧ Rp K H v d ∧ (d.from 1 4 = true → Q .non H) ∧ (d.from 1 4 = false → E (.ref (He.ga K "BadDeeds")) none H)
abbrev s_check_deeds : Stmt := top 22
abbrev N_check_deeds : List Str := ["deeds"]
theorem sc_check_deeds : FnScope ["deeds"] ["deeds"] (defScope s_check_deeds) := ⟨rfl, rfl, rfl, by decide +kernel, rfl, by decide +kernel, by decide +kernel⟩
theorem bd_check_deeds : Bnd s_check_deeds "check_deeds" ["deeds"] := fun _ _ _ _ _ _ us hl => match us, hl with | [_], _ => rfl

theorem d_check_deeds (T : Bs K mg) (R : Rw K mg "check_deeds" s_check_deeds) (D_is_whole_from : Df P w K mg base CX0 2 "is_whole_from" s_is_whole_from ["value", "low", "high"] (spFrom K)) :
    Df P w K mg base (L2.CX P w) 3 "check_deeds" s_check_deeds ["deeds"] (spDeeds K) := by
  refine mkX R sc_check_deeds bd_check_deeds (fun vs H Q E h => ?_) fun f cdv A outer s H vs Q E hr h => ?_
  · obtain ⟨v, d, rfl, _⟩ := h; rfl
  obtain ⟨v, d, rfl, hv, q1, q0⟩ := h
  refine ⟨_, (pss_one (ps_if (pt_not (pt_tru (pe_d D_is_whole_from hr (by decide) (by rfl) pass0 (pa_cons (pv 0) (pa_cons pe_int (pa_cons (pe_gi T.c_MOST_DEEDS (by rfl)) pa_nil)))) (by intro _; rfl))) (pss_one (ps_raiseX T.x_BadDeeds (by rfl) (pe_joined (.cons pe_str (.cons (pe_fmt (pe_gi T.c_MOST_DEEDS (by rfl))) .nil))) (still2 (by decide +kernel) (by decide) (by decide +kernel)) (takes_of rfl rfl rfl rfl))) pss_nil)), ?_⟩
  walk_at "rd"
  refine ⟨v, d, 1, 4, rfl, hv, ?_⟩
  refine truB ?_
  cases e : d.from 1 4 with
  | true => exact iteF (q1 e)
  | false => exact iteT (q0 e)
def spTaken (K : PySem.W.Frag) : Sp := fun vs H Q E => ∃ (n : Int) (v : V) (d : Dat), vs = [.int n, v] ∧ Rp K H v d ∧
  (∀ xs : List Int, d = .tup (xs.map V.int) → d.row n = true → ∀ p H', Same H H' → Tp H' p ((red xs).map V.int) → Q (.ref p) H') ∧ (d.row n = false → ∀ H', Same H H' → E (.ref (He.ga K "BadRow")) none H')
theorem Dat.row_ints {n : Int} {d : Dat} (h : d.row n = true) : ∃ xs : List Int, d = .tup (xs.map V.int) ∧ xs.length ≤ 200 ∧ ∀ x ∈ xs, -n ≤ x ∧ x ≤ n ∧ x ≠ 0 := by
  cases d with
  | flat v => cases h
  | lst xs => cases h
  | dct => cases h
  | tup vs =>
    have h : (decide (vs.length ≤ 200) && vs.all (letV n)) = true := h
    obtain ⟨h1, h2⟩ := Bool.and_eq_true_iff.mp h
    have h1 := of_decide_eq_true h1
    have key : ∀ ws : List V, ws.all (letV n) = true → ∃ xs : List Int, ws = xs.map V.int ∧ ∀ x ∈ xs, -n ≤ x ∧ x ≤ n ∧ x ≠ 0 := by
      intro ws
      induction ws with
      | nil => intro _; exact ⟨[], rfl, fun _ z => nomatch z⟩
      | cons v r ih =>
        intro hw
        obtain ⟨a, b⟩ := Bool.and_eq_true_iff.mp (show (letV n v && r.all (letV n)) = true from hw)
        obtain ⟨xs, e, m⟩ := ih b
        cases v with
        | int i =>
          have a : (decide (-n ≤ i) && decide (i ≤ n) && !decide (i = 0)) = true := a
          simp only [Bool.and_eq_true, decide_eq_true_eq, Bool.not_eq_true', decide_eq_false_iff_not] at a
          refine ⟨i :: xs, by rw [e] <;> rfl, fun x hx => ?_⟩
          rcases List.mem_cons.mp hx with z | z
          · rw [z]; exact ⟨a.1.1, a.1.2, a.2⟩
          · exact m x z
        | _ => cases a
    obtain ⟨xs, e, m⟩ := key vs h2
    subst e
    exact ⟨xs, rfl, by simpa using h1, m⟩
abbrev s_taken_row : Stmt := top 23
abbrev N_taken_row : List Str := ["deeds", "row"]
theorem sc_taken_row : FnScope ["deeds", "row"] ["deeds", "row"] (defScope s_taken_row) := ⟨rfl, rfl, rfl, by decide +kernel, rfl, by decide +kernel, by decide +kernel⟩
theorem bd_taken_row : Bnd s_taken_row "taken_row" ["deeds", "row"] := fun _ _ _ _ _ _ us hl => match us, hl with | [_, _], _ => rfl

theorem d_taken_row (T : Bs K mg) (R : Rw K mg "taken_row" s_taken_row) (D_is_letter_row : Df P w K mg base CX0 5 "is_letter_row" s_is_letter_row ["deeds", "value"] (spLRow K))
    (D_plain_letters : Df P w K mg base CX0 1 "plain_letters" s_plain_letters ["letters"] (spPlain K)) : Df P w K mg base (L2.CX P w) 6 "taken_row" s_taken_row ["deeds", "row"] (spTaken K) := by
  refine mkX R sc_taken_row bd_taken_row (fun vs H Q E h => ?_) fun f cdv A outer s H vs Q E hr h => ?_
  · obtain ⟨n, v, d, rfl, _⟩ := h; rfl
  obtain ⟨n, v, d, rfl, hv, q1, q0⟩ := h
  refine ⟨_, (pss_cons (ps_if (pt_not (pt_tru (pe_d D_is_letter_row hr (by decide) (by rfl) pass0 (pa_cons (pv 0) (pa_cons (pv 1) pa_nil))) (by intro _; rfl))) (pss_one (ps_raiseX T.x_BadRow (by rfl) (pe_joined (.cons pe_str (.cons (pe_fmt (pe_gi T.c_MOST_LETTERS (by rfl))) (.cons pe_str .nil)))) (still3 (by decide +kernel) (by decide) (by decide +kernel) (by decide +kernel)) (takes_of rfl rfl rfl rfl))) pss_nil)
      (pss_one (ps_ret (pe_d D_plain_letters hr (by decide) (by rfl) pass0 (pa_cons (pv 1) pa_nil))))), ?_⟩
  walk_at "rd"
  refine ⟨n, v, d, rfl, hv, fun H1 e1 => ?_⟩
  refine truB ?_
  cases e : d.row n with
  | false => exact iteT (q0 e H1 e1)
  | true =>
    refine iteF ?_
    obtain ⟨xs, rfl, hl, _⟩ := Dat.row_ints e
    obtain ⟨a, rfl, hS, _⟩ := hv
    walk_at "rd"
    exact ⟨a, xs, rfl, sqT_same e1 hS, by omega, fun p H2 e2 ht => q1 xs rfl e p H2 (e1.trans e2) ht⟩
end
end KP

set_option linter.all false
set_option maxRecDepth 100000
set_option maxHeartbeats 4000000
namespace KP
open PySem PySem.Spec PyProof.Rows L2 XA XB XC XD XM XE XF XG
local macro_rules | `(tactic| walk_at "rd") => `(tactic| repeat (first
  | (with_reducible refine rd_seq ?_) | (with_reducible refine rd_asg ?_) | ((with_reducible refine' rd_var ?hv ?_); (case hv => exact rfl)) | (with_reducible refine rd_c ?_) | (with_reducible refine rd_gn ?_)
  | (with_reducible refine rd_op ?_) | (with_reducible refine rd_un ?_) | (with_reducible refine rd_cons ?_) | (with_reducible refine rd_nil ?_) | (with_reducible refine rd_cl ?_) | (with_reducible refine rd_ck ?_) | (with_reducible refine rd_cb ?_)
  | (with_reducible refine rd_ret ?_) | (with_reducible refine rd_drop ?_) | (with_reducible refine rd_ifs ?_) | (with_reducible refine rd_if ?_) | (with_reducible refine rd_test ?_) | (with_reducible refine rd_tb ?_) | (with_reducible refine rd_and ?_) | (with_reducible refine rd_or ?_)
  | (with_reducible refine rd_not ?_) | (with_reducible refine rd_andV ?_) | (with_reducible refine rd_orV ?_) | (with_reducible refine rd_notV ?_) | (with_reducible refine rd_chain ?_) | (with_reducible refine rd_tup ?_) | (with_reducible refine rd_lst ?_)
  | (with_reducible refine rd_bm0 ?_) | (with_reducible refine rd_bm ?_) | (with_reducible refine rd_sl ?_) | (with_reducible refine rd_part ?_) | (with_reducible refine rd_nopart ?_) | (with_reducible refine rd_dget ?_) | (with_reducible refine rd_dput ?_)
  | (with_reducible refine rd_next ?_) | (with_reducible refine rd_lc ?_) | ((with_reducible refine' rd_aug ?hv ?_); (case hv => exact rfl)) | (with_reducible refine rd_cont ?_) | (with_reducible refine rd_gcons ?_) | (with_reducible refine rd_gnil ?_) | (with_reducible refine rd_ifT ?_) | (with_reducible refine rd_yes ?_) | (with_reducible refine rd_tru ?_) | (with_reducible refine rd_cntE ?_) | (with_reducible refine rd_rng1 ?_) | (with_reducible refine rd_lrg ?_) | (with_reducible refine rd_rg2 ?_) | (with_reducible refine rd_back ?_) | (with_reducible refine rd_disp ?_) | (with_reducible refine rd_prN ?_) | (with_reducible refine rd_prC ?_) | (with_reducible refine rd_par ?_) | (with_reducible refine rd_par3 ?_) | (with_reducible refine rd_two ?_) | (with_reducible refine rd_three ?_) | (with_reducible refine rd_one ?_) | (with_reducible refine rd_onei ?_) | (with_reducible refine rd_iL ?_) | (with_reducible refine rd_iT ?_) | (with_reducible refine rd_rng2 ?_) | (with_reducible refine rd_bl ?_) | (with_reducible refine rd_int ?_) | (with_reducible refine rd_I0 ?_) | (with_reducible refine rd_U ?_) | (with_reducible refine rd_din ?_) | (with_reducible refine rd_dnin ?_) | (with_reducible refine rd_dnew ?_) | (with_reducible refine rd_lset ?_) | (with_reducible refine rd_enT ?_) | (with_reducible refine rd_idx ?_) | (with_reducible refine rd_rg1 ?_) | (with_reducible refine rd_tupRg ?_)))

section
variable {P : Program} {w : World} {K : PySem.W.Frag} {mg : Str → Option Value} {base : Heap}
abbrev eDeeds (K : PySem.W.Frag) : Value := .ref (He.ga K "BadDeeds")
abbrev eRow (K : PySem.W.Frag) : Value := .ref (He.ga K "BadRow")
abbrev eNum (K : PySem.W.Frag) : Value := .ref (He.ga K "BadNumber")
/-! ### plain, undone, sums: one row -/
def spOne (K : PySem.W.Frag) (g : Int → List Int → List Int) : Sp := fun vs H Q E => ∃ (v1 : V) (d1 : Dat) (v2 : V) (d2 : Dat), vs = [v1, v2] ∧ Rp K H v1 d1 ∧ Rp K H v2 d2 ∧
  (d1.from 1 4 = false → E (eDeeds K) none H) ∧ ∀ n, d1 = .flat (.int n) → d1.from 1 4 = true → (d2.row n = false → ∀ H', Same H H' → E (eRow K) none H') ∧
    ∀ xs : List Int, d2 = .tup (xs.map V.int) → d2.row n = true → ∀ p H', Same H H' → Tp H' p ((g n xs).map V.int) → Q (.ref p) H'
/-! ### own: lengths -/
theorem row_len {n : Int} {xs : List Int} (h : (Dat.tup (xs.map V.int)).row n = true) : xs.length ≤ 200 := by
  have h : (decide ((xs.map V.int).length ≤ 200) && (xs.map V.int).all (letV n)) = true := h
  have := of_decide_eq_true (Bool.and_eq_true_iff.mp h).1
  simpa using this
/-! ### own: beside -/
def spBeside (K : PySem.W.Frag) : Sp := fun vs H Q E => ∃ (v1 : V) (d1 : Dat) (v2 : V) (d2 : Dat) (v3 : V) (d3 : Dat), vs = [v1, v2, v3] ∧ Rp K H v1 d1 ∧ Rp K H v2 d2 ∧ Rp K H v3 d3 ∧
  (d1.from 1 4 = false → E (eDeeds K) none H) ∧ ∀ n, d1 = .flat (.int n) → d1.from 1 4 = true → (d2.row n = false → ∀ H', Same H H' → E (eRow K) none H') ∧ (d3.row n = false → ∀ H', Same H H' → E (eRow K) none H') ∧
    ∀ xs ys : List Int, d2 = .tup (xs.map V.int) → d2.row n = true → d3 = .tup (ys.map V.int) → d3.row n = true → ∀ p H', Same H H' → Tp H' p ((red (red xs ++ red ys)).map V.int) → Q (.ref p) H'
/-! ### own: so many times -/
def rep (n : Int) (xs : List Int) : List Int := (List.replicate n.toNat xs).flatten
def times (xs : List Int) (n : Int) : List Int := if n < 0 then red (rep (-n) (inv xs)) else red (rep n xs)
def spTimes (K : PySem.W.Frag) : Sp := fun vs H Q E => ∃ (v1 : V) (d1 : Dat) (v2 : V) (d2 : Dat) (v3 : V) (d3 : Dat), vs = [v1, v2, v3] ∧ Rp K H v1 d1 ∧ Rp K H v2 d2 ∧ Rp K H v3 d3 ∧
  (d1.from 1 4 = false → E (eDeeds K) none H) ∧ ∀ n, d1 = .flat (.int n) → d1.from 1 4 = true → (d2.row n = false → ∀ H', Same H H' → E (eRow K) none H') ∧ (d2.row n = true → d3.from (-20) 20 = false → ∀ H', Same H H' → E (eNum K) none H') ∧
    ∀ (xs : List Int) (m : Int), d2 = .tup (xs.map V.int) → d2.row n = true → d3 = .flat (.int m) → d3.from (-20) 20 = true → ∀ p H', Same H H' → Tp H' p ((times (red xs) m).map V.int) → Q (.ref p) H'
/-! ### own: sums -/
def sumsOf (n : Int) (xs : List Int) : List Int := (List.range n.toNat).map fun (i : Nat) => bal (1 + (i : Int)) xs
end
end KP

set_option linter.all false
set_option maxRecDepth 100000
set_option maxHeartbeats 4000000
namespace KP
open PySem PySem.Spec PyProof.Rows L2 XA XB XC XD XM XE XF XG
local macro_rules | `(tactic| walk_at "rd") => `(tactic| repeat (first
  | (with_reducible refine rd_seq ?_) | (with_reducible refine rd_asg ?_) | ((with_reducible refine' rd_var ?hv ?_); (case hv => exact rfl)) | (with_reducible refine rd_c ?_) | (with_reducible refine rd_gn ?_)
  | (with_reducible refine rd_op ?_) | (with_reducible refine rd_un ?_) | (with_reducible refine rd_cons ?_) | (with_reducible refine rd_nil ?_) | (with_reducible refine rd_cl ?_) | (with_reducible refine rd_ck ?_) | (with_reducible refine rd_cb ?_)
  | (with_reducible refine rd_ret ?_) | (with_reducible refine rd_drop ?_) | (with_reducible refine rd_ifs ?_) | (with_reducible refine rd_if ?_) | (with_reducible refine rd_test ?_) | (with_reducible refine rd_tb ?_) | (with_reducible refine rd_and ?_) | (with_reducible refine rd_or ?_)
  | (with_reducible refine rd_not ?_) | (with_reducible refine rd_andV ?_) | (with_reducible refine rd_orV ?_) | (with_reducible refine rd_notV ?_) | (with_reducible refine rd_chain ?_) | (with_reducible refine rd_tup ?_) | (with_reducible refine rd_lst ?_)
  | (with_reducible refine rd_bm0 ?_) | (with_reducible refine rd_bm ?_) | (with_reducible refine rd_sl ?_) | (with_reducible refine rd_part ?_) | (with_reducible refine rd_nopart ?_) | (with_reducible refine rd_dget ?_) | (with_reducible refine rd_dput ?_)
  | (with_reducible refine rd_next ?_) | (with_reducible refine rd_lc ?_) | ((with_reducible refine' rd_aug ?hv ?_); (case hv => exact rfl)) | (with_reducible refine rd_cont ?_) | (with_reducible refine rd_gcons ?_) | (with_reducible refine rd_gnil ?_) | (with_reducible refine rd_ifT ?_) | (with_reducible refine rd_yes ?_) | (with_reducible refine rd_tru ?_) | (with_reducible refine rd_cntE ?_) | (with_reducible refine rd_rng1 ?_) | (with_reducible refine rd_lrg ?_) | (with_reducible refine rd_rg2 ?_) | (with_reducible refine rd_back ?_) | (with_reducible refine rd_disp ?_) | (with_reducible refine rd_prN ?_) | (with_reducible refine rd_prC ?_) | (with_reducible refine rd_par ?_) | (with_reducible refine rd_par3 ?_) | (with_reducible refine rd_two ?_) | (with_reducible refine rd_three ?_) | (with_reducible refine rd_one ?_) | (with_reducible refine rd_onei ?_) | (with_reducible refine rd_iL ?_) | (with_reducible refine rd_iT ?_) | (with_reducible refine rd_rng2 ?_) | (with_reducible refine rd_bl ?_) | (with_reducible refine rd_int ?_) | (with_reducible refine rd_I0 ?_) | (with_reducible refine rd_U ?_) | (with_reducible refine rd_din ?_) | (with_reducible refine rd_dnin ?_) | (with_reducible refine rd_dnew ?_) | (with_reducible refine rd_lset ?_) | (with_reducible refine rd_enT ?_) | (with_reducible refine rd_idx ?_) | (with_reducible refine rd_rg1 ?_) | (with_reducible refine rd_tupRg ?_)))

section
variable {P : Program} {w : World} {K : PySem.W.Frag} {mg : Str → Option Value} {base : Heap}
/-! ### the draws -/
def spBegun (K : PySem.W.Frag) : Sp := fun vs H Q _ => ∃ (a : Addr) (ns : List Int), vs = [.ref a] ∧ SqL K H a (ns.map V.int) ∧ ns.length ≤ 1000 ∧ ∀ s g c H', Same H H' → StAt 0 H' s g c → Q (.ref s) H'
theorem abs_ints (l : List V) (f : V → V) (h : ∀ x ∈ l, ∃ i, f x = .int i) : ∃ gs : List Int, l.map f = gs.map V.int := intsOf _ fun x hx => by
  obtain ⟨y, hy, rfl⟩ := List.mem_map.mp hx
  exact h y hy
def absV : V → V
  | .int i => .int (if i < 0 then -i else i)
  | v => v
def bigV : V → V
  | .int i => .int ((if i < 0 then -i else i) - 10 ^ 18)
  | v => v
def isBig : V → Bool
  | .int i => decide ((if i < 0 then -i else i) ≥ 10 ^ 18)
  | _ => false
theorem mem_i {xs : List Int} {x : V} (h : x ∈ xs.map V.int) : ∃ z, x = .int z := by
  obtain ⟨z, _, e⟩ := List.mem_map.mp h
  exact ⟨z, e.symm⟩
abbrev s__law_begun : Stmt := top 36
abbrev N__law_begun : List Str := ["script", "great", "cell"]
theorem sc__law_begun : FnScope ["script", "great", "cell"] ["script"] (defScope s__law_begun) := ⟨rfl, rfl, rfl, by decide +kernel, rfl, by decide +kernel, by decide +kernel⟩
theorem bd__law_begun : Bnd s__law_begun "_law_begun" ["script"] := fun _ _ _ _ _ _ us hl => match us, hl with | [_], _ => rfl

theorem d__law_begun (T : Bs K mg) (R : Rw K mg "_law_begun" s__law_begun) : Df P w K mg base CX0 1 "_law_begun" s__law_begun ["script"] (spBegun K) := by
  refine mk0 R sc__law_begun bd__law_begun (fun vs H Q E h => ?_) fun f cdv A outer s H vs Q E hr h => ?_
  · obtain ⟨a, ns, rfl, _⟩ := h; rfl
  obtain ⟨a, ns, rfl, hS, hz, q⟩ := h
  refine ⟨_, (pss_cons (ps_setLc (i := 1) (own := [("cell", 2)]) rfl sc__law_begun.nd rfl rfl (sw_true rfl rfl rfl (by decide +kernel)) (pi_U (pv 0)) (blkOk_by (own := [("cell", 2)]) (N := ["script", "great", "cell"]) (sc := defScope s__law_begun) (by decide +kernel)) (fun _ _ _ _ _ => (pg_name (i := 2) sc__law_begun.nd rfl (Or.inl rfl))) (fun _ _ _ _ _ => pts_one (pt_cmpR op_ge (pe_callB call_abs (by rfl) T.n_abs (by decide +kernel) (pa_cons (pv 2) pa_nil)) (pe_op op_pow pe_int pe_int) (nomark _))) (fun _ _ _ _ _ => (pe_op op_sub (pe_callB call_abs (by rfl) T.n_abs (by decide +kernel) (pa_cons (pv 2) pa_nil)) (pe_op op_pow pe_int pe_int))))
      (pss_one (ps_ret (pe_disp (pps_cons pe_str (pv 1) (pps_cons pe_str (pe_lc (own := [("cell", 2)]) rfl sc__law_begun.nd (pi_U (pv 0)) (blkOk_by (own := [("cell", 2)]) (N := ["script", "great", "cell"]) (sc := defScope s__law_begun) (by decide +kernel)) (fun _ _ _ _ _ => (pg_name (i := 2) sc__law_begun.nd rfl (Or.inl rfl))) (fun _ _ _ _ _ => pts_nil) (fun _ _ _ _ _ => (pe_callB call_abs (by rfl) T.n_abs (by decide +kernel) (pa_cons (pv 2) pa_nil)))) (pps_cons pe_str pe_int (pps_cons pe_str pe_int pps_nil)))) (by rfl) (by rfl) (fun z => by cases z) (by decide))))), ?_⟩
  walk_at "rd"
  refine .inl ⟨_, rfl, a, rfl, ⟨_, hS⟩, fun D hD => ?_⟩
  refine lc_pure walk_list hD (ns.map V.int) isBig bigV rfl (by simp only [List.length_map]; omega) (fun H' e => e.seq hS) (fun i H x H' hi y => y) (fun x H' hx e R R0 h1 h0 => ?_) fun H' e hD' => ?_
  · obtain ⟨z, rfl⟩ := mem_i hx
    walk_at "rd"
    refine ⟨rfl, ?_⟩
    walk_at "rd"
    refine rd_I pow18 ?_
    walk_at "rd"
    have h1 : (decide ((if z < 0 then -z else z) ≥ 10 ^ 18)) = true → ∀ H'', Same H' H'' → R (.int ((if z < 0 then -z else z) - 10 ^ 18)) H'' := h1
    have h0 : (decide ((if z < 0 then -z else z) ≥ 10 ^ 18)) = false → ∀ H'', Same H' H'' → R0 H'' := h0
    refine rd_ite (fun e1 => ?_) fun e1 => ?_
    · walk_at "rd"
      refine rd_I pow18 ?_
      walk_at "rd"
      exact h1 e1 _ (Same.refl _)
    · exact h0 e1 _ (Same.refl _)
  · walk_at "rd"
    refine fun p hp => ?_
    walk_at "rd"
    refine .inl ⟨_, rfl, a, rfl, ⟨_, (e.trans (same_new hp)).seq hS⟩, fun D2 hD2 => ?_⟩
    refine lc_pure walk_list hD2 (ns.map V.int) (fun _ => true) absV rfl (by simp only [List.length_map]; omega) (fun H' e2 => ((e.trans (same_new hp)).trans e2).seq hS) (fun i H x H' hi y => y) (fun x H' hx e R R0 h1 h0 => ?_) fun H2 e2 hD3 => ?_
    · obtain ⟨z, rfl⟩ := mem_i hx
      walk_at "rd"
      refine ⟨rfl, ?_⟩
      walk_at "rd"
      refine iteT ?_
      walk_at "rd"
      exact h1 rfl _ (Same.refl _)
    · walk_at "rd"
      have ep : H2 p = some (.dK []) := e2 _ _ upd_same
      refine ⟨ep, [(kG, .ref D), (kC, .ref D2), (kR, .int 0), (kT, .int 0)], rfl, by simp, ?_⟩
      rw [st_new]
      have e3 : Same H H2 := (e.trans (same_new hp)).trans e2
      have eD : H2 D = some (.lst (List.map bigV (List.filter isBig (List.map V.int ns)))) := e2 _ _ (same_new hp _ _ hD')
      have n1 : D ≠ p := ne_of eD ep (by intro z; cases z)
      have n2 : D2 ≠ p := ne_of hD3 ep (by intro z; cases z)
      have n3 : D2 ≠ D := fun z => by
        rw [z, same_new hp _ _ hD'] at hD2
        cases hD2
      obtain ⟨gs, eg⟩ := intsOf (List.map bigV (List.filter isBig (List.map V.int ns))) fun x hx => by
        obtain ⟨y, hy, rfl⟩ := List.mem_map.mp hx
        obtain ⟨z, rfl⟩ := mem_i (List.mem_filter.mp hy).1
        exact ⟨_, rfl⟩
      obtain ⟨cs, ec⟩ := intsOf (List.map absV (List.filter (fun _ => true) (List.map V.int ns))) fun x hx => by
        obtain ⟨y, hy, rfl⟩ := List.mem_map.mp hx
        obtain ⟨z, rfl⟩ := mem_i (List.mem_filter.mp hy).1
        exact ⟨_, rfl⟩
      have lg := congrArg List.length eg
      have lc := congrArg List.length ec
      have l1 := List.length_filter_le isBig (List.map V.int ns)
      have l2 := List.length_filter_le (fun _ => true) (List.map V.int ns)
      simp only [List.length_map] at lg lc l1 l2
      rw [eg] at eD
      rw [ec] at hD3
      exact q p D D2 _ (same_mut e3 (none_of e hp)) ⟨0, 0, gs, cs, upd_same, by rw [upd_ne n1]; exact eD, by rw [upd_ne n2]; exact hD3, n3, by omega, by omega, by omega, by omega⟩

/-! ### _law_blended -/
def spBlended (K : PySem.W.Frag) : Sp := fun vs H Q _ => ∃ (s g c : Addr) (r t : Int) (cs : List Int), vs = [.ref s] ∧ H s = some (.dK (stD g c r t)) ∧ H c = some (.lst (cs.map V.int)) ∧ cs.length ≤ 1000 ∧ 0 ≤ t ∧ t < 1000000 ∧
  ∀ v H', H' s = some (.dK (stD g c r (t + 1))) → Kept s s H H' → Q (.int v) H'
abbrev s__law_blended : Stmt := top 37
abbrev N__law_blended : List Str := ["state", "turn", "found", "prime", "blend", "cell"]
theorem sc__law_blended : FnScope ["state", "turn", "found", "prime", "blend", "cell"] ["state"] (defScope s__law_blended) := ⟨rfl, rfl, rfl, by decide +kernel, rfl, by decide +kernel, by decide +kernel⟩
theorem bd__law_blended : Bnd s__law_blended "_law_blended" ["state"] := fun _ _ _ _ _ _ us hl => match us, hl with | [_], _ => rfl

theorem d__law_blended (T : Bs K mg) (R : Rw K mg "_law_blended" s__law_blended) : Df P w K mg base CX0 1 "_law_blended" s__law_blended ["state"] (spBlended K) := by
  refine mk0 R sc__law_blended bd__law_blended (fun vs H Q E h => ?_) fun f cdv A outer sh H vs Q E hr h => ?_
  · obtain ⟨s, g, c, r, t, cs, rfl, _⟩ := h; rfl
  obtain ⟨s, g, c, r, t, cs, rfl, hs, hc, hz, ht, hT, q⟩ := h
  have hu := lt1 hr.units
  refine ⟨_, (pss_cons (ps_par (i := 1) (j := 2) rfl sc__law_blended.nd rfl rfl (by decide) rfl rfl (pa_cons (pe_op op_addU (pe_dget hu (pv 0) pe_str (fun _ _ => rfl)) pe_int) (pa_cons pe_int pa_nil)) (by rfl))
      (pss_cons (ps_dput hu (pv 0) pe_str (pv 1) rfl)
      (pss_cons (ps_for PassesOwn.never rfl (pi_U (pe_lst (pa_cons pe_int (pa_cons pe_int (pa_cons pe_int pa_nil))))) (pg_name (i := 3) sc__law_blended.nd rfl (Or.inl rfl))
        (pss_cons (ps_set (i := 4) sc__law_blended.nd rfl (Or.inl rfl) (pe_op op_addU (pe_op op_mulU pe_int (pv 1)) (pe_op op_fdivN (pv 3) pe_int)))
        (pss_cons (ps_for PassesOwn.never rfl (pi_U (pe_dget hu (pv 0) pe_str (fun _ _ => rfl))) (pg_name (i := 5) sc__law_blended.nd rfl (Or.inl rfl))
          (pss_one (ps_set (i := 4) sc__law_blended.nd rfl (Or.inl rfl) (pe_op op_modN (pe_callTy call_int1 (by rfl) T.n_int (by decide +kernel) (pa_cons (pe_op op_addU (pe_op op_addU (pe_op op_mulU (pv 4) pe_int) (pv 5)) (pv 1)) pa_nil)) (pv 3)))))
        (pss_one (ps_set (i := 2) sc__law_blended.nd rfl (Or.inl rfl) (pe_op op_addU (pe_op op_mulU (pv 2) pe_int) (pe_op op_modN (pe_callTy call_int1 (by rfl) T.n_int (by decide +kernel) (pa_cons (pe_op op_pow (pv 4) pe_int) pa_nil)) (pv 3))))))))
      (pss_one (ps_ret (pv 2)))))), ?_⟩
  walk_at "rd"
  refine ⟨s, .int t, rfl, by rw [← at_T (g := g) (c := c) (r := r)]; exact DGet.k (k := kT) hs, ?_⟩
  walk_at "rd"
  refine rd_addI ?_
  walk_at "rd"
  refine ⟨s, _, rfl, DPut.k (k := kT) hs (by show 4 < sizeLine; decide), ?_⟩
  rw [put_T]
  walk_at "rd"
  refine .inl ?_
  walk_at "rd"
  refine ⟨lz (by simp), fun p hp => ?_⟩
  have n1 : s ≠ p := ne_of_none upd_same hp
  have n2 : c ≠ s := ne_of hc hs (by intro z; cases z)
  have n3 : c ≠ p := ne_of_none (by rw [upd_ne n2]; exact hc) hp
  have ec : upd (upd H s (.dK (stD g c r (t + 1)))) p (.lst [.int 2147483579, .int 2147483629, .int 2147483563]) c = some (.lst (cs.map V.int)) := by rw [upd_ne n3, upd_ne n2]; exact hc
  have es : upd (upd H s (.dK (stD g c r (t + 1)))) p (.lst [.int 2147483579, .int 2147483629, .int 2147483563]) s = some (.dK (stD g c r (t + 1))) := by rw [upd_ne n1, upd_same]
  have hk : XE.Kept s s H (upd (upd H s (.dK (stD g c r (t + 1)))) p (.lst [.int 2147483579, .int 2147483629, .int 2147483563])) := fun b o e m _ => by
    have e2 : upd H s (.dK (stD g c r (t + 1))) b = some o := by rw [upd_ne m]; exact e
    rw [upd_ne (ne_of_none e2 hp), e2]
  refine ⟨p, rfl, ⟨_, .inl (.inl upd_same)⟩, ?_⟩
  have ep : upd (upd H s (.dK (stD g c r (t + 1)))) p (.lst [.int 2147483579, .int 2147483629, .int 2147483563]) p = some (.lst [.int 2147483579, .int 2147483629, .int 2147483563]) := upd_same
  generalize upd (upd H s (.dK (stD g c r (t + 1)))) p (.lst [.int 2147483579, .int 2147483629, .int 2147483563]) = H1 at ec es hk ep ⊢
  refine for_list (xs := [.int 2147483579, .int 2147483629, .int 2147483563]) (fun i σ H' => ∃ (fd : Int) (y1 y2 y3 : Option V), σ = [some (.ref s), some (.int (t + 1)), some (.int fd), y1, y2, y3] ∧ H' = H1) ⟨0, none, none, none, rfl, rfl⟩
    (fun i σ H' _ h => ?_) (fun i x σ H' hx h => ?_) (fun σ H' h => ?_)
  · obtain ⟨fd, y1, y2, y3, rfl, rfl⟩ := h
    exact .inl (.inl ep)
  · obtain ⟨fd, y1, y2, y3, rfl, rfl⟩ := h
    obtain ⟨pr, rfl, p1, p2⟩ : ∃ pr : Int, x = .int pr ∧ 0 < pr ∧ pr < 2 ^ 32 := by
      rcases List.mem_cons.mp (List.mem_of_getElem? hx) with e | e
      · exact ⟨_, e, by decide, by decide⟩
      rcases List.mem_cons.mp e with e | e
      · exact ⟨_, e, by decide, by decide⟩
      rcases List.mem_cons.mp e with e | e
      · exact ⟨_, e, by decide, by decide⟩
      · cases e
    walk_at "rd"
    refine rd_mulI (.inl ⟨by decide, by decide⟩) ?_
    walk_at "rd"
    refine rd_I ⟨by decide, by decide⟩ ?_
    walk_at "rd"
    refine rd_addI ?_
    walk_at "rd"
    have b0 : (48271 * (t + 1) + pr.fdiv 53).natAbs < 2 ^ 62 := by
      have e : pr.fdiv 53 = pr / 53 := Int.fdiv_eq_ediv_of_nonneg _ (by decide)
      rw [e]
      omega
    refine .inl ?_
    walk_at "rd"
    refine ⟨s, .ref c, rfl, by rw [← at_C (g := g) (c := c) (r := r) (t := t + 1)]; exact DGet.k (k := kC) es, c, rfl, ⟨_, .inl (.inl ec)⟩, ?_⟩
    refine for_list (xs := cs.map V.int) (fun i σ H'' => ∃ (bl : Int) (y3 : Option V), σ = [some (.ref s), some (.int (t + 1)), some (.int fd), some (.int pr), some (.int bl), y3] ∧ H'' = H' ∧ bl.natAbs < 2 ^ 62) ⟨_, y3, rfl, rfl, b0⟩
      (fun i σ H' _ h => ?_) (fun i x σ H' hx h => ?_) (fun σ H' h => ?_)
    · obtain ⟨bl, y3, rfl, rfl, b⟩ := h
      exact .inl (.inl ec)
    · obtain ⟨bl, y3, rfl, rfl, b⟩ := h
      obtain ⟨z, hz2, rfl⟩ := item_of hx
      walk_at "rd"
      refine rd_mulI (.inr ⟨by decide, by decide⟩) ?_
      walk_at "rd"
      refine rd_addI ?_
      walk_at "rd"
      refine rd_addI ?_
      walk_at "rd"
      refine .inl ⟨_, rfl, ?_⟩
      walk_at "rd"
      refine rd_I (by omega) ?_
      walk_at "rd"
      refine ⟨_, _, rfl, rfl, ?_⟩
      have e : (bl * 69621 + z + (t + 1)).fmod pr = (bl * 69621 + z + (t + 1)) % pr := Int.fmod_eq_emod_of_nonneg _ (by omega)
      rw [e]
      have a1 := Int.emod_nonneg (bl * 69621 + z + (t + 1)) (show pr ≠ 0 by omega)
      have a2 := Int.emod_lt_of_pos (bl * 69621 + z + (t + 1)) p1
      omega
    · obtain ⟨bl, y3, rfl, rfl, b⟩ := h
      walk_at "rd"
      refine rd_mulI (.inr ⟨by decide, by decide⟩) ?_
      walk_at "rd"
      refine rd_I ⟨by decide, by decide, by omega⟩ ?_
      walk_at "rd"
      refine .inl ⟨_, rfl, ?_⟩
      walk_at "rd"
      refine rd_I (by omega) ?_
      walk_at "rd"
      refine rd_addI ?_
      walk_at "rd"
      exact ⟨_, _, _, _, rfl, rfl⟩
  · obtain ⟨fd, y1, y2, y3, rfl, rfl⟩ := h
    walk_at "rd"
    exact q _ _ es hk
end
end KP

set_option linter.all false
set_option maxRecDepth 100000
set_option maxHeartbeats 4000000
namespace KP
open PySem PySem.Spec PyProof.Rows L2 XA XB XC XD XM XE XF XG
local macro_rules | `(tactic| walk_at "rd") => `(tactic| repeat (first
  | (with_reducible refine rd_seq ?_) | (with_reducible refine rd_asg ?_) | ((with_reducible refine' rd_var ?hv ?_); (case hv => exact rfl)) | (with_reducible refine rd_c ?_) | (with_reducible refine rd_gn ?_)
  | (with_reducible refine rd_op ?_) | (with_reducible refine rd_un ?_) | (with_reducible refine rd_cons ?_) | (with_reducible refine rd_nil ?_) | (with_reducible refine rd_cl ?_) | (with_reducible refine rd_ck ?_) | (with_reducible refine rd_cb ?_)
  | (with_reducible refine rd_ret ?_) | (with_reducible refine rd_drop ?_) | (with_reducible refine rd_ifs ?_) | (with_reducible refine rd_if ?_) | (with_reducible refine rd_test ?_) | (with_reducible refine rd_tb ?_) | (with_reducible refine rd_and ?_) | (with_reducible refine rd_or ?_)
  | (with_reducible refine rd_not ?_) | (with_reducible refine rd_andV ?_) | (with_reducible refine rd_orV ?_) | (with_reducible refine rd_notV ?_) | (with_reducible refine rd_chain ?_) | (with_reducible refine rd_tup ?_) | (with_reducible refine rd_lst ?_)
  | (with_reducible refine rd_bm0 ?_) | (with_reducible refine rd_bm ?_) | (with_reducible refine rd_sl ?_) | (with_reducible refine rd_part ?_) | (with_reducible refine rd_nopart ?_) | (with_reducible refine rd_dget ?_) | (with_reducible refine rd_dput ?_)
  | (with_reducible refine rd_next ?_) | (with_reducible refine rd_lc ?_) | ((with_reducible refine' rd_aug ?hv ?_); (case hv => exact rfl)) | (with_reducible refine rd_cont ?_) | (with_reducible refine rd_gcons ?_) | (with_reducible refine rd_gnil ?_) | (with_reducible refine rd_ifT ?_) | (with_reducible refine rd_yes ?_) | (with_reducible refine rd_tru ?_) | (with_reducible refine rd_cntE ?_) | (with_reducible refine rd_rng1 ?_) | (with_reducible refine rd_lrg ?_) | (with_reducible refine rd_rg2 ?_) | (with_reducible refine rd_back ?_) | (with_reducible refine rd_disp ?_) | (with_reducible refine rd_prN ?_) | (with_reducible refine rd_prC ?_) | (with_reducible refine rd_par ?_) | (with_reducible refine rd_par3 ?_) | (with_reducible refine rd_two ?_) | (with_reducible refine rd_three ?_) | (with_reducible refine rd_one ?_) | (with_reducible refine rd_onei ?_) | (with_reducible refine rd_iL ?_) | (with_reducible refine rd_iT ?_) | (with_reducible refine rd_rng2 ?_) | (with_reducible refine rd_bl ?_) | (with_reducible refine rd_int ?_) | (with_reducible refine rd_I0 ?_) | (with_reducible refine rd_U ?_) | (with_reducible refine rd_din ?_) | (with_reducible refine rd_dnin ?_) | (with_reducible refine rd_dnew ?_) | (with_reducible refine rd_lset ?_) | (with_reducible refine rd_enT ?_) | (with_reducible refine rd_idx ?_) | (with_reducible refine rd_rg1 ?_) | (with_reducible refine rd_tupRg ?_)))

section
variable {P : Program} {w : World} {K : PySem.W.Frag} {mg : Str → Option Value} {base : Heap}
/-! ### _law_draw -/
def spDraw (K : PySem.W.Frag) : Sp := fun vs H Q _ => ∃ (s g c : Addr) (n : Nat) (room : Int), vs = [.ref s, .int room] ∧ StAt n H s g c ∧ n < 1000000 ∧ 0 < room ∧ room < 1000000 ∧
  ∀ r H', 0 ≤ r → r < room → StAt (n + 1) H' s g c → XE.Kept s g H H' → Q (.int r) H'
abbrev s__law_draw : Stmt := top 38
abbrev N__law_draw : List Str := ["state", "room", "found"]
theorem sc__law_draw : FnScope ["state", "room", "found"] ["state", "room"] (defScope s__law_draw) := ⟨rfl, rfl, rfl, by decide +kernel, rfl, by decide +kernel, by decide +kernel⟩
theorem bd__law_draw : Bnd s__law_draw "_law_draw" ["state", "room"] := fun _ _ _ _ _ _ us hl => match us, hl with | [_, _], _ => rfl

theorem d__law_draw (T : Bs K mg) (R : Rw K mg "_law_draw" s__law_draw) (D__law_blended : Df P w K mg base CX0 1 "_law_blended" s__law_blended ["state"] (spBlended K)) :
    Df P w K mg base CX0 2 "_law_draw" s__law_draw ["state", "room"] (spDraw K) := by
  refine mk0 R sc__law_draw bd__law_draw (fun vs H Q E h => ?_) fun f cdv A outer sh H vs Q E hr h => ?_
  · obtain ⟨s, g, c, n, room, rfl, _⟩ := h; rfl
  obtain ⟨s, g, c, n, room, rfl, hS, hn, hr0, hr1, q⟩ := h
  have hu := lt1 hr.units
  refine ⟨_, (pss_cons (ps_if (pt_cmpR (op_eqU hr.units) (pe_dget hu (pv 0) pe_str (fun _ _ => rfl)) pe_int (nomark _)) (pss_one (ps_dput hu (pv 0) pe_str (pe_ifExp (pt_cmpR (op_neU hr.units) (pe_dget hu (pv 0) pe_str (fun _ _ => rfl)) (pe_lst pa_nil) (nomark _)) (pe_bm PySem.F.plainAttrs_list PySem.F.slot_list_pop PySem.F.type_list_pop mt_popAt (pe_dget hu (pv 0) pe_str (fun _ _ => rfl)) (pa_cons pe_int pa_nil)) (pe_d D__law_blended hr (by decide) (by rfl) pass0 (pa_cons (pv 0) pa_nil))) rfl)) pss_nil)
      (pss_cons (ps_set (i := 2) sc__law_draw.nd rfl (Or.inl rfl) (pe_op op_modN (pe_callTy call_int1 (by rfl) T.n_int (by decide +kernel) (pa_cons (pe_dget hu (pv 0) pe_str (fun _ _ => rfl)) pa_nil)) (pv 1)))
      (pss_cons (ps_dput hu (pv 0) pe_str (pe_op op_fdivN (pe_dget hu (pv 0) pe_str (fun _ _ => rfl)) (pv 1)) rfl)
      (pss_one (ps_ret (pv 2)))))), ?_⟩
  obtain ⟨r, t, gs, cs, h1, h2, h3, n1, l1, l2, t0, t1⟩ := hS
  have fin : ∀ (H1 : Hp) (r1 t1 : Int) (gs1 : List Int), H1 s = some (.dK (stD g c r1 t1)) → H1 g = some (.lst (gs1.map V.int)) → XE.Kept s g H H1 → gs1.length ≤ 1000 → 0 ≤ t1 → t1 ≤ ((n + 1 : Nat) : Int) →
      ∀ v, StAt (n + 1) (upd H1 s (.dK (stD g c v t1))) s g c ∧ XE.Kept s g H (upd H1 s (.dK (stD g c v t1))) := by
    intro H1 r1 t1 gs1 a1 a2 a3 a4 a5 a6 v
    have m1 : g ≠ s := ne_of a2 a1 (by intro z; cases z)
    have m2 : H1 c = some (.lst (cs.map V.int)) := a3 _ _ h3 (ne_of h3 h1 (by intro z; cases z)) n1
    have m3 : c ≠ s := ne_of m2 a1 (by intro z; cases z)
    exact ⟨⟨v, t1, gs1, cs, upd_same, by rw [upd_ne m1]; exact a2, by rw [upd_ne m3]; exact m2, n1, l1, a4, a5, a6⟩, a3.trans fun b o e m _ => by rw [upd_ne m]; exact e⟩
  walk_at "rd"
  refine ⟨s, .int r, rfl, by rw [← at_R (g := g) (c := c) (t := t)]; exact DGet.k (k := kR) h1, ?_⟩
  walk_at "rd"
  refine rd_eqI ?_
  walk_at "rd"
  refine rd_join (C := fun H1 => ∃ (r1 t1 : Int) (gs1 : List Int), H1 s = some (.dK (stD g c r1 t1)) ∧ H1 g = some (.lst (gs1.map V.int)) ∧ XE.Kept s g H H1 ∧ gs1.length ≤ 1000 ∧ 0 ≤ t1 ∧ t1 ≤ ((n + 1 : Nat) : Int)) (fun H1 hc => ?_) fun key => ?_
  · obtain ⟨r1, t1, gs1, a1, a2, a3, a4, a5, a6⟩ := hc
    have f1 := fin H1 r1 t1 gs1 a1 a2 a3 a4 a5 a6
    dsimp only
    walk_at "rd"
    refine ⟨s, .int r1, rfl, by rw [← at_R (g := g) (c := c) (t := t1)]; exact DGet.k (k := kR) a1, ?_⟩
    refine .inl ⟨_, rfl, ?_⟩
    walk_at "rd"
    refine rd_I (by omega) ?_
    walk_at "rd"
    refine ⟨s, .int r1, rfl, by rw [← at_R (g := g) (c := c) (t := t1)]; exact DGet.k (k := kR) a1, ?_⟩
    walk_at "rd"
    refine rd_I ⟨by omega, by omega⟩ ?_
    walk_at "rd"
    refine ⟨s, _, rfl, DPut.k (k := kR) a1 (by show 4 < sizeLine; decide), ?_⟩
    rw [put_R]
    walk_at "rd"
    have e : r1.fmod room = r1 % room := Int.fmod_eq_emod_of_nonneg _ (by omega)
    exact q _ _ (by rw [e]; exact Int.emod_nonneg _ (by omega)) (by rw [e]; exact Int.emod_lt_of_pos _ hr0) (f1 _).1 (f1 _).2
  · refine rd_ite (fun e => ?_) fun e => ?_
    · walk_at "rd"
      refine ⟨s, .ref g, rfl, by rw [← at_G (g := g) (c := c) (r := r) (t := t)]; exact DGet.k (k := kG) h1, ?_⟩
      walk_at "rd"
      refine ⟨lz (by simp), fun p hp => ?_⟩
      have n2 : s ≠ p := ne_of_none h1 hp
      have n3 : g ≠ p := ne_of_none h2 hp
      have n4 : g ≠ s := ne_of h2 h1 (by intro z; cases z)
      have e1 : upd H p (.lst []) s = some (.dK (stD g c r t)) := by rw [upd_ne n2]; exact h1
      have e2 : upd H p (.lst []) g = some (.lst (gs.map V.int)) := by rw [upd_ne n3]; exact h2
      refine neL (ys := []) (.inl (.inl e2)) (.inl (.inl upd_same)) ?_
      walk_at "rd"
      have k0 : Same H (upd H p (.lst [])) := same_new hp
      generalize upd H p (.lst []) = H1 at e1 e2 k0 ⊢
      cases gs with
      | nil =>
        refine iteF ?_
        walk_at "rd"
        refine ⟨s, g, c, r, t, cs, rfl, e1, k0 _ _ h3, l1, t0, by omega, fun v H2 b1 b2 => ?_⟩
        walk_at "rd"
        refine ⟨s, _, rfl, DPut.k (k := kR) b1 (by show 4 < sizeLine; decide), ?_⟩
        rw [put_R]
        have b3 := b2 _ _ e2 n4 n4
        exact key (upd H2 s (.dK (stD g c v (t + 1)))) ⟨v, t + 1, [], upd_same, by rw [upd_ne n4]; exact b3, (XE.Kept.of k0).trans fun b o e m m2 => by rw [upd_ne m]; exact b2 _ _ e m m, by simp, by omega, by omega⟩
      | cons x gs =>
        refine iteT ?_
        walk_at "rd"
        refine ⟨s, .ref g, rfl, by rw [← at_G (g := g) (c := c) (r := r) (t := t)]; exact DGet.k (k := kG) e1, ?_⟩
        refine ⟨tyl e2, ?_⟩
        walk_at "rd"
        refine ⟨g, _, 0, 0, .int x, rfl, rfl, e2, by omega, by omega, by simp [seqIndex?], rfl, ?_⟩
        have e3 : upd H1 g (.lst (gs.map V.int)) s = some (.dK (stD g c r t)) := by rw [upd_ne (Ne.symm n4)]; exact e1
        walk_at "rd"
        refine ⟨s, _, rfl, DPut.k (k := kR) e3 (by show 4 < sizeLine; decide), ?_⟩
        rw [put_R]
        refine key (upd (upd H1 g (.lst (gs.map V.int))) s (.dK (stD g c x t))) ⟨x, t, gs, upd_same, by rw [upd_ne n4, upd_same], (XE.Kept.of k0).trans fun b o e m m2 => by rw [upd_ne m, upd_ne m2]; exact e, ?_, by omega, by omega⟩
        simp only [List.length_cons] at l2
        omega
    · exact key _ ⟨r, t, gs, h1, h2, XE.Kept.refl, l2, t0, by omega⟩
/-! ### _law_pick -/
def spPick (K : PySem.W.Frag) : Sp := fun vs H Q _ => ∃ (s g c a : Addr) (n : Nat) (xs : List V), vs = [.ref s, .ref a] ∧ StAt n H s g c ∧ n < 1000000 ∧ SqL K H a xs ∧ a ≠ g ∧ xs ≠ [] ∧ xs.length < 1000 ∧
  ∀ x H', x ∈ xs → StAt (n + 1) H' s g c → XE.Kept s g H H' → Q x H'
abbrev s__law_pick : Stmt := top 39
abbrev N__law_pick : List Str := ["state", "some"]
theorem sc__law_pick : FnScope ["state", "some"] ["state", "some"] (defScope s__law_pick) := ⟨rfl, rfl, rfl, by decide +kernel, rfl, by decide +kernel, by decide +kernel⟩
theorem bd__law_pick : Bnd s__law_pick "_law_pick" ["state", "some"] := fun _ _ _ _ _ _ us hl => match us, hl with | [_, _], _ => rfl

theorem d__law_pick (T : Bs K mg) (R : Rw K mg "_law_pick" s__law_pick) (D__law_draw : Df P w K mg base CX0 2 "_law_draw" s__law_draw ["state", "room"] (spDraw K)) :
    Df P w K mg base CX0 3 "_law_pick" s__law_pick ["state", "some"] (spPick K) := by
  refine mk0 R sc__law_pick bd__law_pick (fun vs H Q E h => ?_) fun f cdv A outer sh H vs Q E hr h => ?_
  · obtain ⟨s, g, c, a, n, xs, rfl, _⟩ := h; rfl
  obtain ⟨s, g, c, a, n, xs, rfl, hS, hn, hL, na, hx, hz, q⟩ := h
  refine ⟨_, (pss_one (ps_ret (pe_ix ix_seq (pv 1) (pe_d D__law_draw hr (by decide) (by rfl) pass0 (pa_cons (pv 0) (pa_cons (pe_callB call_len (by rfl) T.n_len (by decide +kernel) (pa_cons (pv 1) pa_nil)) pa_nil))) (fun _ _ => rfl)))), ?_⟩
  walk_at "rd"
  refine lenL hL ?_
  have hp : 0 < xs.length := List.length_pos_iff.mpr hx
  walk_at "rd"
  refine ⟨s, g, c, n, (xs.length : Int), rfl, hS, hn, by omega, by omega, fun r H' r0 r1 S1 k1 => ?_⟩
  obtain ⟨i, rfl⟩ : ∃ i : Nat, r = (i : Int) := ⟨r.toNat, by omega⟩
  have hi : i < xs.length := by omega
  have ha : atI xs (i : Int) = some xs[i] := by
    have h1 : ixN xs.length (i : Int) = some i := by
      unfold ixN
      rw [if_pos (by omega), if_pos (by omega)]
      all_goals rfl
    unfold atI
    rw [h1]
    exact List.getElem?_eq_getElem hi
  exact rd_ixL (k1.sqL hS hL na) ha (q _ _ (List.getElem_mem hi) S1 k1)
end
end KP

set_option linter.all false
set_option maxRecDepth 100000
set_option maxHeartbeats 4000000
namespace KP
open PySem PySem.Spec PyProof.Rows L2 XA XB XC XD XM XE XF XG
local macro_rules | `(tactic| walk_at "rd") => `(tactic| repeat (first
  | (with_reducible refine rd_seq ?_) | (with_reducible refine rd_asg ?_) | ((with_reducible refine' rd_var ?hv ?_); (case hv => exact rfl)) | (with_reducible refine rd_c ?_) | (with_reducible refine rd_gn ?_)
  | (with_reducible refine rd_op ?_) | (with_reducible refine rd_un ?_) | (with_reducible refine rd_cons ?_) | (with_reducible refine rd_nil ?_) | (with_reducible refine rd_cl ?_) | (with_reducible refine rd_ck ?_) | (with_reducible refine rd_cb ?_)
  | (with_reducible refine rd_ret ?_) | (with_reducible refine rd_drop ?_) | (with_reducible refine rd_ifs ?_) | (with_reducible refine rd_if ?_) | (with_reducible refine rd_test ?_) | (with_reducible refine rd_tb ?_) | (with_reducible refine rd_and ?_) | (with_reducible refine rd_or ?_)
  | (with_reducible refine rd_not ?_) | (with_reducible refine rd_andV ?_) | (with_reducible refine rd_orV ?_) | (with_reducible refine rd_notV ?_) | (with_reducible refine rd_chain ?_) | (with_reducible refine rd_tup ?_) | (with_reducible refine rd_lst ?_)
  | (with_reducible refine rd_bm0 ?_) | (with_reducible refine rd_bm ?_) | (with_reducible refine rd_sl ?_) | (with_reducible refine rd_part ?_) | (with_reducible refine rd_nopart ?_) | (with_reducible refine rd_dget ?_) | (with_reducible refine rd_dput ?_)
  | (with_reducible refine rd_next ?_) | (with_reducible refine rd_lc ?_) | ((with_reducible refine' rd_aug ?hv ?_); (case hv => exact rfl)) | (with_reducible refine rd_cont ?_) | (with_reducible refine rd_gcons ?_) | (with_reducible refine rd_gnil ?_) | (with_reducible refine rd_ifT ?_) | (with_reducible refine rd_yes ?_) | (with_reducible refine rd_tru ?_) | (with_reducible refine rd_cntE ?_) | (with_reducible refine rd_rng1 ?_) | (with_reducible refine rd_lrg ?_) | (with_reducible refine rd_rg2 ?_) | (with_reducible refine rd_back ?_) | (with_reducible refine rd_disp ?_) | (with_reducible refine rd_prN ?_) | (with_reducible refine rd_prC ?_) | (with_reducible refine rd_par ?_) | (with_reducible refine rd_par3 ?_) | (with_reducible refine rd_two ?_) | (with_reducible refine rd_three ?_) | (with_reducible refine rd_one ?_) | (with_reducible refine rd_onei ?_) | (with_reducible refine rd_iL ?_) | (with_reducible refine rd_iT ?_) | (with_reducible refine rd_rng2 ?_) | (with_reducible refine rd_bl ?_) | (with_reducible refine rd_int ?_) | (with_reducible refine rd_I0 ?_) | (with_reducible refine rd_U ?_) | (with_reducible refine rd_din ?_) | (with_reducible refine rd_dnin ?_) | (with_reducible refine rd_dnew ?_) | (with_reducible refine rd_lset ?_) | (with_reducible refine rd_enT ?_) | (with_reducible refine rd_idx ?_) | (with_reducible refine rd_rg1 ?_) | (with_reducible refine rd_tupRg ?_)))

section
variable {P : Program} {w : World} {K : PySem.W.Frag} {mg : Str → Option Value} {base : Heap}
/-! ### _law_mk_plain -/
abbrev s__law_mk_plain : Stmt := top 42
abbrev N__law_mk_plain : List Str := ["letters", "found", "letter"]
theorem sc__law_mk_plain : FnScope ["letters", "found", "letter"] ["letters"] (defScope s__law_mk_plain) := ⟨rfl, rfl, rfl, by decide +kernel, rfl, by decide +kernel, by decide +kernel⟩
theorem bd__law_mk_plain : Bnd s__law_mk_plain "_law_mk_plain" ["letters"] := fun _ _ _ _ _ _ us hl => match us, hl with | [_], _ => rfl

theorem d__law_mk_plain (T : Bs K mg) (R : Rw K mg "_law_mk_plain" s__law_mk_plain) : Df P w K mg base CX0 1 "_law_mk_plain" s__law_mk_plain ["letters"] (spPlain K) := by
  refine mk0 R sc__law_mk_plain bd__law_mk_plain (fun vs H Q E h => ?_) fun f cdv A outer s H vs Q E hr h => ?_
  · obtain ⟨a, xs, rfl, _⟩ := h; rfl
  obtain ⟨a, xs, rfl, hS, hz, q⟩ := h
  refine ⟨_, (pss_cons (ps_set (i := 1) sc__law_mk_plain.nd rfl (Or.inl rfl) (pe_lst pa_nil))
      (pss_cons (ps_for PassesOwn.never rfl (pi_U (pv 0)) (pg_name (i := 2) sc__law_mk_plain.nd rfl (Or.inl rfl))
        (pss_one (ps_if (PW.pt (pw_and (pt_cmpR (op_neU hr.units) (pv 1) (pe_lst pa_nil) (nomark _)) (pw_and1 (pt_cmpR (op_eqU hr.units) (pe_ix ix_seq (pv 1) (pe_un un_neg pe_int) (fun _ _ => rfl)) (pe_op op_sub pe_int (pv 2)) (nomark _))))) (pss_one (ps_expr (pe_bm0 PySem.F.plainAttrs_list PySem.F.slot_list_pop PySem.F.type_list_pop mt_pop (pv 1)))) (pss_one (ps_expr (pe_bm PySem.F.plainAttrs_list PySem.F.slot_list_append PySem.F.type_list_append mt_append (pv 1) (pa_cons (pv 2) pa_nil)))))))
      (pss_one (ps_ret (pe_callTy call_tupN (by rfl) T.n_tuple (by decide +kernel) (pa_cons (pv 1) pa_nil)))))), ?_⟩
  walk_at "rd"
  refine ⟨lz (by decide), fun k hk => ?_⟩
  walk_at "rd"
  refine forT (xs := xs.map V.int) (fun i σ H' => ∃ y, σ = [some (.ref a), some (.ref k), y] ∧ Same H H' ∧ H' k = some (.lst ((stack [] (xs.take i)).reverse.map V.int))) rfl (sqT_same (same_new hk) hS) ⟨none, rfl, same_new hk, upd_same⟩
    (fun i σ H' _ h => ?_) (fun i x σ H' hx h => ?_) (fun σ H' h => ?_)
  · obtain ⟨y, rfl, sm, _⟩ := h
    exact sqT_same sm hS
  · obtain ⟨y, rfl, sm, ek⟩ := h
    obtain ⟨z, hz2, rfl⟩ := item_of hx
    have el : (stack [] (xs.take i)).length ≤ xs.length := Nat.le_trans (stack_len _ _) (by rw [List.length_take]; simp only [List.length_nil]; omega)
    have en : stack [] (xs.take (i + 1)) = push (stack [] (xs.take i)) z := by rw [take_more hz2, stack_snoc]
    walk_at "rd"
    refine ⟨lz (by simp), fun p hp => ?_⟩
    have sp : Same H' (upd H' p (.lst [])) := same_new hp
    have ek1 := sp _ _ ek
    refine neL (xs := (stack [] (xs.take i)).reverse) (ys := []) (.inl (.inl ek1)) (.inl (.inl upd_same)) ?_
    have sm1 := sm.trans sp
    generalize upd H' p (.lst []) = H1 at ek1 sm1 ⊢
    walk_at "rd"
    cases hst : stack [] (xs.take i) with
    | nil =>
      rw [hst] at ek1 en el
      refine iteF (iteF ?_)
      walk_at "rd"
      refine ⟨tyl ek1, ?_⟩
      walk_at "rd"
      refine app ek1 (by simp) ?_
      walk_at "rd"
      refine ⟨_, rfl, same_mut sm1 hk, ?_⟩
      rw [upd_same, en]
      rfl
    | cons y r =>
      rw [hst] at ek1 en el
      have ee : (y :: r).reverse.map V.int = r.reverse.map V.int ++ [.int y] := by simp
      rw [ee] at ek1
      rw [show (!decide ((y :: r).reverse = [])) = true by simp]
      refine iteT ?_
      walk_at "rd"
      refine rd_ixL (.inl (.inl ek1)) (atI_last _ _) ?_
      walk_at "rd"
      refine rd_eqI ?_
      walk_at "rd"
      refine rd_ite (fun e => ?_) fun e => ?_
      · have e := of_decide_eq_true e
        walk_at "rd"
        refine ⟨tyL (.inl (.inl ek1)), k, _, .int y, rfl, rfl, ek1, by simp, ?_⟩
        walk_at "rd"
        refine ⟨_, rfl, same_mut sm1 hk, ?_⟩
        rw [upd_same, en, push_c r (by omega), List.dropLast_concat]
      · have e := of_decide_eq_false e
        walk_at "rd"
        refine ⟨tyl ek1, ?_⟩
        walk_at "rd"
        refine app ek1 (by simp only [List.length_append, List.length_map, List.length_reverse, List.length_cons, List.length_nil] at el ⊢; omega) ?_
        walk_at "rd"
        refine ⟨_, rfl, same_mut sm1 hk, ?_⟩
        rw [upd_same, en, push_n r (by omega)]
        simp
  · obtain ⟨y, rfl, sm, ek⟩ := h
    rw [List.length_map, List.take_length] at ek
    walk_at "rd"
    refine rd_tupOfL (.inl (.inl ek)) fun p o hp ho hd => q p _ (sm.trans (same_new hp)) ⟨o, upd_same, ho, hd⟩
/-! ### _law_mk_undone -/
abbrev s__law_mk_undone : Stmt := top 43
abbrev N__law_mk_undone : List Str := ["row", "letter"]
theorem sc__law_mk_undone : FnScope ["row", "letter"] ["row"] (defScope s__law_mk_undone) := ⟨rfl, rfl, rfl, by decide +kernel, rfl, by decide +kernel, by decide +kernel⟩
theorem bd__law_mk_undone : Bnd s__law_mk_undone "_law_mk_undone" ["row"] := fun _ _ _ _ _ _ us hl => match us, hl with | [_], _ => rfl

theorem d__law_mk_undone (T : Bs K mg) (R : Rw K mg "_law_mk_undone" s__law_mk_undone) : Df P w K mg base CX0 1 "_law_mk_undone" s__law_mk_undone ["row"] (spUndone K) := by
  refine mk0 R sc__law_mk_undone bd__law_mk_undone (fun vs H Q E h => ?_) fun f cdv A outer s H vs Q E hr h => ?_
  · obtain ⟨a, xs, rfl, _⟩ := h; rfl
  obtain ⟨a, xs, rfl, hS, hz, q⟩ := h
  refine ⟨_, (pss_one (ps_ret (pe_callTy call_tupN (by rfl) T.n_tuple (by decide +kernel) (pa_cons (pe_lc (own := [("letter", 1)]) rfl sc__law_mk_undone.nd (pi_U (pe_back (pv 0))) (blkOk_by (own := [("letter", 1)]) (N := ["row", "letter"]) (sc := defScope s__law_mk_undone) (by decide +kernel)) (fun _ _ _ _ _ => (pg_name (i := 1) sc__law_mk_undone.nd rfl (Or.inl rfl))) (fun _ _ _ _ _ => pts_nil) (fun _ _ _ _ _ => (pe_op op_sub pe_int (pv 1)))) pa_nil)))), ?_⟩
  walk_at "rd"
  refine .inr ?_
  walk_at "rd"
  refine ⟨a, _, rfl, hS, fun p o hp ho hd => ?_⟩
  have sp : Same H (upd H p (.frz o (.tup (xs.map V.int).reverse))) := same_new hp
  have hp2 : SqT K (upd H p (.frz o (.tup (xs.map V.int).reverse))) p (xs.map V.int).reverse := Tp.sqT ⟨o, upd_same, ho, hd⟩
  generalize upd H p (.frz o (.tup (xs.map V.int).reverse)) = H1 at sp hp2 ⊢
  refine ⟨p, rfl, ⟨_, hp2⟩, fun D hD => ?_⟩
  refine lc_pure walk_tup hD (xs.map V.int).reverse (fun _ => true) negV rfl (by simp only [List.length_reverse, List.length_map]; omega) (fun H' e => sqT_same e hp2) (fun i H x H' hi y => y) (fun x H' hx e R R0 h1 h0 => ?_) fun H' e hD' => ?_
  · obtain ⟨z, rfl⟩ := mem_int hx
    walk_at "rd"
    refine ⟨rfl, ?_⟩
    walk_at "rd"
    refine iteT ?_
    walk_at "rd"
    have h1 : ∀ H'', Same H' H'' → R (.int (-z)) H'' := h1 rfl
    rw [Int.zero_sub]
    exact h1 H' (Same.refl _)
  · rw [neg_map] at hD'
    walk_at "rd"
    exact rd_tupOfL (.inl (.inl hD')) fun p o hp ho hd => q p _ ((sp.trans e).trans (same_new hp)) ⟨o, upd_same, ho, hd⟩
/-! ### _law_mk_letters -/
def lets (n : Int) : List Int := ((List.range n.toNat).map fun (i : Nat) => 1 + (i : Int)) ++ (List.range n.toNat).map fun (i : Nat) => -(1 + (i : Int))
theorem lets_len (n : Int) : (lets n).length = n.toNat + n.toNat := by simp [lets]
theorem lets_mem {n x : Int} : x ∈ lets n ↔ (-n ≤ x ∧ x ≤ n ∧ x ≠ 0) := by
  unfold lets
  rw [List.mem_append, List.mem_map, List.mem_map]
  constructor
  · rintro (⟨i, hi, rfl⟩ | ⟨i, hi, rfl⟩)
    · have := List.mem_range.mp hi
      omega
    · have := List.mem_range.mp hi
      omega
  · intro ⟨a, b, c⟩
    by_cases h : 0 < x
    · exact .inl ⟨(x - 1).toNat, List.mem_range.mpr (by omega), by omega⟩
    · exact .inr ⟨(-x - 1).toNat, List.mem_range.mpr (by omega), by omega⟩
def spLetters (K : PySem.W.Frag) : Sp := fun vs H Q _ => ∃ n : Int, vs = [.int n] ∧ 1 ≤ n ∧ n ≤ 4 ∧ ∀ p H', Same H H' → H p = none → H' p = some (.lst ((lets n).map V.int)) → Q (.ref p) H'
/-! ### letters -/
abbrev s__law_mk_letters : Stmt := top 44
abbrev N__law_mk_letters : List Str := ["deeds", "deed"]
theorem sc__law_mk_letters : FnScope ["deeds", "deed"] ["deeds"] (defScope s__law_mk_letters) := ⟨rfl, rfl, rfl, by decide +kernel, rfl, by decide +kernel, by decide +kernel⟩
theorem bd__law_mk_letters : Bnd s__law_mk_letters "_law_mk_letters" ["deeds"] := fun _ _ _ _ _ _ us hl => match us, hl with | [_], _ => rfl

theorem d__law_mk_letters (T : Bs K mg) (R : Rw K mg "_law_mk_letters" s__law_mk_letters) : Df P w K mg base CX0 1 "_law_mk_letters" s__law_mk_letters ["deeds"] (spLetters K) := by
  refine mk0 R sc__law_mk_letters bd__law_mk_letters (fun vs H Q E h => ?_) fun f cdv A outer s H vs Q E hr h => ?_
  · obtain ⟨n, rfl, _⟩ := h; rfl
  obtain ⟨n, rfl, h1, h2, q⟩ := h
  refine ⟨_, (pss_one (ps_ret (pe_op op_addU (pe_listRg rfl (by rfl) T.n_list (prg_2 (by rfl) T.n_range pe_int (pe_op op_addU (pv 0) pe_int))) (pe_lc (own := [("deed", 1)]) rfl sc__law_mk_letters.nd (pi_range2 (by rfl) T.n_range (pa_cons pe_int (pa_cons (pe_op op_addU (pv 0) pe_int) pa_nil))) (blkOk_by (own := [("deed", 1)]) (N := ["deeds", "deed"]) (sc := defScope s__law_mk_letters) (by decide +kernel)) (fun _ _ _ _ _ => (pg_name (i := 1) sc__law_mk_letters.nd rfl (Or.inl rfl))) (fun _ _ _ _ _ => pts_nil) (fun _ _ _ _ _ => (pe_op op_sub pe_int (pv 1))))))), ?_⟩
  walk_at "rd"
  refine rd_addI ?_
  refine ⟨1, n + 1, rfl, rfl, ⟨by omega, by omega, by omega, by omega, by omega⟩, fun p hp => ?_⟩
  walk_at "rd"
  refine rd_addI ?_
  walk_at "rd"
  refine ⟨1, n + 1, rfl, ⟨by omega, by omega, by omega, by omega⟩, fun D hD => ?_⟩
  rw [show (n + 1 - 1).toNat = n.toNat by omega]
  refine lc_pure walk_range hD ((List.range n.toNat).map fun (i : Nat) => V.int (1 + (i : Int))) (fun _ => true) negV (by simp) (by omega) (fun _ _ => True.intro)
    (fun i H x H' hi y => ⟨y.1, by rw [y.2]; simp [hi]⟩) (fun x H' hx e2 R R0 g1 g0 => ?_) fun H' e2 hD' => ?_
  · obtain ⟨z, rfl⟩ : ∃ z, x = .int z := by
      obtain ⟨i, _, rfl⟩ := List.mem_map.mp hx
      exact ⟨_, rfl⟩
    walk_at "rd"
    refine ⟨rfl, ?_⟩
    walk_at "rd"
    refine iteT ?_
    walk_at "rd"
    have g1 : ∀ H'', Same H' H'' → R (.int (-z)) H'' := g1 rfl
    rw [Int.zero_sub]
    exact g1 H' (Same.refl _)
  · have ep : H' p = some (.lst (rgV 1 (n + 1))) := e2 _ _ upd_same
    rw [List.filter_eq_self.mpr fun _ _ => rfl, List.map_map] at hD'
    refine catL ep hD' (by rw [rgV_length]; simp only [List.length_map, List.length_range]; omega) fun p2 hp2 => ?_
    have e3 : Same H H' := (same_new hp).trans e2
    refine q p2 _ (e3.trans (same_new hp2)) (none_of e3 hp2) ?_
    rw [upd_same]
    unfold lets rgV
    rw [show (n + 1 - 1).toNat = n.toNat by omega]
    simp [Function.comp_def, negV]
/-! ### _law_mk_row -/
/-- letters of n deeds -/
def LetS (n : Int) (xs : List Int) : Prop := ∀ x ∈ xs, -n ≤ x ∧ x ≤ n ∧ x ≠ 0
def spMkRow (K : PySem.W.Frag) : Sp := fun vs H Q _ => ∃ (s g c : Addr) (m : Nat) (n lo hi : Int), vs = [.ref s, .int n, .int lo, .int hi] ∧ StAt m H s g c ∧ m < 100000 ∧ 1 ≤ n ∧ n ≤ 4 ∧ 0 ≤ lo ∧ lo ≤ hi ∧ hi ≤ 20 ∧
  ∀ p xs H', StAt (m + 21) H' s g c → XE.Kept s g H H' → Tp H' p (xs.map V.int) → (xs.length : Int) ≤ hi → lo ≤ (xs.length : Int) → LetS n xs → Q (.ref p) H'
def okNext (xs : List Int) : V → Bool
  | .int z => decide (xs = []) || !decide (xs.getLast? = some (-z))
  | _ => false
theorem some_next {n : Int} (h : 1 ≤ n) (xs : List Int) : (((lets n).map V.int).filter (okNext xs)).map (fun x => x) ≠ [] := by
  have key : ∀ z : Int, z ∈ lets n → okNext xs (.int z) = true → (((lets n).map V.int).filter (okNext xs)).map (fun x => x) ≠ [] := fun z hz ho =>
    List.ne_nil_of_mem (List.mem_map.mpr ⟨.int z, List.mem_filter.mpr ⟨List.mem_map.mpr ⟨z, hz, rfl⟩, ho⟩, rfl⟩)
  by_cases e : xs.getLast? = some (-1)
  · refine key (-1) (lets_mem.mpr (by omega)) ?_
    have e2 : decide (xs.getLast? = some (- -1)) = false := decide_eq_false (by rw [e]; decide)
    show (decide (xs = []) || !decide (xs.getLast? = some (- -1))) = true
    rw [e2]
    simp
  · refine key 1 (lets_mem.mpr (by omega)) ?_
    show (decide (xs = []) || !decide (xs.getLast? = some (-1))) = true
    rw [decide_eq_false e]
    simp
/-! ### row -/
abbrev s__law_mk_row : Stmt := top 45
abbrev N__law_mk_row : List Str := ["state", "deeds", "least", "most", "found", "lap", "some", "letter"]
theorem sc__law_mk_row : FnScope ["state", "deeds", "least", "most", "found", "lap", "some", "letter"] ["state", "deeds", "least", "most"] (defScope s__law_mk_row) := ⟨rfl, rfl, rfl, by decide +kernel, rfl, by decide +kernel, by decide +kernel⟩
theorem bd__law_mk_row : Bnd s__law_mk_row "_law_mk_row" ["state", "deeds", "least", "most"] := fun _ _ _ _ _ _ us hl => match us, hl with | [_, _, _, _], _ => rfl

theorem d__law_mk_row (T : Bs K mg) (R : Rw K mg "_law_mk_row" s__law_mk_row) (D__law_draw : Df P w K mg base CX0 2 "_law_draw" s__law_draw ["state", "room"] (spDraw K)) (D__law_pick : Df P w K mg base CX0 3 "_law_pick" s__law_pick ["state", "some"] (spPick K))
    (D__law_mk_letters : Df P w K mg base CX0 1 "_law_mk_letters" s__law_mk_letters ["deeds"] (spLetters K)) : Df P w K mg base CX0 5 "_law_mk_row" s__law_mk_row ["state", "deeds", "least", "most"] (spMkRow K) := by
  refine mk0 R sc__law_mk_row bd__law_mk_row (fun vs H Q E h => ?_) fun f cdv A outer sh H vs Q E hr h => ?_
  · obtain ⟨s, g, c, m, n, lo, hi, rfl, _⟩ := h; rfl
  obtain ⟨s, g, c, m, n, lo, hi, rfl, hS, hm, n1, n4, l0, l1, l2, q⟩ := h
  refine ⟨_, (pss_cons (ps_set (i := 4) sc__law_mk_row.nd rfl (Or.inr rfl) (pe_lst pa_nil))
      (pss_cons (ps_for PassesOwn.never rfl (pi_range1 (by rfl) T.n_range (pa_cons (pe_op op_addU (pv 2) (pe_d D__law_draw hr (by decide) (by rfl) pass0 (pa_cons (pv 0) (pa_cons (pe_op op_addU (pe_op op_sub (pv 3) (pv 2)) pe_int) pa_nil)))) pa_nil)) (pg_name (i := 5) sc__law_mk_row.nd rfl (Or.inl rfl))
        (pss_cons (ps_setLc (i := 6) (own := [("letter", 7)]) rfl sc__law_mk_row.nd rfl rfl (sw_true rfl rfl rfl (by decide +kernel)) (pi_U (pe_d D__law_mk_letters hr (by decide) (by rfl) pass0 (pa_cons (pv 1) pa_nil))) (blkOk_by (own := [("letter", 7)]) (N := ["state", "deeds", "least", "most", "found", "lap", "some", "letter"]) (sc := defScope s__law_mk_row) (by decide +kernel)) (fun _ _ _ _ _ => (pg_name (i := 7) sc__law_mk_row.nd rfl (Or.inl rfl))) (fun _ _ _ _ _ => pts_one (PW.pt (pw_or (pt_cmpR (show OpR _ _ (rEqU K) from (op_eqU hr.units)) (pv 4) (pe_lst pa_nil) (nomark _)) (pw_or1 (pt_cmpR (show OpR _ _ (rNeU K) from (op_neU hr.units)) (pv 7) (pe_op op_sub pe_int (pe_ix (show IxR _ (rIx K) from ix_seq) (pv 4) (pe_un un_neg pe_int) (fun _ _ => rfl))) (nomark _)))))) (fun _ _ _ _ _ => (pv 7)))
        (pss_one (ps_expr (pe_bm PySem.F.plainAttrs_list PySem.F.slot_list_append PySem.F.type_list_append mt_append (pv 4) (pa_cons (pe_d D__law_pick hr (by decide) (by rfl) pass0 (pa_cons (pv 0) (pa_cons (pv 6) pa_nil))) pa_nil))))))
      (pss_one (ps_ret (pe_callTy call_tupN (by rfl) T.n_tuple (by decide +kernel) (pa_cons (pv 4) pa_nil)))))), ?_⟩
  walk_at "rd"
  refine ⟨lz (by simp), fun k hk => ?_⟩
  have kg : k ≠ g := hS.ne_n hk
  have S0 : StAt m (upd H k (.lst [])) s g c := hS.same (same_new hk)
  have K0 : XE.Kept s g H (upd H k (.lst [])) := XE.Kept.of (same_new hk)
  have E0k : upd H k (.lst []) k = some (.lst []) := upd_same
  generalize upd H k (.lst []) = H1 at S0 K0 E0k ⊢
  walk_at "rd"
  refine rd_for ?_
  walk_at "rd"
  refine rd_addI ?_
  walk_at "rd"
  refine ⟨s, g, c, m, hi - lo + 1, rfl, S0, by omega, by omega, by omega, fun r H2 r0 r1 S1 k1 => ?_⟩
  refine rd_addI ?_
  walk_at "rd"
  refine ⟨by omega, by omega, ?_⟩
  refine for_range (fun i σ H' => ∃ (xs : List Int) (x5 x6 x7 : Option V), σ = [some (.ref s), some (.int n), some (.int lo), some (.int hi), some (.ref k), x5, x6, x7] ∧ StAt (m + 1 + i) H' s g c ∧ XE.Kept s g H H' ∧ H' k = some (.lst (xs.map V.int)) ∧ xs.length = i ∧ LetS n xs)
    ⟨[], none, none, none, rfl, S1, K0.trans k1, k1.lst S0 E0k kg, rfl, fun x hx => nomatch hx⟩ (fun i σ H' hi2 h => ?_) (fun σ H' h => ?_)
  · obtain ⟨xs, x5, x6, x7, rfl, S2, K2, E2, ln, le⟩ := h
    walk_at "rd"
    refine .inl ?_
    walk_at "rd"
    refine ⟨n, rfl, n1, n4, fun p H3 s3 hp3 ep3 => ?_⟩
    refine ⟨p, rfl, ⟨_, .inl (.inl ep3)⟩, fun D hD => ?_⟩
    refine lc_pure walk_list hD ((lets n).map V.int) (okNext xs) (fun x => x) rfl (by rw [List.length_map, lets_len]; omega) (fun H' e => .inl (.inl (e _ _ ep3))) (fun i H x H' hi y => y) (fun x H4 hx e4 R R0 g1 g0 => ?_) fun H4 e4 hD' => ?_
    · obtain ⟨z, hz, rfl⟩ := List.mem_map.mp hx
      have g1 : (decide (xs = []) || !decide (xs.getLast? = some (-z))) = true → ∀ H'', Same H4 H'' → R (.int z) H'' := g1
      have g0 : (decide (xs = []) || !decide (xs.getLast? = some (-z))) = false → ∀ H'', Same H4 H'' → R0 H'' := g0
      walk_at "rd"
      refine ⟨rfl, ?_⟩
      walk_at "rd"
      refine ⟨lz (by simp), fun p5 hp5 => ?_⟩
      have E4 : H4 k = some (.lst (xs.map V.int)) := e4 _ _ (s3 _ _ E2)
      have s5 : Same H4 (upd H4 p5 (.lst [])) := same_new hp5
      have E5 := s5 _ _ E4
      refine eqL (ys := []) (.inl (.inl E5)) (.inl (.inl upd_same)) ?_
      generalize upd H4 p5 (.lst []) = H5 at s5 E5 ⊢
      walk_at "rd"
      refine rd_ite (fun e => ?_) fun e => ?_
      · refine iteT ?_
        walk_at "rd"
        exact g1 (by rw [e] <;> rfl) H5 s5
      · walk_at "rd"
        obtain ⟨y, hy⟩ : ∃ y, xs.getLast? = some y := by
          cases hq : xs.getLast? with
          | none => exact absurd (List.getLast?_eq_none_iff.mp hq) (of_decide_eq_false e)
          | some y => exact ⟨y, rfl⟩
        rw [e, hy] at g1 g0
        refine rd_ixL (v := .int y) (.inl (.inl E5)) (atI_last2 (by rw [List.getLast?_map, hy] <;> rfl)) ?_
        walk_at "rd"
        refine rd_neI ?_
        walk_at "rd"
        by_cases e2 : y = -z
        · rw [decide_eq_true (show z = 0 - y by omega)]
          refine iteF (g0 ?_ H5 s5)
          rw [e2]
          simp
        · rw [decide_eq_false (show ¬ z = 0 - y by omega)]
          refine iteT ?_
          walk_at "rd"
          refine g1 ?_ H5 s5
          simp [e2]
    · have E4 : H4 k = some (.lst (xs.map V.int)) := e4 _ _ (s3 _ _ E2)
      have S4 := S2.same (s3.trans e4)
      walk_at "rd"
      refine ⟨tyl E4, ?_⟩
      have ll := List.length_filter_le (okNext xs) ((lets n).map V.int)
      rw [List.length_map, lets_len] at ll
      walk_at "rd"
      refine ⟨s, g, c, D, m + 1 + i, _, rfl, S4, by omega, .inl (.inl hD'), (S2.same s3).ne_n hD, some_next n1 xs, by rw [List.length_map]; omega, fun x H5 hx S5 k5 => ?_⟩
      rw [List.map_id'] at hx
      obtain ⟨z, hz, rfl⟩ := List.mem_map.mp (List.mem_filter.mp hx).1
      walk_at "rd"
      refine app (k5.lst S4 E4 kg) (by rw [List.length_map]; omega) ?_
      walk_at "rd"
      refine ⟨xs ++ [z], _, _, _, rfl, StAt.mut hS hk S5, ((K2.trans (.of (s3.trans e4))).trans k5).mut hk, by rw [upd_same]; simp, by simp [ln], fun y hy => ?_⟩
      rcases List.mem_append.mp hy with h | h
      · exact le y h
      · rw [List.mem_singleton.mp h]
        exact lets_mem.mp hz
  · obtain ⟨xs, x5, x6, x7, rfl, S2, K2, E2, ln, le⟩ := h
    walk_at "rd"
    refine rd_tupOfL (.inl (.inl E2)) fun p o hp ho hd => q p xs _ ((S2.mono (by omega)).same (same_new hp)) (K2.trans (.of (same_new hp))) ⟨o, upd_same, ho, hd⟩ (by omega) (by omega) le
end
end KP

set_option linter.all false
set_option maxRecDepth 100000
set_option maxHeartbeats 4000000
namespace KP
open PySem PySem.Spec PyProof.Rows L2 XA XB XC XD XM XE XF XG
local macro_rules | `(tactic| walk_at "rd") => `(tactic| repeat (first
  | (with_reducible refine rd_seq ?_) | (with_reducible refine rd_asg ?_) | ((with_reducible refine' rd_var ?hv ?_); (case hv => exact rfl)) | (with_reducible refine rd_c ?_) | (with_reducible refine rd_gn ?_)
  | (with_reducible refine rd_op ?_) | (with_reducible refine rd_un ?_) | (with_reducible refine rd_cons ?_) | (with_reducible refine rd_nil ?_) | (with_reducible refine rd_cl ?_) | (with_reducible refine rd_ck ?_) | (with_reducible refine rd_cb ?_)
  | (with_reducible refine rd_ret ?_) | (with_reducible refine rd_drop ?_) | (with_reducible refine rd_ifs ?_) | (with_reducible refine rd_if ?_) | (with_reducible refine rd_test ?_) | (with_reducible refine rd_tb ?_) | (with_reducible refine rd_and ?_) | (with_reducible refine rd_or ?_)
  | (with_reducible refine rd_not ?_) | (with_reducible refine rd_andV ?_) | (with_reducible refine rd_orV ?_) | (with_reducible refine rd_notV ?_) | (with_reducible refine rd_chain ?_) | (with_reducible refine rd_tup ?_) | (with_reducible refine rd_lst ?_)
  | (with_reducible refine rd_bm0 ?_) | (with_reducible refine rd_bm ?_) | (with_reducible refine rd_sl ?_) | (with_reducible refine rd_part ?_) | (with_reducible refine rd_nopart ?_) | (with_reducible refine rd_dget ?_) | (with_reducible refine rd_dput ?_)
  | (with_reducible refine rd_next ?_) | (with_reducible refine rd_lc ?_) | ((with_reducible refine' rd_aug ?hv ?_); (case hv => exact rfl)) | (with_reducible refine rd_cont ?_) | (with_reducible refine rd_gcons ?_) | (with_reducible refine rd_gnil ?_) | (with_reducible refine rd_ifT ?_) | (with_reducible refine rd_yes ?_) | (with_reducible refine rd_tru ?_) | (with_reducible refine rd_cntE ?_) | (with_reducible refine rd_rng1 ?_) | (with_reducible refine rd_lrg ?_) | (with_reducible refine rd_rg2 ?_) | (with_reducible refine rd_back ?_) | (with_reducible refine rd_disp ?_) | (with_reducible refine rd_prN ?_) | (with_reducible refine rd_prC ?_) | (with_reducible refine rd_par ?_) | (with_reducible refine rd_par3 ?_) | (with_reducible refine rd_two ?_) | (with_reducible refine rd_three ?_) | (with_reducible refine rd_one ?_) | (with_reducible refine rd_onei ?_) | (with_reducible refine rd_iL ?_) | (with_reducible refine rd_iT ?_) | (with_reducible refine rd_rng2 ?_) | (with_reducible refine rd_bl ?_) | (with_reducible refine rd_int ?_) | (with_reducible refine rd_I0 ?_) | (with_reducible refine rd_U ?_) | (with_reducible refine rd_din ?_) | (with_reducible refine rd_dnin ?_) | (with_reducible refine rd_dnew ?_) | (with_reducible refine rd_lset ?_) | (with_reducible refine rd_enT ?_) | (with_reducible refine rd_idx ?_) | (with_reducible refine rd_rg1 ?_) | (with_reducible refine rd_tupRg ?_)))

section
variable {P : Program} {w : World} {K : PySem.W.Frag} {mg : Str → Option Value} {base : Heap}
/-! ### _law_mk_raw -/
def spMkRaw (K : PySem.W.Frag) : Sp := fun vs H Q _ => ∃ (s g c a : Addr) (m : Nat) (n : Int) (xs : List Int), vs = [.ref s, .int n, .ref a] ∧ StAt m H s g c ∧ m < 100000 ∧ 1 ≤ n ∧ n ≤ 4 ∧ SqT K H a (xs.map V.int) ∧ xs.length ≤ 400 ∧ LetS n xs ∧
  ∀ p ys H', StAt (m + 10) H' s g c → XE.Kept s g H H' → Tp H' p (ys.map V.int) → ys.length ≤ xs.length + 4 → LetS n ys → Q (.ref p) H'
abbrev s__law_mk_raw : Stmt := top 46
abbrev N__law_mk_raw : List Str := ["state", "deeds", "row", "found", "lap", "at", "letter"]
theorem sc__law_mk_raw : FnScope ["state", "deeds", "row", "found", "lap", "at", "letter"] ["state", "deeds", "row"] (defScope s__law_mk_raw) := ⟨rfl, rfl, rfl, by decide +kernel, rfl, by decide +kernel, by decide +kernel⟩
theorem bd__law_mk_raw : Bnd s__law_mk_raw "_law_mk_raw" ["state", "deeds", "row"] := fun _ _ _ _ _ _ us hl => match us, hl with | [_, _, _], _ => rfl

theorem d__law_mk_raw (T : Bs K mg) (R : Rw K mg "_law_mk_raw" s__law_mk_raw) (D__law_draw : Df P w K mg base CX0 2 "_law_draw" s__law_draw ["state", "room"] (spDraw K)) (D__law_pick : Df P w K mg base CX0 3 "_law_pick" s__law_pick ["state", "some"] (spPick K))
    (D__law_mk_letters : Df P w K mg base CX0 1 "_law_mk_letters" s__law_mk_letters ["deeds"] (spLetters K)) : Df P w K mg base CX0 5 "_law_mk_raw" s__law_mk_raw ["state", "deeds", "row"] (spMkRaw K) := by
  refine mk0 R sc__law_mk_raw bd__law_mk_raw (fun vs H Q E h => ?_) fun f cdv A outer sh H vs Q E hr h => ?_
  · obtain ⟨s, g, c, a, m, n, xs, rfl, _⟩ := h; rfl
  obtain ⟨s, g, c, a, m, n, xs, rfl, hS, hm, n1, n4, hT, hl, le, q⟩ := h
  refine ⟨_, (pss_cons (ps_set (i := 3) sc__law_mk_raw.nd rfl (Or.inl rfl) (pe_callTy call_list_of (by rfl) T.n_list (by decide +kernel) (pa_cons (pv 2) pa_nil)))
      (pss_cons (ps_for PassesOwn.never rfl (pi_range1 (by rfl) T.n_range (pa_cons (pe_d D__law_draw hr (by decide) (by rfl) pass0 (pa_cons (pv 0) (pa_cons pe_int pa_nil))) pa_nil)) (pg_name (i := 4) sc__law_mk_raw.nd rfl (Or.inl rfl))
        (pss_cons (ps_par (i := 5) (j := 6) rfl sc__law_mk_raw.nd rfl rfl (by decide) rfl rfl (pa_cons (pe_d D__law_draw hr (by decide) (by rfl) pass0 (pa_cons (pv 0) (pa_cons (pe_op op_addU (pe_callB call_len (by rfl) T.n_len (by decide +kernel) (pa_cons (pv 3) pa_nil)) pe_int) pa_nil))) (pa_cons (pe_d D__law_pick hr (by decide) (by rfl) pass0 (pa_cons (pv 0) (pa_cons (pe_d D__law_mk_letters hr (by decide) (by rfl) pass0 (pa_cons (pv 1) pa_nil)) pa_nil))) pa_nil)) (by rfl))
        (pss_one (ps_set (i := 3) sc__law_mk_raw.nd rfl (Or.inl rfl) (pe_op op_addU (pe_op op_addU (pe_slice sl_U (pv 3) po_none (po_some (pv 5))) (pe_lst (pa_cons (pv 6) (pa_cons (pe_op op_sub pe_int (pv 6)) pa_nil)))) (pe_slice sl_U (pv 3) (po_some (pv 5)) po_none))))))
      (pss_one (ps_ret (pe_callTy call_tupN (by rfl) T.n_tuple (by decide +kernel) (pa_cons (pv 3) pa_nil)))))), ?_⟩
  walk_at "rd"
  refine ⟨a, _, rfl, .inr hT, fun k hk => ?_⟩
  walk_at "rd"
  refine rd_for ?_
  walk_at "rd"
  refine ⟨s, g, c, m, 3, rfl, hS.same (same_new hk), by omega, by omega, by omega, fun r H2 r0 r1 S1 k1 => ?_⟩
  have K1 : XE.Kept s g H H2 := (XE.Kept.of (same_new hk)).trans k1
  have E1 : H2 k = some (.lst (xs.map V.int)) := k1.lst (hS.same (same_new hk)) upd_same (hS.ne_n hk)
  walk_at "rd"
  refine ⟨by omega, by omega, ?_⟩
  refine for_range (fun i σ H' => ∃ (k : Addr) (ys : List Int) (x4 x5 x6 : Option V), σ = [some (.ref s), some (.int n), some (.ref a), some (.ref k), x4, x5, x6] ∧ H k = none ∧ StAt (m + 1 + 2 * i) H' s g c ∧ XE.Kept s g H H' ∧ H' k = some (.lst (ys.map V.int)) ∧ ys.length = xs.length + 2 * i ∧ LetS n ys)
    ⟨k, xs, none, none, none, rfl, hk, S1, K1, E1, rfl, le⟩ (fun i σ H' hi2 h => ?_) (fun σ H' h => ?_)
  · obtain ⟨k, ys, x4, x5, x6, rfl, hk, S2, K2, E2, ln, le2⟩ := h
    have kg : k ≠ g := hS.ne_n hk
    walk_at "rd"
    refine lenL (.inl (.inl E2)) ?_
    rw [List.length_map]
    walk_at "rd"
    refine rd_addI ?_
    walk_at "rd"
    refine ⟨s, g, c, m + 1 + 2 * i, (ys.length : Int) + 1, rfl, S2, by omega, by omega, by omega, fun at_ H3 a0 a1 S3 k3 => ?_⟩
    walk_at "rd"
    refine ⟨n, rfl, n1, n4, fun p H4 s4 hp4 ep4 => ?_⟩
    walk_at "rd"
    refine ⟨s, g, c, p, m + 1 + 2 * i + 1, _, rfl, S3.same s4, by omega, .inl (.inl ep4), S3.ne_n hp4, ?_, by rw [List.length_map, lets_len]; omega, fun x H5 hx S5 k5 => ?_⟩
    · intro z
      have z := congrArg List.length z
      rw [List.length_map, lets_len] at z
      simp only [List.length_nil] at z
      omega
    obtain ⟨z, hz, rfl⟩ := List.mem_map.mp hx
    obtain ⟨j, rfl⟩ : ∃ j : Nat, at_ = (j : Int) := ⟨at_.toNat, by omega⟩
    have hj : j ≤ (ys.map V.int).length := by rw [List.length_map]; omega
    have E3 := k3.lst S2 E2 kg
    have E5 := k5.lst (S3.same s4) (s4 _ _ E3) kg
    have K5 : XE.Kept s g H H5 := ((K2.trans k3).trans (.of s4)).trans k5
    walk_at "rd"
    refine slL (.inl (.inl E5)) fun p1 hp1 => ?_
    rw [cut_lo hj]
    walk_at "rd"
    refine ⟨lz (by simp), fun p2 hp2 => ?_⟩
    have e1 : upd (upd H5 p1 (.lst ((ys.map V.int).take j))) p2 (.lst [.int z, .int (0 - z)]) p1 = some (.lst ((ys.map V.int).take j)) := same_new hp2 _ _ upd_same
    have s6 : Same H5 (upd (upd H5 p1 (.lst ((ys.map V.int).take j))) p2 (.lst [.int z, .int (0 - z)])) := (same_new hp1).trans (same_new hp2)
    have e2 : upd (upd H5 p1 (.lst ((ys.map V.int).take j))) p2 (.lst [.int z, .int (0 - z)]) p2 = some (.lst [.int z, .int (0 - z)]) := upd_same
    generalize upd (upd H5 p1 (.lst ((ys.map V.int).take j))) p2 (.lst [.int z, .int (0 - z)]) = H6 at e1 e2 s6 ⊢
    have lt : ((ys.map V.int).take j).length ≤ 410 := by rw [List.length_take, List.length_map]; omega
    refine catL e1 e2 (by simp only [List.length_cons, List.length_nil]; omega) fun p3 hp3 => ?_
    walk_at "rd"
    refine slL (.inl (.inl (same_new hp3 _ _ (s6 _ _ E5)))) fun p4 hp4 => ?_
    rw [cut_hi hj]
    walk_at "rd"
    have ld : ((ys.map V.int).drop j).length ≤ 410 := by rw [List.length_drop, List.length_map]; omega
    refine catL (same_new hp4 _ _ upd_same) upd_same (by simp only [List.length_append, List.length_cons, List.length_nil]; omega) fun p5 hp5 => ?_
    have s7 := fun o : HO => ((s6.trans (same_new hp3)).trans (same_new hp4)).trans (same_new (o := o) hp5)
    walk_at "rd"
    refine ⟨p5, ys.take j ++ [z, 0 - z] ++ ys.drop j, _, _, _, rfl, ?_, (S5.same (s7 _)).mono (by omega), K5.trans (.of (s7 _)), ?_, ?_, fun y hy => ?_⟩
    · exact K5.none S5 (none_of (((s6.trans (same_new hp3)).trans (same_new hp4))) hp5)
    · rw [upd_same]
      simp [List.map_take, List.map_drop]
    · simp only [List.length_append, List.length_take, List.length_drop, List.length_cons, List.length_nil]
      omega
    · rcases List.mem_append.mp hy with h | h
      · rcases List.mem_append.mp h with h | h
        · exact le2 y (List.mem_of_mem_take h)
        · have hz := lets_mem.mp hz
          rcases List.mem_cons.mp h with e | e
          · rw [e]; exact hz
          · rw [List.mem_singleton.mp e]; omega
      · exact le2 y (List.mem_of_mem_drop h)
  · obtain ⟨k, ys, x4, x5, x6, rfl, hk, S2, K2, E2, ln, le2⟩ := h
    walk_at "rd"
    refine rd_tupOfL (.inl (.inl E2)) fun p o hp ho hd => q p ys _ ((S2.mono (by omega)).same (same_new hp)) (K2.trans (.of (same_new hp))) ⟨o, upd_same, ho, hd⟩ (by omega) le2
/-! ### values that are no deeds, no rows -/
def spBadDeeds (K : PySem.W.Frag) : Sp := fun vs H Q _ => ∃ (s g c : Addr) (m : Nat), vs = [.ref s] ∧ StAt m H s g c ∧ m < 100000 ∧
  ∀ v d H', Rp K H' v d → d.from 1 4 = false → v ≠ .ref g → StAt (m + 1) H' s g c → XE.Kept s g H H' → Q v H'
abbrev s__law_mk_bad_deeds : Stmt := top 49
abbrev N__law_mk_bad_deeds : List Str := ["state"]
theorem sc__law_mk_bad_deeds : FnScope ["state"] ["state"] (defScope s__law_mk_bad_deeds) := ⟨rfl, rfl, rfl, by decide +kernel, rfl, by decide +kernel, by decide +kernel⟩
theorem bd__law_mk_bad_deeds : Bnd s__law_mk_bad_deeds "_law_mk_bad_deeds" ["state"] := fun _ _ _ _ _ _ us hl => match us, hl with | [_], _ => rfl

theorem d__law_mk_bad_deeds (T : Bs K mg) (R : Rw K mg "_law_mk_bad_deeds" s__law_mk_bad_deeds) (D__law_pick : Df P w K mg base CX0 3 "_law_pick" s__law_pick ["state", "some"] (spPick K)) :
    Df P w K mg base CX0 5 "_law_mk_bad_deeds" s__law_mk_bad_deeds ["state"] (spBadDeeds K) := by
  refine mk0 R sc__law_mk_bad_deeds bd__law_mk_bad_deeds (fun vs H Q E h => ?_) fun f cdv A outer sh H vs Q E hr h => ?_
  · obtain ⟨s, g, c, m, rfl, _⟩ := h; rfl
  obtain ⟨s, g, c, m, rfl, hS, hm, q⟩ := h
  refine ⟨_, (pss_one (ps_ret (pe_d D__law_pick hr (by decide) (by rfl) pass0 (pa_cons (pv 0) (pa_cons (pe_lst (pa_cons pe_non (pa_cons pe_int (pa_cons pe_int (pa_cons (pe_un un_neg pe_int) (pa_cons pe_bl (pa_cons pe_str (pa_cons (pe_tup (pa_cons pe_int pa_nil)) (pa_cons (pe_lst (pa_cons pe_int pa_nil)) pa_nil))))))))) pa_nil))))), ?_⟩
  walk_at "rd"
  refine ⟨lz (by simp), fun p1 h1 => ?_⟩
  obtain ⟨s1, e1⟩ := new_at (o := .tup [.int 2]) h1
  walk_at "rd"
  generalize upd H p1 (.tup [.int 2]) = H1 at s1 e1 ⊢
  refine ⟨lz (by simp), fun p2 h2 => ?_⟩
  obtain ⟨s2, e2⟩ := new_at (o := .lst [.int 1]) h2
  walk_at "rd"
  generalize upd H1 p2 (.lst [.int 1]) = H2 at s2 e2 ⊢
  refine ⟨lz (by simp), fun p3 h3 => ?_⟩
  obtain ⟨s3, e3⟩ := new_at (o := .lst [.non, .int 0, .int 5, .int (-1), .bl true, .str "2", .ref p1, .ref p2]) h3
  walk_at "rd"
  generalize upd H2 p3 (.lst [.non, .int 0, .int 5, .int (-1), .bl true, .str "2", .ref p1, .ref p2]) = H3 at s3 e3 ⊢
  have a2 := s3 _ _ e2
  have a1 := s3 _ _ (s2 _ _ e1)
  have n1 := hS.ne_n h1
  have n2 := (hS.same s1).ne_n h2
  have sA := (s1.trans s2).trans s3
  refine ⟨s, g, c, p3, m, _, rfl, hS.same sA, by omega, .inl (.inl e3), (hS.same (s1.trans s2)).ne_n h3, by simp, by simp, fun x H' hx S4 k4 => ?_⟩
  have key : ∃ d, Rp K H3 x d ∧ d.from 1 4 = false ∧ x ≠ .ref g := by
    simp only [List.mem_cons, List.not_mem_nil, or_false] at hx
    rcases hx with rfl | rfl | rfl | rfl | rfl | rfl | rfl | rfl
    · exact ⟨.flat _, ⟨rfl, rfl⟩, rfl, by intro z; cases z⟩
    · exact ⟨.flat _, ⟨rfl, rfl⟩, rfl, by intro z; cases z⟩
    · exact ⟨.flat _, ⟨rfl, rfl⟩, rfl, by intro z; cases z⟩
    · exact ⟨.flat _, ⟨rfl, rfl⟩, rfl, by intro z; cases z⟩
    · exact ⟨.flat _, ⟨rfl, rfl⟩, rfl, by intro z; cases z⟩
    · exact ⟨.flat _, ⟨rfl, rfl⟩, rfl, by intro z; cases z⟩
    · exact ⟨.tup [.int 2], ⟨p1, rfl, .inl (.inl a1), rfl⟩, rfl, by intro z; cases z; exact n1 rfl⟩
    · exact ⟨.lst [.int 1], ⟨p2, rfl, .inl (.inl a2)⟩, rfl, by intro z; cases z; exact n2 rfl⟩
  obtain ⟨d, r1, r2, r3⟩ := key
  exact q x d H' (k4.rp (hS.same sA) r1 r3) r2 r3 S4 ((XE.Kept.of sA).trans k4)
def spBadRow (K : PySem.W.Frag) : Sp := fun vs H Q _ => ∃ (s g c : Addr) (m : Nat) (n : Int), vs = [.ref s, .int n] ∧ StAt m H s g c ∧ m < 100000 ∧ 1 ≤ n ∧ n ≤ 4 ∧
  ∀ v d H', Rp K H' v d → d.row n = false → v ≠ .ref g → StAt (m + 1) H' s g c → XE.Kept s g H H' → Q v H'
abbrev s__law_mk_bad_row : Stmt := top 50
abbrev N__law_mk_bad_row : List Str := ["state", "deeds", "some"]
theorem sc__law_mk_bad_row : FnScope ["state", "deeds", "some"] ["state", "deeds"] (defScope s__law_mk_bad_row) := ⟨rfl, rfl, rfl, by decide +kernel, rfl, by decide +kernel, by decide +kernel⟩
theorem bd__law_mk_bad_row : Bnd s__law_mk_bad_row "_law_mk_bad_row" ["state", "deeds"] := fun _ _ _ _ _ _ us hl => match us, hl with | [_, _], _ => rfl

theorem d__law_mk_bad_row (T : Bs K mg) (R : Rw K mg "_law_mk_bad_row" s__law_mk_bad_row) (D__law_pick : Df P w K mg base CX0 3 "_law_pick" s__law_pick ["state", "some"] (spPick K)) :
    Df P w K mg base CX0 5 "_law_mk_bad_row" s__law_mk_bad_row ["state", "deeds"] (spBadRow K) := by
  refine mk0 R sc__law_mk_bad_row bd__law_mk_bad_row (fun vs H Q E h => ?_) fun f cdv A outer sh H vs Q E hr h => ?_
  · obtain ⟨s, g, c, m, n, rfl, _⟩ := h; rfl
  obtain ⟨s, g, c, m, n, rfl, hS, hm, n1, n4, q⟩ := h
  refine ⟨_, (pss_cons (ps_set (i := 2) sc__law_mk_bad_row.nd rfl (Or.inl rfl) (pe_lst (pa_cons pe_non (pa_cons (pe_lst (pa_cons pe_int pa_nil)) (pa_cons pe_int (pa_cons pe_str (pa_cons (pe_tup (pa_cons pe_int pa_nil)) (pa_cons (pe_tup (pa_cons (pe_op op_addU (pv 1) pe_int) pa_nil)) (pa_cons (pe_tup (pa_cons pe_int (pa_cons pe_int pa_nil))) (pa_cons (pe_tup (pa_cons pe_bl pa_nil)) (pa_cons (pe_tup (pa_cons pe_str pa_nil)) (pa_cons (pe_tup (pa_cons pe_int (pa_cons pe_non pa_nil))) (pa_cons (pe_tup (pa_cons (pe_op op_sub (pe_op op_sub pe_int (pv 1)) pe_int) pa_nil)) (pa_cons (pe_op op_mulU (pe_tup (pa_cons pe_int pa_nil)) pe_int) pa_nil))))))))))))))
      (pss_one (ps_ret (pe_d D__law_pick hr (by decide) (by rfl) pass0 (pa_cons (pv 0) (pa_cons (pv 2) pa_nil)))))), ?_⟩
  walk_at "rd"
  refine ⟨lz (by simp), fun p1 h1 => ?_⟩
  obtain ⟨s1, e1⟩ := new_at (o := .lst [.int 1]) h1
  walk_at "rd"
  generalize upd H p1 (.lst [.int 1]) = H1 at s1 e1 ⊢
  refine ⟨lz (by simp), fun p2 h2 => ?_⟩
  obtain ⟨s2, e2⟩ := new_at (o := .tup [.int 0]) h2
  walk_at "rd"
  generalize upd H1 p2 (.tup [.int 0]) = H2 at s2 e2 ⊢
  refine rd_addI ?_
  walk_at "rd"
  refine ⟨lz (by simp), fun p3 h3 => ?_⟩
  obtain ⟨s3, e3⟩ := new_at (o := .tup [.int (n + 1)]) h3
  walk_at "rd"
  generalize upd H2 p3 (.tup [.int (n + 1)]) = H3 at s3 e3 ⊢
  refine ⟨lz (by simp), fun p4 h4 => ?_⟩
  obtain ⟨s4, e4⟩ := new_at (o := .tup [.int 1, .int 0]) h4
  walk_at "rd"
  generalize upd H3 p4 (.tup [.int 1, .int 0]) = H4 at s4 e4 ⊢
  refine ⟨lz (by simp), fun p5 h5 => ?_⟩
  obtain ⟨s5, e5⟩ := new_at (o := .tup [.bl true]) h5
  walk_at "rd"
  generalize upd H4 p5 (.tup [.bl true]) = H5 at s5 e5 ⊢
  refine ⟨lz (by simp), fun p6 h6 => ?_⟩
  obtain ⟨s6, e6⟩ := new_at (o := .tup [.str "1"]) h6
  walk_at "rd"
  generalize upd H5 p6 (.tup [.str "1"]) = H6 at s6 e6 ⊢
  refine ⟨lz (by simp), fun p7 h7 => ?_⟩
  obtain ⟨s7, e7⟩ := new_at (o := .tup [.int 1, .non]) h7
  walk_at "rd"
  generalize upd H6 p7 (.tup [.int 1, .non]) = H7 at s7 e7 ⊢
  refine ⟨lz (by simp), fun p8 h8 => ?_⟩
  obtain ⟨s8, e8⟩ := new_at (o := .tup [.int (0 - n - 1)]) h8
  walk_at "rd"
  generalize upd H7 p8 (.tup [.int (0 - n - 1)]) = H8 at s8 e8 ⊢
  refine ⟨lz (by simp), fun p9 h9 => ?_⟩
  obtain ⟨s9, e9⟩ := new_at (o := .tup [.int 1]) h9
  walk_at "rd"
  generalize upd H8 p9 (.tup [.int 1]) = H9 at s9 e9 ⊢
  refine repN (.inl (.inl e9)) (by decide) (by decide) (by simp) (by simp) fun p10 H10 h10 s10 e10 => ?_
  walk_at "rd"
  refine ⟨lz (by simp), fun p11 h11 => ?_⟩
  obtain ⟨s11, e11⟩ := new_at (o := .lst [.non, .ref p1, .int 5, .str "a", .ref p2, .ref p3, .ref p4, .ref p5, .ref p6, .ref p7, .ref p8, .ref p10]) h11
  walk_at "rd"
  generalize upd H10 p11 (.lst [.non, .ref p1, .int 5, .str "a", .ref p2, .ref p3, .ref p4, .ref p5, .ref p6, .ref p7, .ref p8, .ref p10]) = H11 at s11 e11 ⊢
  have t9 := s9.trans (s10.trans s11)
  have t8 := s8.trans t9
  have t7 := s7.trans t8
  have t6 := s6.trans t7
  have t5 := s5.trans t6
  have t4 := s4.trans t5
  have t3 := s3.trans t4
  have t2 := s2.trans t3
  have tA := s1.trans t2
  have S1 := hS.same tA
  refine ⟨s, g, c, p11, m, _, rfl, S1, by omega, .inl (.inl e11), (hS.same (s1.trans (s2.trans (s3.trans (s4.trans (s5.trans (s6.trans (s7.trans (s8.trans (s9.trans s10)))))))))).ne_n h11, by simp, by simp, fun x H' hx S4 k4 => ?_⟩
  have key : ∃ d, Rp K H11 x d ∧ d.row n = false ∧ x ≠ .ref g := by
    have tup : ∀ {p : Addr} {xs : List V}, H11 p = some (.tup xs) → okB xs = true → (Dat.tup xs).row n = false → ∃ d, Rp K H11 (.ref p) d ∧ d.row n = false ∧ V.ref p ≠ .ref g := fun e h1 h2 =>
      ⟨.tup _, ⟨_, rfl, .inl (.inl e), h1⟩, h2, fun z => S1.ne_g e (by intro _ z; cases z) (V.ref.inj z)⟩
    simp only [List.mem_cons, List.not_mem_nil, or_false] at hx
    rcases hx with rfl | rfl | rfl | rfl | rfl | rfl | rfl | rfl | rfl | rfl | rfl | rfl
    · exact ⟨.flat _, ⟨rfl, rfl⟩, rfl, by intro z; cases z⟩
    · exact ⟨.lst [.int 1], ⟨p1, rfl, .inl (.inl (t2 _ _ e1))⟩, rfl, fun z => hS.ne_n h1 (V.ref.inj z)⟩
    · exact ⟨.flat _, ⟨rfl, rfl⟩, rfl, by intro z; cases z⟩
    · exact ⟨.flat _, ⟨rfl, rfl⟩, rfl, by intro z; cases z⟩
    · exact tup (t3 _ _ e2) rfl (by simp [Dat.row, letV])
    · exact tup (t4 _ _ e3) rfl (by simp [Dat.row, letV]; omega)
    · exact tup (t5 _ _ e4) rfl (by simp [Dat.row, letV])
    · exact tup (t6 _ _ e5) rfl (by simp [Dat.row, letV])
    · exact tup (t7 _ _ e6) rfl (by simp [Dat.row, letV])
    · exact tup (t8 _ _ e7) rfl (by simp [Dat.row, letV])
    · exact tup (t9 _ _ e8) rfl (by simp [Dat.row, letV]; omega)
    · obtain ⟨o, e, ho⟩ := e10
      exact ⟨.tup _, ⟨p10, rfl, .inl (.inr ⟨o, s11 _ _ e⟩), by decide⟩, by rfl, fun z => S1.ne_g (s11 _ _ e) (by intro _ z; cases z) (V.ref.inj z)⟩
  obtain ⟨d, r1, r2, r3⟩ := key
  exact q x d H' (k4.rp S1 r1 r3) r2 r3 S4 ((XE.Kept.of tA).trans k4)
end
end KP

set_option linter.all false
set_option maxRecDepth 100000
set_option maxHeartbeats 4000000
namespace KP
open PySem PySem.Spec PyProof.Rows L2 XA XB XC XD XM XE XF XG
local macro_rules | `(tactic| walk_at "rd") => `(tactic| repeat (first
  | (with_reducible refine rd_seq ?_) | (with_reducible refine rd_asg ?_) | ((with_reducible refine' rd_var ?hv ?_); (case hv => exact rfl)) | (with_reducible refine rd_c ?_) | (with_reducible refine rd_gn ?_)
  | (with_reducible refine rd_op ?_) | (with_reducible refine rd_un ?_) | (with_reducible refine rd_cons ?_) | (with_reducible refine rd_nil ?_) | (with_reducible refine rd_cl ?_) | (with_reducible refine rd_ck ?_) | (with_reducible refine rd_cb ?_)
  | (with_reducible refine rd_ret ?_) | (with_reducible refine rd_drop ?_) | (with_reducible refine rd_ifs ?_) | (with_reducible refine rd_if ?_) | (with_reducible refine rd_test ?_) | (with_reducible refine rd_tb ?_) | (with_reducible refine rd_and ?_) | (with_reducible refine rd_or ?_)
  | (with_reducible refine rd_not ?_) | (with_reducible refine rd_andV ?_) | (with_reducible refine rd_orV ?_) | (with_reducible refine rd_notV ?_) | (with_reducible refine rd_chain ?_) | (with_reducible refine rd_tup ?_) | (with_reducible refine rd_lst ?_)
  | (with_reducible refine rd_bm0 ?_) | (with_reducible refine rd_bm ?_) | (with_reducible refine rd_sl ?_) | (with_reducible refine rd_part ?_) | (with_reducible refine rd_nopart ?_) | (with_reducible refine rd_dget ?_) | (with_reducible refine rd_dput ?_)
  | (with_reducible refine rd_next ?_) | (with_reducible refine rd_lc ?_) | ((with_reducible refine' rd_aug ?hv ?_); (case hv => exact rfl)) | (with_reducible refine rd_cont ?_) | (with_reducible refine rd_gcons ?_) | (with_reducible refine rd_gnil ?_) | (with_reducible refine rd_ifT ?_) | (with_reducible refine rd_yes ?_) | (with_reducible refine rd_tru ?_) | (with_reducible refine rd_cntE ?_) | (with_reducible refine rd_rng1 ?_) | (with_reducible refine rd_lrg ?_) | (with_reducible refine rd_rg2 ?_) | (with_reducible refine rd_back ?_) | (with_reducible refine rd_disp ?_) | (with_reducible refine rd_prN ?_) | (with_reducible refine rd_prC ?_) | (with_reducible refine rd_par ?_) | (with_reducible refine rd_par3 ?_) | (with_reducible refine rd_two ?_) | (with_reducible refine rd_three ?_) | (with_reducible refine rd_one ?_) | (with_reducible refine rd_onei ?_) | (with_reducible refine rd_iL ?_) | (with_reducible refine rd_iT ?_) | (with_reducible refine rd_rng2 ?_) | (with_reducible refine rd_bl ?_) | (with_reducible refine rd_int ?_) | (with_reducible refine rd_I0 ?_) | (with_reducible refine rd_U ?_) | (with_reducible refine rd_din ?_) | (with_reducible refine rd_dnin ?_) | (with_reducible refine rd_dnew ?_) | (with_reducible refine rd_lset ?_) | (with_reducible refine rd_enT ?_) | (with_reducible refine rd_idx ?_) | (with_reducible refine rd_rg1 ?_) | (with_reducible refine rd_tupRg ?_)))

section
variable {P : Program} {w : World} {K : PySem.W.Frag} {mg : Str → Option Value} {base : Heap}
/-! ### _law_mr_whole -/
abbrev s__law_mr_whole : Stmt := top 52
abbrev N__law_mr_whole : List Str := ["thing"]
theorem sc__law_mr_whole : FnScope ["thing"] ["thing"] (defScope s__law_mr_whole) := ⟨rfl, rfl, rfl, by decide +kernel, rfl, by decide +kernel, by decide +kernel⟩
theorem bd__law_mr_whole : Bnd s__law_mr_whole "_law_mr_whole" ["thing"] := fun _ _ _ _ _ _ us hl => match us, hl with | [_], _ => rfl

theorem d__law_mr_whole (T : Bs K mg) (R : Rw K mg "_law_mr_whole" s__law_mr_whole) : Df P w K mg base CX0 1 "_law_mr_whole" s__law_mr_whole ["thing"] (spWhole K) := by
  refine mk0 R sc__law_mr_whole bd__law_mr_whole (fun vs H Q E h => ?_) fun f cdv A outer s H vs Q E hr h => ?_
  · obtain ⟨v, d, rfl, _⟩ := h; rfl
  obtain ⟨v, d, rfl, hv, q⟩ := h
  refine ⟨_, (pss_one (ps_ret (pe_and (pe_callB call_isU (by rfl) T.n_isinstance (by decide +kernel) (pa_cons (pv 0) (pa_cons (pe_bltn (v := .ty "int") (by rfl) T.n_int (by decide +kernel) rfl) pa_nil))) (pe_one (pe_not (pe_callB call_isU (by rfl) T.n_isinstance (by decide +kernel) (pa_cons (pv 0) (pa_cons (pe_bltn (v := .ty "bool") (by rfl) T.n_bool (by decide +kernel) rfl) pa_nil)))))))), ?_⟩
  walk_at "rd"
  refine rd_isT hv (kit_int d) ?_
  walk_at "rd"
  unfold Dat.whole at q
  refine rd_ite (fun e => ?_) fun e => ?_
  · walk_at "rd"
    refine rd_isT hv (kit_bool d) ?_
    walk_at "rd"
    rw [e] at q
    exact q
  · rw [e] at q
    exact q
/-! ### _law_mr_same -/
def spSame (K : PySem.W.Frag) : Sp := fun vs H Q _ => ∃ (a b : Addr) (xs ys : List Int), vs = [.ref a, .ref b] ∧ SqT K H a (xs.map V.int) ∧ SqT K H b (ys.map V.int) ∧ xs.length ≤ 10000 ∧ ∀ H', Same H H' → Q (.bl (decide (xs = ys))) H'
abbrev s__law_mr_same : Stmt := top 53
abbrev N__law_mr_same : List Str := ["found", "due", "item"]
theorem sc__law_mr_same : FnScope ["found", "due", "item"] ["found", "due"] (defScope s__law_mr_same) := ⟨rfl, rfl, rfl, by decide +kernel, rfl, by decide +kernel, by decide +kernel⟩
theorem bd__law_mr_same : Bnd s__law_mr_same "_law_mr_same" ["found", "due"] := fun _ _ _ _ _ _ us hl => match us, hl with | [_, _], _ => rfl

theorem d__law_mr_same (T : Bs K mg) (R : Rw K mg "_law_mr_same" s__law_mr_same) (D__law_mr_whole : Df P w K mg base CX0 1 "_law_mr_whole" s__law_mr_whole ["thing"] (spWhole K)) :
    Df P w K mg base CX0 2 "_law_mr_same" s__law_mr_same ["found", "due"] (spSame K) := by
  refine mk0 R sc__law_mr_same bd__law_mr_same (fun vs H Q E h => ?_) fun f cdv A outer s H vs Q E hr h => ?_
  · obtain ⟨a, b, xs, ys, rfl, _⟩ := h; rfl
  obtain ⟨a, b, xs, ys, rfl, ha, hb, hl, q⟩ := h
  refine ⟨_, (pss_one (ps_ret (pe_and (pe_callB call_isU (by rfl) T.n_isinstance (by decide +kernel) (pa_cons (pv 0) (pa_cons (pe_bltn (v := .ty "tuple") (by rfl) T.n_tuple (by decide +kernel) rfl) pa_nil))) (pe_and (pe_cmpR (op_eqU hr.units) (pe_lc (own := [("item", 2)]) rfl sc__law_mr_same.nd (pi_U (pv 0)) (blkOk_by (own := [("item", 2)]) (N := ["found", "due", "item"]) (sc := defScope s__law_mr_same) (by decide +kernel)) (fun _ _ _ _ _ => (pg_name (i := 2) sc__law_mr_same.nd rfl (Or.inl rfl))) (fun _ _ _ _ _ => pts_one (pt_not (show PT _ _ (tTru K _) from pt_tru (pe_d D__law_mr_whole hr (by decide) (by rfl) pass0 (pa_cons (pv 2) pa_nil)) (by intro _; rfl)))) (fun _ _ _ _ _ => pe_int)) (pe_lst pa_nil) (nomark _)) (pe_one (pe_cmpR (op_eqU hr.units) (pv 0) (pv 1) (nomark _))))))), ?_⟩
  walk_at "rd"
  refine rd_isT (d := .tup (xs.map V.int)) ⟨a, rfl, ha, okI (by omega)⟩ (kit_tuple _) ?_
  walk_at "rd"
  refine iteT ?_
  walk_at "rd"
  refine .inr ⟨.ref a, rfl, a, rfl, ⟨_, ha⟩, fun D hD => ?_⟩
  refine lc_pure walk_tup hD (xs.map V.int) (fun _ => false) (fun x => x) rfl (by rw [List.length_map]; omega) (fun H' e => sqT_same e ha) (fun i H x H' hi y => y) (fun x H4 hx e4 R R0 g1 g0 => ?_) fun H1 e1 hD' => ?_
  · obtain ⟨z, rfl⟩ := mem_i hx
    walk_at "rd"
    refine ⟨rfl, ?_⟩
    walk_at "rd"
    refine ⟨.int z, .flat (.int z), rfl, ⟨rfl, rfl⟩, ?_⟩
    walk_at "rd"
    refine truB ?_
    exact g0 rfl H4 (Same.refl _)
  · rw [show List.map (fun x => x) ((xs.map V.int).filter fun _ => false) = ([] : List Int).map V.int by simp] at hD'
    walk_at "rd"
    refine ⟨lz (by simp), fun p2 h2 => ?_⟩
    obtain ⟨s2, e2⟩ := new_at (o := .lst []) h2
    generalize upd H1 p2 (.lst []) = H2 at s2 e2 ⊢
    refine eqL (xs := []) (ys := []) (.inl (.inl (s2 _ _ hD'))) (.inl (.inl e2)) ?_
    walk_at "rd"
    refine iteT ?_
    walk_at "rd"
    exact eqT (sqT_same (e1.trans s2) ha) (sqT_same (e1.trans s2) hb) (q _ (e1.trans s2))
/-! ### _law_mr_times -/
def spMrTimes (K : PySem.W.Frag) : Sp := fun vs H Q _ => ∃ (a : Addr) (xs : List Int) (m : Int), vs = [.ref a, .int m] ∧ SqT K H a (xs.map V.int) ∧ xs.length ≤ 200 ∧ -20 ≤ m ∧ m ≤ 20 ∧ ∀ p H', Same H H' → Tp H' p ((times xs m).map V.int) → Q (.ref p) H'
abbrev s__law_mr_times : Stmt := top 54
abbrev N__law_mr_times : List Str := ["row", "many", "one"]
theorem sc__law_mr_times : FnScope ["row", "many", "one"] ["row", "many"] (defScope s__law_mr_times) := ⟨rfl, rfl, rfl, by decide +kernel, rfl, by decide +kernel, by decide +kernel⟩
theorem bd__law_mr_times : Bnd s__law_mr_times "_law_mr_times" ["row", "many"] := fun _ _ _ _ _ _ us hl => match us, hl with | [_, _], _ => rfl

theorem d__law_mr_times (T : Bs K mg) (R : Rw K mg "_law_mr_times" s__law_mr_times) (D__law_mk_plain : Df P w K mg base CX0 1 "_law_mk_plain" s__law_mk_plain ["letters"] (spPlain K))
    (D__law_mk_undone : Df P w K mg base CX0 1 "_law_mk_undone" s__law_mk_undone ["row"] (spUndone K)) : Df P w K mg base CX0 2 "_law_mr_times" s__law_mr_times ["row", "many"] (spMrTimes K) := by
  refine mk0 R sc__law_mr_times bd__law_mr_times (fun vs H Q E h => ?_) fun f cdv A outer s H vs Q E hr h => ?_
  · obtain ⟨a, xs, m, rfl, _⟩ := h; rfl
  obtain ⟨a, xs, m, rfl, ha, hl, m0, m1, q⟩ := h
  refine ⟨_, (pss_cons (ps_set (i := 2) sc__law_mr_times.nd rfl (Or.inl rfl) (pe_ifExp (pt_cmpR op_ge (pv 1) pe_int (nomark _)) (pv 0) (pe_d D__law_mk_undone hr (by decide) (by rfl) pass0 (pa_cons (pv 0) pa_nil))))
      (pss_one (ps_ret (pe_d D__law_mk_plain hr (by decide) (by rfl) pass0 (pa_cons (pe_op op_mulU (pv 2) (pe_callB call_abs (by rfl) T.n_abs (by decide +kernel) (pa_cons (pv 1) pa_nil))) pa_nil))))), ?_⟩
  walk_at "rd"
  unfold times at q
  refine rd_ite (fun e => ?_) fun e => ?_
  · have e := of_decide_eq_true e
    rw [if_neg (by omega)] at q
    walk_at "rd"
    refine repS ha (by omega) (by omega) (by rw [List.length_map]; omega) fun p H1 s1 t1 => ?_
    rw [flat_map] at t1
    walk_at "rd"
    rw [show (if m < 0 then -m else m) = m by omega] at t1
    refine ⟨p, rep m xs, rfl, t1, ?_, fun p2 H2 s2 t2 => q p2 H2 (s1.trans s2) t2⟩
    unfold rep
    rw [flat_len]
    have a1 : m.toNat * xs.length ≤ 20 * 200 := Nat.mul_le_mul (by omega) (by omega)
    omega
  · have e := of_decide_eq_false e
    rw [if_pos (by omega)] at q
    walk_at "rd"
    refine ⟨a, xs, rfl, ha, by omega, fun p1 H1 s1 t1 => ?_⟩
    have l4 := inv_len xs
    walk_at "rd"
    refine repS t1.sqT (by omega) (by omega) (by rw [List.length_map]; omega) fun p H2 s2 t2 => ?_
    rw [flat_map] at t2
    walk_at "rd"
    rw [show (if m < 0 then -m else m) = -m by omega] at t2
    refine ⟨p, rep (-m) (inv xs), rfl, t2, ?_, fun p3 H3 s3 t3 => q p3 H3 (s1.trans (s2.trans s3)) t3⟩
    unfold rep
    rw [flat_len, l4]
    have a1 : (-m).toNat * xs.length ≤ 20 * 200 := Nat.mul_le_mul (by omega) (by omega)
    omega
/-! ### _law_mr_turned -/
def turned (xs by_ : List Int) : List Int := red (by_ ++ xs ++ inv by_)
def spTurned (K : PySem.W.Frag) : Sp := fun vs H Q _ => ∃ (a b : Addr) (xs ys : List Int), vs = [.ref a, .ref b] ∧ SqT K H a (xs.map V.int) ∧ SqT K H b (ys.map V.int) ∧ xs.length ≤ 1000 ∧ ys.length ≤ 1000 ∧ ∀ p H', Same H H' → Tp H' p ((turned xs ys).map V.int) → Q (.ref p) H'
/-! ### turned -/
abbrev s__law_mr_turned : Stmt := top 55
abbrev N__law_mr_turned : List Str := ["row", "by"]
theorem sc__law_mr_turned : FnScope ["row", "by"] ["row", "by"] (defScope s__law_mr_turned) := ⟨rfl, rfl, rfl, by decide +kernel, rfl, by decide +kernel, by decide +kernel⟩
theorem bd__law_mr_turned : Bnd s__law_mr_turned "_law_mr_turned" ["row", "by"] := fun _ _ _ _ _ _ us hl => match us, hl with | [_, _], _ => rfl

theorem d__law_mr_turned (T : Bs K mg) (R : Rw K mg "_law_mr_turned" s__law_mr_turned) (D__law_mk_plain : Df P w K mg base CX0 1 "_law_mk_plain" s__law_mk_plain ["letters"] (spPlain K))
    (D__law_mk_undone : Df P w K mg base CX0 1 "_law_mk_undone" s__law_mk_undone ["row"] (spUndone K)) : Df P w K mg base CX0 2 "_law_mr_turned" s__law_mr_turned ["row", "by"] (spTurned K) := by
  refine mk0 R sc__law_mr_turned bd__law_mr_turned (fun vs H Q E h => ?_) fun f cdv A outer s H vs Q E hr h => ?_
  · obtain ⟨a, b, xs, ys, rfl, _⟩ := h; rfl
  obtain ⟨a, b, xs, ys, rfl, ha, hb, la, lb, q⟩ := h
  refine ⟨_, (pss_one (ps_ret (pe_d D__law_mk_plain hr (by decide) (by rfl) pass0 (pa_cons (pe_op op_addU (pe_op op_addU (pv 1) (pv 0)) (pe_d D__law_mk_undone hr (by decide) (by rfl) pass0 (pa_cons (pv 1) pa_nil))) pa_nil)))), ?_⟩
  walk_at "rd"
  refine catS hb ha (by simp only [List.length_map]; omega) fun p1 H1 s1 t1 => ?_
  walk_at "rd"
  refine ⟨b, ys, rfl, sqT_same s1 hb, by omega, fun p2 H2 s2 t2 => ?_⟩
  have l4 := inv_len ys
  walk_at "rd"
  refine catS (sqT_same s2 t1) t2.sqT (by simp only [List.length_append, List.length_map]; omega) fun p3 H3 s3 t3 => ?_
  walk_at "rd"
  exact ⟨p3, ys ++ xs ++ inv ys, rfl, by rw [List.map_append, List.map_append]; exact t3, by simp only [List.length_append]; omega, fun p4 H4 s4 t4 => q p4 H4 (s1.trans (s2.trans (s3.trans s4))) t4⟩
/-! ### own: letters of rows -/
theorem LetS.red {n : Int} {xs : List Int} (h : LetS n xs) : LetS n (red xs) := fun x hx => h x (red_mem hx)
theorem LetS.inv {n : Int} {xs : List Int} (h : LetS n xs) : LetS n (inv xs) := fun x hx => by
  obtain ⟨y, hy, rfl⟩ := List.mem_map.mp hx
  have := h y (List.mem_reverse.mp hy)
  omega
theorem LetS.app {n : Int} {xs ys : List Int} (h : LetS n xs) (h2 : LetS n ys) : LetS n (xs ++ ys) := fun x hx => (List.mem_append.mp hx).elim (h x) (h2 x)
theorem LetS.rep {n k : Int} {xs : List Int} (h : LetS n xs) : LetS n (rep k xs) := fun x hx => by
  obtain ⟨l, hl, h2⟩ := List.mem_flatten.mp hx
  rw [(List.mem_replicate.mp hl).2] at h2
  exact h x h2
theorem LetS.times {n k : Int} {xs : List Int} (h : LetS n xs) : LetS n (times xs k) := by
  unfold KP.times
  split
  · exact h.inv.rep.red
  · exact h.rep.red
theorem LetS.turned {n : Int} {xs ys : List Int} (h : LetS n xs) (h2 : LetS n ys) : LetS n (turned xs ys) := ((h2.app h).app h2.inv).red
theorem LetS.row {n : Int} {xs : List Int} (h : LetS n xs) (l : xs.length ≤ 200) : (Dat.tup (xs.map V.int)).row n = true := by
  unfold Dat.row
  simp only [Bool.and_eq_true, decide_eq_true_eq, List.length_map, List.all_map, List.all_eq_true]
  refine ⟨l, fun x hx => ?_⟩
  have := h x hx
  simp [letV, this]
/-! ### _law_mr_row -/
def spMrRow (K : PySem.W.Frag) : Sp := fun vs H Q _ => ∃ (s g c : Addr) (m : Nat) (n : Int), vs = [.ref s, .int n] ∧ StAt m H s g c ∧ m < 50000 ∧ 1 ≤ n ∧ n ≤ 4 ∧
  ∀ p xs H', StAt (m + 60) H' s g c → XE.Kept s g H H' → Tp H' p (xs.map V.int) → xs.length ≤ 18 → LetS n xs → Q (.ref p) H'
abbrev s__law_mr_row : Stmt := top 56
abbrev N__law_mr_row : List Str := ["state", "deeds", "way", "found"]
theorem sc__law_mr_row : FnScope ["state", "deeds", "way", "found"] ["state", "deeds"] (defScope s__law_mr_row) := ⟨rfl, rfl, rfl, by decide +kernel, rfl, by decide +kernel, by decide +kernel⟩
theorem bd__law_mr_row : Bnd s__law_mr_row "_law_mr_row" ["state", "deeds"] := fun _ _ _ _ _ _ us hl => match us, hl with | [_, _], _ => rfl

theorem d__law_mr_row (T : Bs K mg) (R : Rw K mg "_law_mr_row" s__law_mr_row) (D__law_draw : Df P w K mg base CX0 2 "_law_draw" s__law_draw ["state", "room"] (spDraw K)) (D__law_mk_row : Df P w K mg base CX0 5 "_law_mk_row" s__law_mk_row ["state", "deeds", "least", "most"] (spMkRow K))
    (D__law_mk_raw : Df P w K mg base CX0 5 "_law_mk_raw" s__law_mk_raw ["state", "deeds", "row"] (spMkRaw K)) (D__law_mr_times : Df P w K mg base CX0 2 "_law_mr_times" s__law_mr_times ["row", "many"] (spMrTimes K))
    (D__law_mr_turned : Df P w K mg base CX0 2 "_law_mr_turned" s__law_mr_turned ["row", "by"] (spTurned K)) : Df P w K mg base CX0 6 "_law_mr_row" s__law_mr_row ["state", "deeds"] (spMrRow K) := by
  refine mk0 R sc__law_mr_row bd__law_mr_row (fun vs H Q E h => ?_) fun f cdv A outer sh H vs Q E hr h => ?_
  · obtain ⟨s, g, c, m, n, rfl, _⟩ := h; rfl
  obtain ⟨s, g, c, m, n, rfl, hS, hm, n1, n4, q⟩ := h
  refine ⟨_, (pss_cons (ps_set (i := 2) sc__law_mr_row.nd rfl (Or.inl rfl) (pe_d D__law_draw hr (by decide) (by rfl) pass0 (pa_cons (pv 0) (pa_cons pe_int pa_nil))))
      (pss_cons (ps_if (pt_cmpR (op_eqU hr.units) (pv 2) pe_int (nomark _)) (pss_one (ps_set (i := 3) sc__law_mr_row.nd rfl (Or.inl rfl) (pe_d D__law_mr_times hr (by decide) (by rfl) pass0 (pa_cons (pe_d D__law_mk_row hr (by decide) (by rfl) pass0 (pa_cons (pv 0) (pa_cons (pv 1) (pa_cons pe_int (pa_cons pe_int pa_nil))))) (pa_cons (pe_op op_addU pe_int (pe_d D__law_draw hr (by decide) (by rfl) pass0 (pa_cons (pv 0) (pa_cons pe_int pa_nil)))) pa_nil))))) (pss_one (ps_if (pt_cmpR (op_eqU hr.units) (pv 2) pe_int (nomark _)) (pss_one (ps_set (i := 3) sc__law_mr_row.nd rfl (Or.inl rfl) (pe_d D__law_mr_turned hr (by decide) (by rfl) pass0 (pa_cons (pe_d D__law_mk_row hr (by decide) (by rfl) pass0 (pa_cons (pv 0) (pa_cons (pv 1) (pa_cons pe_int (pa_cons pe_int pa_nil))))) (pa_cons (pe_d D__law_mk_row hr (by decide) (by rfl) pass0 (pa_cons (pv 0) (pa_cons (pv 1) (pa_cons pe_int (pa_cons pe_int pa_nil))))) pa_nil))))) (pss_one (ps_set (i := 3) sc__law_mr_row.nd rfl (Or.inl rfl) (pe_d D__law_mk_row hr (by decide) (by rfl) pass0 (pa_cons (pv 0) (pa_cons (pv 1) (pa_cons pe_int (pa_cons pe_int pa_nil))))))))))
      (pss_one (ps_ret (pe_d D__law_mk_raw hr (by decide) (by rfl) pass0 (pa_cons (pv 0) (pa_cons (pv 1) (pa_cons (pv 3) pa_nil)))))))), ?_⟩
  walk_at "rd"
  refine ⟨s, g, c, m, 6, rfl, hS, by omega, by omega, by omega, fun r H1 r0 r1 S1 k1 => ?_⟩
  walk_at "rd"
  refine rd_eqI ?_
  walk_at "rd"
  have fin : ∀ (p : Addr) (xs : List Int) (H2 : Hp), StAt (m + 50) H2 s g c → XE.Kept s g H H2 → SqT K H2 p (xs.map V.int) → xs.length ≤ 14 → LetS n xs → spMkRaw K [.ref s, .int n, .ref p] H2 Q E0 := fun p xs H2 S2 k2 t2 l2 e2 =>
    ⟨s, g, c, p, m + 50, n, xs, rfl, S2, by omega, n1, n4, t2, by omega, e2, fun p3 ys H3 S3 k3 t3 l3 e3 => q p3 ys H3 S3 (k2.trans k3) t3 (by omega) e3⟩
  refine rd_ite (fun e => ?_) fun e => ?_
  · walk_at "rd"
    refine ⟨s, g, c, m + 1, n, 1, 3, rfl, S1, by omega, n1, n4, by omega, by omega, by omega, fun p xs H2 S2 k2 t2 l2 _ e2 => ?_⟩
    walk_at "rd"
    refine ⟨s, g, c, m + 1 + 21, 3, rfl, S2, by omega, by omega, by omega, fun r2 H3 a0 a1 S3 k3 => ?_⟩
    refine rd_addI ?_
    walk_at "rd"
    refine ⟨p, xs, 2 + r2, rfl, (k3.tp S2 t2).sqT, by omega, by omega, by omega, fun p4 H4 s4 t4 => ?_⟩
    walk_at "rd"
    refine fin p4 _ H4 ((S3.same s4).mono (by omega)) (((k1.trans k2).trans k3).trans (.of s4)) t4.sqT ?_ e2.times
    unfold times
    rw [if_neg (by omega)]
    have h1 := red_len (rep (2 + r2) xs)
    have h2 : (rep (2 + r2) xs).length = (2 + r2).toNat * xs.length := flat_len _ _
    have h3 : (2 + r2).toNat * xs.length ≤ 4 * 3 := Nat.mul_le_mul (by omega) (by omega)
    omega
  · walk_at "rd"
    refine rd_eqI ?_
    walk_at "rd"
    refine rd_ite (fun e => ?_) fun e => ?_
    · walk_at "rd"
      refine ⟨s, g, c, m + 1, n, 0, 5, rfl, S1, by omega, n1, n4, by omega, by omega, by omega, fun p xs H2 S2 k2 t2 l2 _ e2 => ?_⟩
      walk_at "rd"
      refine ⟨s, g, c, m + 1 + 21, n, 1, 3, rfl, S2, by omega, n1, n4, by omega, by omega, by omega, fun p3 ys H3 S3 k3 t3 l3 _ e3 => ?_⟩
      walk_at "rd"
      refine ⟨p, p3, xs, ys, rfl, (k3.tp S2 t2).sqT, t3.sqT, by omega, by omega, fun p4 H4 s4 t4 => ?_⟩
      walk_at "rd"
      refine fin p4 _ H4 ((S3.same s4).mono (by omega)) (((k1.trans k2).trans k3).trans (.of s4)) t4.sqT ?_ (e2.turned e3)
      unfold turned
      have h1 := red_len (ys ++ xs ++ inv ys)
      simp only [List.length_append, inv_len] at h1
      omega
    · walk_at "rd"
      refine ⟨s, g, c, m + 1, n, 0, 7, rfl, S1, by omega, n1, n4, by omega, by omega, by omega, fun p xs H2 S2 k2 t2 l2 _ e2 => ?_⟩
      walk_at "rd"
      exact fin p xs H2 (S2.mono (by omega)) (k1.trans k2) t2.sqT (by omega) e2
end
end KP

set_option linter.all false
set_option maxRecDepth 100000
set_option maxHeartbeats 4000000
namespace KP
open PySem PySem.Spec PyProof.Rows L2 XA XB XC XD XM XE XF XG XV
local macro_rules | `(tactic| walk_at "rd") => `(tactic| repeat (first
  | (with_reducible refine rd_seq ?_) | (with_reducible refine rd_asg ?_) | ((with_reducible refine' rd_var ?hv ?_); (case hv => exact rfl)) | (with_reducible refine rd_c ?_) | (with_reducible refine rd_gn ?_)
  | (with_reducible refine rd_op ?_) | (with_reducible refine rd_un ?_) | (with_reducible refine rd_cons ?_) | (with_reducible refine rd_nil ?_) | (with_reducible refine rd_cl ?_) | (with_reducible refine rd_ck ?_) | (with_reducible refine rd_cb ?_)
  | (with_reducible refine rd_ret ?_) | (with_reducible refine rd_drop ?_) | (with_reducible refine rd_ifs ?_) | (with_reducible refine rd_if ?_) | (with_reducible refine rd_test ?_) | (with_reducible refine rd_tb ?_) | (with_reducible refine rd_and ?_) | (with_reducible refine rd_or ?_)
  | (with_reducible refine rd_not ?_) | (with_reducible refine rd_andV ?_) | (with_reducible refine rd_orV ?_) | (with_reducible refine rd_notV ?_) | (with_reducible refine rd_chain ?_) | (with_reducible refine rd_tup ?_) | (with_reducible refine rd_lst ?_)
  | (with_reducible refine rd_bm0 ?_) | (with_reducible refine rd_bm ?_) | (with_reducible refine rd_sl ?_) | (with_reducible refine rd_part ?_) | (with_reducible refine rd_nopart ?_) | (with_reducible refine rd_dget ?_) | (with_reducible refine rd_dput ?_)
  | (with_reducible refine rd_next ?_) | (with_reducible refine rd_lc ?_) | ((with_reducible refine' rd_aug ?hv ?_); (case hv => exact rfl)) | (with_reducible refine rd_cont ?_) | (with_reducible refine rd_gcons ?_) | (with_reducible refine rd_gnil ?_) | (with_reducible refine rd_ifT ?_) | (with_reducible refine rd_yes ?_) | (with_reducible refine rd_tru ?_) | (with_reducible refine rd_cntE ?_) | (with_reducible refine rd_rng1 ?_) | (with_reducible refine rd_lrg ?_) | (with_reducible refine rd_rg2 ?_) | (with_reducible refine rd_back ?_) | (with_reducible refine rd_disp ?_) | (with_reducible refine rd_prN ?_) | (with_reducible refine rd_prC ?_) | (with_reducible refine rd_par ?_) | (with_reducible refine rd_par3 ?_) | (with_reducible refine rd_two ?_) | (with_reducible refine rd_three ?_) | (with_reducible refine rd_one ?_) | (with_reducible refine rd_onei ?_) | (with_reducible refine rd_iL ?_) | (with_reducible refine rd_iT ?_) | (with_reducible refine rd_rng2 ?_) | (with_reducible refine rd_bl ?_) | (with_reducible refine rd_int ?_) | (with_reducible refine rd_I0 ?_) | (with_reducible refine rd_U ?_) | (with_reducible refine rd_din ?_) | (with_reducible refine rd_dnin ?_) | (with_reducible refine rd_dnew ?_) | (with_reducible refine rd_lset ?_) | (with_reducible refine rd_enT ?_) | (with_reducible refine rd_idx ?_) | (with_reducible refine rd_rg1 ?_) | (with_reducible refine rd_tupRg ?_)))

section
variable {P : Program} {w : World} {K : PySem.W.Frag} {mg : Str → Option Value} {base : Heap}
/-! ### own: rows -/
def RowsD (n : Int) (d : Dat2) (rs : List (List Int)) : Prop := (d = .tups (rs.map fun r => .tup (r.map V.int)) ∨ d = .lsts (rs.map fun r => .tup (r.map V.int))) ∧ rs.length ≤ 6 ∧ ∀ r ∈ rs, (Dat.tup (r.map V.int)).row n = true
/-- no tuple, no list in one -/
def Dat2.shp : Dat2 → Prop
  | .one d => d.isT = false ∧ Dat.isL d = false
  | _ => True
def spRows (K : PySem.W.Frag) : Sp := fun vs H Q E => ∃ (n : Int) (v : V) (d : Dat2), vs = [.int n, v] ∧ Rp2 K H v d ∧ Dat2.shp d ∧
  (∀ rs, RowsD n d rs → ∀ p ps H', Same H H' → H p = none → H' p = some (.lst (ps.map V.ref)) → Tups K H' ps (rs.map red) → Q (.ref p) H') ∧ ((∀ rs, ¬ RowsD n d rs) → ∀ H', Same H H' → E (.ref (He.ga K "BadRows")) none H')
theorem rows_all {n : Int} : ∀ {ds : List Dat}, (∀ d ∈ ds, d.row n = true) → ∃ rs : List (List Int), ds = rs.map (fun r => Dat.tup (r.map V.int)) ∧ ∀ r ∈ rs, (Dat.tup (r.map V.int)).row n = true
  | [], _ => ⟨[], rfl, fun _ h => nomatch h⟩
  | d :: ds, h => by
    obtain ⟨rs, e, m⟩ := rows_all (ds := ds) fun x hx => h x (by simp [hx])
    obtain ⟨xs, e2, _⟩ := Dat.row_ints (h d (by simp))
    refine ⟨xs :: rs, by rw [e, e2] <;> rfl, fun r hr => ?_⟩
    rcases List.mem_cons.mp hr with z | z
    · rw [z, ← e2]; exact h d (by simp)
    · exact m r z
theorem tup_upd {H : Hp} {D : Addr} {acc : List V} {o : HO} {p : Addr} {xs : List V} (e : H D = some (.lst acc)) (h : SqT K H p xs) : SqT K (upd H D o) p xs := by
  rcases h with (h | ⟨u, h⟩) | h
  · exact .inl (.inl (by rw [upd_ne (ne_of h e (by intro z; cases z))]; exact h))
  · exact .inl (.inr ⟨u, by rw [upd_ne (ne_of h e (by intro z; cases z))]; exact h⟩)
  · exact .inr h
theorem tups_list : ∀ {ys : List V} {xss : List (List Int)} {H : Hp}, ys.length = xss.length → (∀ (i : Nat) (y : V), ys[i]? = some y → ∃ (p : Addr) (xs : List Int), y = V.ref p ∧ xss[i]? = some xs ∧ SqT K H p (xs.map V.int)) → ∃ ps : List Addr, ys = ps.map V.ref ∧ Tups K H ps xss
  | [], [], _, _, _ => ⟨[], rfl, .nil⟩
  | y :: ys, xs :: xss, H, hl, h => by
    obtain ⟨p, xs', e1, e2, e3⟩ := h 0 y rfl
    cases e2
    obtain ⟨ps, e4, t⟩ := tups_list (ys := ys) (xss := xss) (H := H) (by simpa using hl) fun i z hz => by
      obtain ⟨p, xs', a, b, c⟩ := h (i + 1) z (by simpa using hz)
      exact ⟨p, xs', a, by simpa using b, c⟩
    exact ⟨p :: ps, by rw [e1, e4] <;> rfl, .cons e3 t⟩
theorem prs_get {H : Hp} : ∀ {vs : List V} {ds : List Dat}, Paired (Rp K H) vs ds → ∀ {i : Nat} {v : V}, vs[i]? = some v → ∃ d, ds[i]? = some d ∧ Rp K H v d
  | [], [], _, i, v, h => by simp at h
  | v :: vs, d :: ds, .cons a b, 0, w, h => ⟨d, rfl, by simp at h; exact h ▸ a⟩
  | v :: vs, d :: ds, .cons a b, i + 1, w, h => by
    obtain ⟨d', e, q⟩ := prs_get b (i := i) (v := w) (by simpa using h)
    exact ⟨d', by simpa using e, q⟩
/-! ### taken_rows -/
abbrev s_taken_rows : Stmt := top 24
abbrev N_taken_rows : List Str := ["deeds", "rows", "row"]
theorem sc_taken_rows : FnScope ["deeds", "rows", "row"] ["deeds", "rows"] (defScope s_taken_rows) := ⟨rfl, rfl, rfl, by decide +kernel, rfl, by decide +kernel, by decide +kernel⟩
theorem bd_taken_rows : Bnd s_taken_rows "taken_rows" ["deeds", "rows"] := fun _ _ _ _ _ _ us hl => match us, hl with | [_, _], _ => rfl

theorem d_taken_rows (T : Bs K mg) (R : Rw K mg "taken_rows" s_taken_rows) (D_is_letter_row : Df P w K mg base CX0 5 "is_letter_row" s_is_letter_row ["deeds", "value"] (spLRow K))
    (D_plain_letters : Df P w K mg base CX0 1 "plain_letters" s_plain_letters ["letters"] (spPlain K)) : Df P w K mg base (L2.CX P w) 6 "taken_rows" s_taken_rows ["deeds", "rows"] (spRows K) := by
  refine mkX R sc_taken_rows bd_taken_rows (fun vs H Q E h => ?_) fun f cdv A outer s H vs Q E hr h => ?_
  · obtain ⟨n, v, d, rfl, _⟩ := h; rfl
  obtain ⟨n, v, d, rfl, hv, hs, q1, q0⟩ := h
  refine ⟨_, (pss_cons (ps_if (PW.pt (pw_or (pt_not (pt_tru (pe_callB XQ.call_isV (by rfl) T.n_isinstance (by decide +kernel) (pa_cons (pv 1) (pa_cons (pe_tup (pa_cons (pe_bltn (v := .ty "list") (by rfl) T.n_list (by decide +kernel) rfl) (pa_cons (pe_bltn (v := .ty "tuple") (by rfl) T.n_tuple (by decide +kernel) rfl) pa_nil))) pa_nil))) (by intro _; rfl))) (pw_or1 (pt_cmpR op_gt (pe_callB call_len (by rfl) T.n_len (by decide +kernel) (pa_cons (pv 1) pa_nil)) (pe_gi T.c_MOST_ROWS (by rfl)) (nomark _))))) (pss_one (ps_raiseX T.x_BadRows (by rfl) (pe_joined (.cons pe_str (.cons (pe_fmt (pe_gi T.c_MOST_ROWS (by rfl))) (.cons pe_str .nil)))) (still3 (by decide +kernel) (by decide) (by decide +kernel) (by decide +kernel)) (takes_of rfl rfl rfl rfl))) pss_nil)
      (pss_cons (ps_if (pt_not (pt_tru (pe_callB (cr_all rfl) (by rfl) T.n_all (by decide +kernel) (pa_cons (pe_lc (own := [("row", 2)]) rfl sc_taken_rows.nd (pi_U (pv 1)) (blkOk_by (own := [("row", 2)]) (N := ["deeds", "rows", "row"]) (sc := defScope s_taken_rows) (by decide +kernel)) (fun _ _ _ _ _ => (pg_name (i := 2) sc_taken_rows.nd rfl (Or.inl rfl))) (fun _ _ _ _ _ => pts_nil) (fun _ _ _ _ _ => (pe_d D_is_letter_row hr (by decide) (by rfl) pass0 (pa_cons (pv 0) (pa_cons (pv 2) pa_nil))))) pa_nil)) (by intro _; rfl))) (pss_one (ps_raiseX T.x_BadRows (by rfl) (pe_joined (.cons pe_str (.cons (pe_fmt (pe_gi T.c_MOST_LETTERS (by rfl))) (.cons pe_str .nil)))) (still3 (by decide +kernel) (by decide) (by decide +kernel) (by decide +kernel)) (takes_of rfl rfl rfl rfl))) pss_nil)
      (pss_one (ps_ret (pe_lc (own := [("row", 2)]) rfl sc_taken_rows.nd (pi_U (pv 1)) (blkOk_by (own := [("row", 2)]) (N := ["deeds", "rows", "row"]) (sc := defScope s_taken_rows) (by decide +kernel)) (fun _ _ _ _ _ => (pg_name (i := 2) sc_taken_rows.nd rfl (Or.inl rfl))) (fun _ _ _ _ _ => pts_nil) (fun _ _ _ _ _ => (pe_d D_plain_letters hr (by decide) (by rfl) pass0 (pa_cons (pv 2) pa_nil)))))))), ?_⟩
  walk_at "rd"
  refine ⟨lz (by simp), rd_isLT hv fun p hp => ?_⟩
  have s1 : Same H (upd H p (.tup [.ty "list", .ty "tuple"])) := same_new hp
  generalize upd H p (.tup [.ty "list", .ty "tuple"]) = H1 at s1 ⊢
  have hv := hv.same s1
  walk_at "rd"
  refine truB ?_
  have shape : ((d.isL || d.isT) = false ∧ ∀ rs, ¬ RowsD n d rs) ∨ ((d.isL || d.isT) = true ∧ ∃ a vs ds, v = .ref a ∧ (SqT K H1 a vs ∨ SqL K H1 a vs) ∧ Paired (Rp K H1) vs ds ∧
      ∀ rs, RowsD n d rs ↔ (ds = rs.map (fun r => Dat.tup (r.map V.int)) ∧ rs.length ≤ 6 ∧ ∀ r ∈ rs, (Dat.tup (r.map V.int)).row n = true)) := by
    cases d with
    | one d =>
      refine .inl ⟨by show (Dat.isL d || d.isT) = false; rw [hs.1, hs.2]; rfl, fun rs h => ?_⟩
      rcases h.1 with e | e <;> cases e
    | tups ds =>
      obtain ⟨a, vs, e, q, z⟩ := hv
      refine .inr ⟨rfl, a, vs, ds, e, .inl q, z, fun rs => ⟨fun h => ⟨?_, h.2⟩, fun h => ⟨.inl (by rw [h.1]), h.2⟩⟩⟩
      rcases h.1 with e | e
      · exact Dat2.tups.inj e
      · cases e
    | lsts ds =>
      obtain ⟨a, vs, e, q, z⟩ := hv
      refine .inr ⟨rfl, a, vs, ds, e, .inr q, z, fun rs => ⟨fun h => ⟨?_, h.2⟩, fun h => ⟨.inr (by rw [h.1]), h.2⟩⟩⟩
      rcases h.1 with e | e
      · cases e
      · exact Dat2.lsts.inj e
  rcases shape with ⟨e, no⟩ | ⟨e, a, vs, ds, rfl, hS, hP, iff⟩
  · rw [e]
    exact iteT (iteT (q0 no H1 s1))
  rw [e]
  refine iteF ?_
  walk_at "rd"
  have hl := Paired.length hP
  refine lenU hS ?_
  walk_at "rd"
  refine rd_ite (fun e1 => ?_) fun e1 => ?_
  · have e1 := of_decide_eq_true e1
    refine q0 (fun rs h => ?_) H1 s1
    obtain ⟨e2, e3, _⟩ := (iff rs).mp h
    rw [e2, List.length_map] at hl
    omega
  have e1 := of_decide_eq_false e1
  walk_at "rd"
  refine overU rfl hS fun J G wk hG D hD => ?_
  refine lc_rel wk hD (by omega) (fun i y _ => ∃ (b : Bool) (d : Dat), y = .bl b ∧ ds[i]? = some d ∧ (b = true ↔ d.row n = true)) (fun _ _ _ _ _ h => h) (fun _ _ _ _ _ _ h => h) hG (fun i x H2 H3 hi s2 y => ?_) fun H2 ys s2 eD ly hy => ?_
  · obtain ⟨rfl, hx⟩ := y
    refine ⟨Same.refl _, fun R R0 r1 => ?_⟩
    obtain ⟨dx, e4, rx⟩ := prs_get hP hx
    walk_at "rd"
    refine ⟨rfl, ?_⟩
    walk_at "rd"
    refine iteT ?_
    walk_at "rd"
    exact ⟨n, x, dx, rfl, rx.same s2, fun H3 s3 => r1 _ H3 s3 ⟨_, dx, rfl, e4, Iff.rfl⟩⟩
  obtain ⟨bs, rfl⟩ := bools_of fun i y h => by obtain ⟨b, _, e, _⟩ := hy i y h; exact ⟨b, e⟩
  have all := bools_all (bs := bs) (n := ds.length) (P := fun i => ∃ d, ds[i]? = some d ∧ d.row n = true) (by rw [List.length_map] at ly; omega) fun i b hb => by
    obtain ⟨b', d, e, e2, e3⟩ := hy i (.bl b) (by rw [List.getElem?_map, hb]; rfl)
    cases e
    exact e3.trans ⟨fun h => ⟨d, e2, h⟩, fun ⟨d', a, c⟩ => by rw [e2] at a; cases a; exact c⟩
  walk_at "rd"
  refine ⟨D, bs, rfl, .inl (.inl eD), ?_⟩
  refine truB ?_
  cases eb : bs.all id with
  | false =>
    refine iteT (q0 (fun rs h => ?_) _ (s1.trans s2))
    rw [eb] at all
    obtain ⟨e2, _, e4⟩ := (iff rs).mp h
    refine absurd (all.mpr fun i hi => ?_) (by decide)
    rw [e2] at hi ⊢
    rw [List.length_map] at hi
    exact ⟨_, by rw [List.getElem?_map, List.getElem?_eq_getElem hi]; rfl, e4 _ (List.getElem_mem hi)⟩
  | true =>
    refine iteF ?_
    rw [eb] at all
    obtain ⟨rs, er, hr6⟩ := rows_all (n := n) (ds := ds) fun d hd => by
      obtain ⟨i, hi, e⟩ := List.mem_iff_getElem.mp hd
      obtain ⟨d', a, b⟩ := all.mp rfl i hi
      rw [List.getElem?_eq_getElem hi, e] at a
      cases a
      exact b
    have hrs : RowsD n d rs := (iff rs).mpr ⟨er, by rw [er, List.length_map] at hl; omega, hr6⟩
    have hP2 := prs_same hP s2
    rw [er] at hP2
    obtain ⟨ps, rfl, tp⟩ := tups_of hP2
    walk_at "rd"
    have hS2 : SqT K H2 a (ps.map V.ref) ∨ SqL K H2 a (ps.map V.ref) := hS.elim (fun h => .inl (sqT_same s2 h)) fun h => .inr (s2.seq h)
    refine overU rfl hS2 fun J G wk hG D2 hD2 => ?_
    refine lc_rel wk hD2 (by simp only [List.length_map] at e1 ⊢; omega) (fun i y H => ∃ (p : Addr) (xs : List Int), y = .ref p ∧ (rs.map red)[i]? = some xs ∧ SqT K H p (xs.map V.int)) (fun _ _ _ _ e h => by obtain ⟨p, xs, a, b, c⟩ := h; exact ⟨p, xs, a, b, sqT_same e c⟩)
      (fun _ _ _ _ _ e h => by obtain ⟨p, xs, a, b, c⟩ := h; exact ⟨p, xs, a, b, tup_upd e c⟩) hG (fun i x H3 H4 hi s3 y => ?_) fun H3 ys s3 eD3 ly hy => ?_
    · obtain ⟨rfl, hx⟩ := y
      refine ⟨Same.refl _, fun R R0 r1 => ?_⟩
      obtain ⟨p2, xs, rfl, _, e5, hx2⟩ := tp.at hx
      walk_at "rd"
      refine ⟨rfl, ?_⟩
      walk_at "rd"
      refine iteT ?_
      walk_at "rd"
      refine ⟨p2, xs, rfl, sqT_same s3 hx2, ?_, fun p3 H5 s5 t5 => r1 _ H5 s5 ⟨p3, red xs, rfl, by rw [List.getElem?_map, e5]; rfl, t5.sqT⟩⟩
      have := row_len (hr6 xs (List.mem_of_getElem? e5))
      omega
    · obtain ⟨ps2, rfl, tp2⟩ := tups_list (xss := rs.map red) (by rw [ly, List.length_map, List.length_map]; exact tp.len) hy
      exact q1 rs hrs D2 ps2 H3 ((s1.trans s2).trans s3) (none_of (s1.trans s2) hD2) eD3 tp2
/-! ### check_place -/
def spPlace (K : PySem.W.Frag) : Sp := fun vs H Q E => ∃ (N : Int) (v : V) (d : Dat), vs = [.int N, v] ∧ Rp K H v d ∧ 1 ≤ N ∧ N ≤ 1000000 ∧ (d.from 0 (N - 1) = true → Q .non H) ∧ (d.from 0 (N - 1) = false → E (.ref (He.ga K "BadPlace")) none H)
abbrev s_check_place : Stmt := top 25
abbrev N_check_place : List Str := ["places", "place"]
theorem sc_check_place : FnScope ["places", "place"] ["places", "place"] (defScope s_check_place) := ⟨rfl, rfl, rfl, by decide +kernel, rfl, by decide +kernel, by decide +kernel⟩
theorem bd_check_place : Bnd s_check_place "check_place" ["places", "place"] := fun _ _ _ _ _ _ us hl => match us, hl with | [_, _], _ => rfl

theorem d_check_place (T : Bs K mg) (R : Rw K mg "check_place" s_check_place) (D_is_whole_from : Df P w K mg base CX0 2 "is_whole_from" s_is_whole_from ["value", "low", "high"] (spFrom K)) :
    Df P w K mg base (L2.CX P w) 3 "check_place" s_check_place ["places", "place"] (spPlace K) := by
  refine mkX R sc_check_place bd_check_place (fun vs H Q E h => ?_) fun f cdv A outer s H vs Q E hr h => ?_
  · obtain ⟨N, v, d, rfl, _⟩ := h; rfl
  obtain ⟨N, v, d, rfl, hv, n0, n1, q1, q0⟩ := h
  refine ⟨_, (pss_one (ps_if (pt_not (pt_tru (pe_d D_is_whole_from hr (by decide) (by rfl) pass0 (pa_cons (pv 1) (pa_cons pe_int (pa_cons (pe_op op_sub (pv 0) pe_int) pa_nil)))) (by intro _; rfl))) (pss_one (XV.ps_raiseR T.x_BadPlace (by rfl) (pe_joined (.cons pe_str (.cons (pe_fmt (pe_op op_sub (pv 0) pe_int)) .nil))) (takes_of rfl rfl rfl rfl))) pss_nil)), ?_⟩
  walk_at "rd"
  refine ⟨v, d, 0, N - 1, rfl, hv, ?_⟩
  refine truB ?_
  cases e : d.from 0 (N - 1) with
  | true => exact iteF (q1 e)
  | false =>
    refine iteT ?_
    exact ⟨_, rfl, by decide +kernel, _, rfl, N, 1, rfl, rfl, .inr ⟨N - 1, rfl, num_log (by omega) (by omega), _, rfl, num_len (by decide +kernel) (by omega) (by omega), q0 e⟩⟩
/-! ### add_step, walked -/
def spAddStep (K : PySem.W.Frag) : Sp := fun vs H Q _ => ∃ (S : Addr) (ds : List Addr) (B : Nat) (f : Int → Int → Option Int) (p l g : Int), vs = [.ref S, .int p, .int l, .int g] ∧ StpAt H S ds B f ∧ B < 10000 ∧ 0 ≤ p ∧ p < ds.length ∧ 0 ≤ g ∧ g < ds.length ∧
  ∀ H', StpAt H' S ds (B + 2) (put1 (put1 f p l g) g (-l) p) → Off ds H H' → Q .non H'
theorem ref_at {ds : List Addr} {p : Int} (h0 : 0 ≤ p) (h1 : p < ds.length) : ∃ (i : Nat) (d : Addr), p = (i : Int) ∧ ds[i]? = some d ∧ atI (ds.map V.ref) p = some (.ref d) := by
  obtain ⟨i, rfl⟩ : ∃ i : Nat, p = (i : Int) := ⟨p.toNat, by omega⟩
  have hi : i < ds.length := by omega
  refine ⟨i, ds[i], rfl, List.getElem?_eq_getElem hi, atI_nat ?_⟩
  rw [List.getElem?_map, List.getElem?_eq_getElem hi]
  rfl
abbrev s_add_step : Stmt := top 10
abbrev N_add_step : List Str := ["steps", "place", "letter", "goal"]
theorem sc_add_step : FnScope ["steps", "place", "letter", "goal"] ["steps", "place", "letter", "goal"] (defScope s_add_step) := ⟨rfl, rfl, rfl, by decide +kernel, rfl, by decide +kernel, by decide +kernel⟩
theorem bd_add_step : Bnd s_add_step "add_step" ["steps", "place", "letter", "goal"] := fun _ _ _ _ _ _ us hl => match us, hl with | [_, _, _, _], _ => rfl

theorem d_add_step (T : Bs K mg) (R : Rw K mg "add_step" s_add_step) : Df P w K mg base CX0 1 "add_step" s_add_step ["steps", "place", "letter", "goal"] (spAddStep K) := by
  refine mk0 R sc_add_step bd_add_step (fun vs H Q E h => ?_) fun f cdv A outer s H vs Q E hr h => ?_
  · obtain ⟨S, ds, B, f, p, l, g, rfl, _⟩ := h; rfl
  obtain ⟨S, ds, B, fn, p, l, g, rfl, hS, hB, p0, p1, g0, g1, q⟩ := h
  have hu := lt1 hr.units
  refine ⟨_, (pss_cons (ps_dput hu (pe_ix ix_seq (pv 0) (pv 1) (fun _ _ => rfl)) (pv 2) (pv 3) rfl)
      (pss_one (ps_dput hu (pe_ix ix_seq (pv 0) (pv 3) (fun _ _ => rfl)) (pe_un un_neg (pv 2)) (pv 1) rfl))), ?_⟩
  obtain ⟨i, d, rfl, hd, ha⟩ := ref_at p0 p1
  obtain ⟨j, e, rfl, he, hb⟩ := ref_at g0 g1
  obtain ⟨kvs, hk, hl, _⟩ := hS.dt i d hd
  walk_at "rd"
  refine rd_ixL (.inl (.inl hS.ls)) ha ?_
  walk_at "rd"
  refine ⟨d, _, rfl, DPut.k (k := Sum.inl l) hk (lzl (by omega)), ?_⟩
  obtain ⟨h1, o1⟩ := hS.put hd (l := l) g0 g1 hk
  obtain ⟨kvs2, hk2, hl2, _⟩ := h1.dt j e he
  walk_at "rd"
  refine rd_ixL (.inl (.inl h1.ls)) hb ?_
  walk_at "rd"
  refine ⟨e, _, rfl, DPut.k (k := Sum.inl (-l)) hk2 (lzl (by omega)), ?_⟩
  obtain ⟨h2, o2⟩ := h1.put he (l := -l) p0 p1 hk2
  walk_at "rd"
  exact q _ h2 (o1.trans o2)
def spWalked (K : PySem.W.Frag) : Sp := fun vs H Q _ => ∃ (S a : Addr) (ds : List Addr) (B : Nat) (f : Int → Int → Option Int) (xs : List Int) (p : Int), vs = [.ref S, .ref a, .int p] ∧ StpAt H S ds B f ∧ SqT K H a (xs.map V.int) ∧ 0 ≤ p ∧ p < ds.length ∧ Q (optI (walkF f xs p)) H
abbrev s_walked : Stmt := top 12
abbrev N_walked : List Str := ["steps", "letters", "place", "letter"]
theorem sc_walked : FnScope ["steps", "letters", "place", "letter"] ["steps", "letters", "place"] (defScope s_walked) := ⟨rfl, rfl, rfl, by decide +kernel, rfl, by decide +kernel, by decide +kernel⟩
theorem bd_walked : Bnd s_walked "walked" ["steps", "letters", "place"] := fun _ _ _ _ _ _ us hl => match us, hl with | [_, _, _], _ => rfl

theorem d_walked (T : Bs K mg) (R : Rw K mg "walked" s_walked) : Df P w K mg base CX0 1 "walked" s_walked ["steps", "letters", "place"] (spWalked K) := by
  refine mk0 R sc_walked bd_walked (fun vs H Q E h => ?_) fun f cdv A outer s H vs Q E hr h => ?_
  · obtain ⟨S, a, ds, B, f, xs, p, rfl, _⟩ := h; rfl
  obtain ⟨S, a, ds, B, fn, xs, p, rfl, hS, hT, p0, p1, q⟩ := h
  have hu := lt1 hr.units
  refine ⟨_, (pss_cons (ps_for PassesOwn.never rfl (pi_U (pv 1)) (pg_name (i := 3) sc_walked.nd rfl (Or.inl rfl))
        (pss_cons (ps_if (pt_cmp (pc_dnotin hu (pv 3) (pe_ix ix_seq (pv 0) (pv 2) (fun _ _ => rfl))) rfl) (pss_one (ps_ret pe_non)) pss_nil)
        (pss_one (ps_set (i := 2) sc_walked.nd rfl (Or.inl rfl) (pe_dget hu (pe_ix ix_seq (pv 0) (pv 2) (fun _ _ => rfl)) (pv 3) (fun _ _ => rfl))))))
      (pss_one (ps_ret (pv 2)))), ?_⟩
  walk_at "rd"
  refine forT (xs := xs.map V.int) (fun i σ H' => H' = H ∧ ∃ (r : Int) (y : Option V), σ = [some (.ref S), some (.ref a), some (.int r), y] ∧ 0 ≤ r ∧ r < ds.length ∧ walkF fn (xs.take i) p = some r) rfl hT ⟨rfl, p, none, rfl, p0, p1, rfl⟩
    (fun i σ H' _ h => ?_) (fun i x σ H' hx h => ?_) (fun σ H' h => ?_)
  · obtain ⟨rfl, _⟩ := h
    exact hT
  · obtain ⟨rfl, r, y, rfl, r0, r1, hw⟩ := h
    obtain ⟨z, hz2, rfl⟩ := item_of hx
    obtain ⟨i2, d, rfl, hd, ha⟩ := ref_at r0 r1
    obtain ⟨kvs, hk, hl, hv⟩ := hS.dt i2 d hd
    have hv := hv z
    have hw2 : walkF fn (xs.take (i + 1)) p = fn i2 z := by rw [take_more hz2, walkF_snoc, hw]; rfl
    walk_at "rd"
    refine rd_ixL (.inl (.inl hS.ls)) ha ?_
    refine ⟨d, _, rfl, DGet.k (k := Sum.inl z) hk, ?_⟩
    walk_at "rd"
    cases ef : fn i2 z with
    | none =>
      rw [ef] at hv
      rw [hv]
      refine iteT ?_
      walk_at "rd"
      have : walkF fn xs p = none := by
        have key : ∀ (ys : List Int) (q : Int), walkF fn (xs.take (i + 1) ++ ys) p = none := by
          intro ys _
          have gen : ∀ (us vs : List Int) (p : Int), walkF fn us p = none → walkF fn (us ++ vs) p = none := by
            intro us
            induction us with
            | nil => intro vs p h; cases h
            | cons u us ih =>
              intro vs p h
              show (fn p u).bind (walkF fn (us ++ vs)) = none
              have h : (fn p u).bind (walkF fn us) = none := h
              cases e : fn p u with
              | none => rfl
              | some q => rw [e] at h; exact ih vs q h
          exact gen _ _ _ (by rw [hw2, ef])
        have := key (xs.drop (i + 1)) 0
        rwa [List.take_append_drop] at this
      rw [this] at q
      exact q
    | some r2 =>
      rw [ef] at hv hw2
      rw [hv]
      refine iteF ?_
      walk_at "rd"
      refine rd_ixL (.inl (.inl hS.ls)) ha ?_
      walk_at "rd"
      refine ⟨d, .int r2, rfl, by rw [← show valV kvs (Sum.inl z) = some (.int r2) from hv]; exact DGet.k (k := Sum.inl z) hk, ?_⟩
      walk_at "rd"
      have := hS.cl _ _ _ r0 r1 ef
      exact ⟨rfl, r2, _, rfl, this.1, this.2, hw2⟩
  · obtain ⟨rfl, r, y, rfl, r0, r1, hw⟩ := h
    rw [List.length_map, List.take_length] at hw
    rw [hw] at q
    walk_at "rd"
    exact q
end
end KP

set_option linter.all false
set_option maxRecDepth 100000
set_option maxHeartbeats 4000000
namespace KP
open PySem PySem.Spec PyProof.Rows L2 XA XB XC XD XM XE XF XG XV XQ
local macro_rules | `(tactic| walk_at "rd") => `(tactic| repeat (first
  | (with_reducible refine rd_seq ?_) | (with_reducible refine rd_asg ?_) | ((with_reducible refine' rd_var ?hv ?_); (case hv => exact rfl)) | (with_reducible refine rd_c ?_) | (with_reducible refine rd_gn ?_)
  | (with_reducible refine rd_op ?_) | (with_reducible refine rd_un ?_) | (with_reducible refine rd_cons ?_) | (with_reducible refine rd_nil ?_) | (with_reducible refine rd_cl ?_) | (with_reducible refine rd_ck ?_) | (with_reducible refine rd_cb ?_)
  | (with_reducible refine rd_ret ?_) | (with_reducible refine rd_drop ?_) | (with_reducible refine rd_ifs ?_) | (with_reducible refine rd_if ?_) | (with_reducible refine rd_test ?_) | (with_reducible refine rd_tb ?_) | (with_reducible refine rd_and ?_) | (with_reducible refine rd_or ?_)
  | (with_reducible refine rd_not ?_) | (with_reducible refine rd_andV ?_) | (with_reducible refine rd_orV ?_) | (with_reducible refine rd_notV ?_) | (with_reducible refine rd_chain ?_) | (with_reducible refine rd_tup ?_) | (with_reducible refine rd_lst ?_)
  | (with_reducible refine rd_bm0 ?_) | (with_reducible refine rd_bm ?_) | (with_reducible refine rd_sl ?_) | (with_reducible refine rd_part ?_) | (with_reducible refine rd_nopart ?_) | (with_reducible refine rd_dget ?_) | (with_reducible refine rd_dput ?_)
  | (with_reducible refine rd_next ?_) | (with_reducible refine rd_lc ?_) | ((with_reducible refine' rd_aug ?hv ?_); (case hv => exact rfl)) | (with_reducible refine rd_cont ?_) | (with_reducible refine rd_gcons ?_) | (with_reducible refine rd_gnil ?_) | (with_reducible refine rd_ifT ?_) | (with_reducible refine rd_yes ?_) | (with_reducible refine rd_tru ?_) | (with_reducible refine rd_cntE ?_) | (with_reducible refine rd_rng1 ?_) | (with_reducible refine rd_lrg ?_) | (with_reducible refine rd_rg2 ?_) | (with_reducible refine rd_back ?_) | (with_reducible refine rd_disp ?_) | (with_reducible refine rd_prN ?_) | (with_reducible refine rd_prC ?_) | (with_reducible refine rd_par ?_) | (with_reducible refine rd_par3 ?_) | (with_reducible refine rd_two ?_) | (with_reducible refine rd_three ?_) | (with_reducible refine rd_one ?_) | (with_reducible refine rd_onei ?_) | (with_reducible refine rd_iL ?_) | (with_reducible refine rd_iT ?_) | (with_reducible refine rd_rng2 ?_) | (with_reducible refine rd_bl ?_) | (with_reducible refine rd_int ?_) | (with_reducible refine rd_I0 ?_) | (with_reducible refine rd_U ?_) | (with_reducible refine rd_din ?_) | (with_reducible refine rd_dnin ?_) | (with_reducible refine rd_dnew ?_) | (with_reducible refine rd_lset ?_) | (with_reducible refine rd_enT ?_) | (with_reducible refine rd_idx ?_) | (with_reducible refine rd_rg1 ?_) | (with_reducible refine rd_tupRg ?_)))

section
variable {P : Program} {w : World} {K : PySem.W.Frag} {mg : Str → Option Value} {base : Heap}
/-! ### house_steps -/
def spHouseSteps (K : PySem.W.Frag) : Sp := fun vs H Q _ => ∃ (a : Addr) (ps : List Addr) (hs : List (List Int)) (N : Nat) (n : Int), vs = [.ref a] ∧ SqT K H a (ps.map V.ref) ∧ Tups K H ps hs ∧ XH.Hs N n hs ∧ 1 ≤ n ∧ n ≤ 4 ∧ 1 ≤ N ∧ N ≤ 60 ∧
  ∀ S ds f H', Same H H' → StpAt H' S ds 1000 f → ds.length = N → (∀ p l, 0 ≤ p → p < (N : Int) → XH.Let n l → f p l = some (XH.act hs l p)) → Q (.ref S) H'
abbrev s_house_steps : Stmt := top 11
abbrev N_house_steps : List Str := ["house", "place", "steps", "at", "order", "goal"]
theorem sc_house_steps : FnScope ["house", "place", "steps", "at", "order", "goal"] ["house"] (defScope s_house_steps) := ⟨rfl, rfl, rfl, by decide +kernel, rfl, by decide +kernel, by decide +kernel⟩
theorem bd_house_steps : Bnd s_house_steps "house_steps" ["house"] := fun _ _ _ _ _ _ us hl => match us, hl with | [_], _ => rfl

theorem d_house_steps (T : Bs K mg) (R : Rw K mg "house_steps" s_house_steps) (D_add_step : Df P w K mg base CX0 1 "add_step" s_add_step ["steps", "place", "letter", "goal"] (spAddStep K)) : Df P w K mg base CX0 2 "house_steps" s_house_steps ["house"] (spHouseSteps K) := by
  refine mk0 R sc_house_steps bd_house_steps (fun vs H Q E h => ?_) fun f cdv A outer s H vs Q E hr h => ?_
  · obtain ⟨a, ps, hs, N, n, rfl, _⟩ := h; rfl
  obtain ⟨a, ps, hs, N, n, rfl, hT, hP, hH, n1, n4, N1, N60, q⟩ := h
  have hu := lt1 hr.units
  refine ⟨_, (pss_cons (ps_setLc (i := 2) (own := [("place", 1)]) rfl sc_house_steps.nd rfl rfl (sw_true rfl rfl rfl (by decide +kernel)) (pi_U (pe_ix ix_seq (pv 0) pe_int (fun _ _ => rfl))) (blkOk_by (own := [("place", 1)]) (N := ["house", "place", "steps", "at", "order", "goal"]) (sc := defScope s_house_steps) (by decide +kernel)) (fun _ _ _ _ _ => (pg_name (i := 1) sc_house_steps.nd rfl (Or.inl rfl))) (fun _ _ _ _ _ => pts_nil) (fun _ _ _ _ _ => pe_dnewK))
      (pss_cons (ps_for PassesOwn.never rfl (XQ.pi_enumT (by rfl) T.n_enumerate (pa_cons (pv 0) pa_nil)) (pg_tup (by rfl) (pgs_cons (pg_name (i := 3) sc_house_steps.nd rfl (Or.inl rfl)) (pgs_cons (pg_name (i := 4) sc_house_steps.nd rfl (Or.inl rfl)) pgs_nil)))
        (pss_one (ps_for PassesOwn.never rfl (XQ.pi_enumT (by rfl) T.n_enumerate (pa_cons (pv 4) pa_nil)) (pg_tup (by rfl) (pgs_cons (pg_name (i := 1) sc_house_steps.nd rfl (Or.inl rfl)) (pgs_cons (pg_name (i := 5) sc_house_steps.nd rfl (Or.inl rfl)) pgs_nil)))
          (pss_one (ps_expr (pe_d D_add_step hr (by decide) (by rfl) pass0 (pa_cons (pv 2) (pa_cons (pv 1) (pa_cons (pe_op op_addU (pv 3) pe_int) (pa_cons (pv 5) pa_nil))))))))))
      (pss_one (ps_ret (pv 2))))), ?_⟩
  have hl := hP.len
  have hn := hH.len
  obtain ⟨p0, o0, e0, e0', t0⟩ : ∃ p o, ps[0]? = some p ∧ hs[0]? = some o ∧ SqT K H p (o.map V.int) := by
    have h0 : 0 < ps.length := by omega
    obtain ⟨p, o, z, a1, a2, a3⟩ := hP.at (i := 0) (v := .ref ps[0]) (by rw [List.getElem?_map, List.getElem?_eq_getElem h0]; rfl)
    exact ⟨p, o, a1, a2, a3⟩
  have lo := (hH.ok o0 (List.mem_of_getElem? e0')).1
  walk_at "rd"
  refine .inr ?_
  walk_at "rd"
  refine rd_ixT hT (atI_nat (j := 0) (by rw [List.getElem?_map, e0]; rfl)) ?_
  refine ⟨p0, rfl, ⟨_, t0⟩, fun D hD => ?_⟩
  refine lc_it (n := N) (Y := fun i H x H' => H' = H ∧ (o0.map V.int)[i]? = some x) (by rw [← lo, ← List.length_map (f := V.int)]; exact walk_tup) (fun i H' => Same H H' ∧ ∃ ds : List Addr, H' D = some (.lst (ds.map V.ref)) ∧ ds.length = i ∧ ds.Nodup ∧ ∀ d ∈ ds, H d = none ∧ H' d = some (.dK []))
    ⟨same_new hD, [], upd_same, rfl, List.nodup_nil, fun d h => nomatch h⟩ (fun i H' _ h => sqT_same h.1 t0) (fun i x H1 H2 hi h y => ?_) fun H1 h => ?_
  · obtain ⟨rfl, hx⟩ := y
    obtain ⟨s1, ds, eD, hl2, nd, hd⟩ := h
    walk_at "rd"
    refine ⟨rfl, ?_⟩
    walk_at "rd"
    refine iteT ?_
    walk_at "rd"
    intro p hp
    have nD : D ≠ p := ne_of_none eD hp
    have np : ∀ d ∈ ds, d ≠ p := fun d hd2 => ne_of_none (hd d hd2).2 hp
    refine ⟨ds.map V.ref, by rw [upd_ne nD]; exact eD, lzl (by rw [List.length_map]; omega), ?_, ds ++ [p], by rw [upd_same]; simp, by simp [hl2], ?_, fun d hd2 => ?_⟩
    · exact same_mut (s1.trans (same_new hp)) hD
    · refine List.nodup_append.mpr ⟨nd, List.nodup_cons.mpr ⟨by simp, List.nodup_nil⟩, fun a ha b hb => ?_⟩
      rw [List.mem_singleton.mp hb]
      exact np a ha
    · have pD : p ≠ D := fun z => nD z.symm
      rcases List.mem_append.mp hd2 with z | z
      · have dD : d ≠ D := ne_of (hd d z).2 eD (by intro z; cases z)
        exact ⟨(hd d z).1, by rw [upd_ne dD, upd_ne (np d z)]; exact (hd d z).2⟩
      · rw [List.mem_singleton.mp z]
        exact ⟨none_of s1 hp, by rw [upd_ne pD, upd_same]⟩
  obtain ⟨s1, ds, eD, hl2, nd, hd⟩ := h
  have new : ∀ d ∈ ds, H d = none := fun d h => (hd d h).1
  have S0 : StpAt H1 D ds 0 (XH.F hs 0 0) := ⟨eD, nd, fun i d h => ⟨[], (hd d (List.mem_of_getElem? h)).2, Nat.le_refl _, fun l => by rw [XH.F_start (by omega)]; rfl⟩, fun p l q h0 h1 h => by rw [XH.F_start h0] at h; cases h⟩
  walk_at "rd"
  refine rd_for ?_
  walk_at "rd"
  refine ⟨a, _, rfl, sqT_same s1 hT, ?_⟩
  refine for_it (walk_enumT (xs := ps.map V.ref)) (fun i σ H' => ∃ y1 y3 y4 y5 : Option V, σ = [some (.ref a), y1, some (.ref D), y3, y4, y5] ∧ Same H H' ∧ StpAt H' D ds (120 * i) (XH.F hs i 0)) ⟨_, _, _, _, rfl, s1, S0⟩
    (fun i σ H' _ h => ?_) (fun i x σ H1 H2 hi h y => ?_) fun σ H' h => ?_
  · obtain ⟨_, _, _, _, _, s2, _⟩ := h
    exact sqT_same s2 hT
  · obtain ⟨y1, y3, y4, y5, rfl, s2, S2⟩ := h
    obtain ⟨t, x, rfl, ht, rfl, hx⟩ := y
    obtain ⟨p, o, rfl, ep, eo, tp⟩ := hP.at hx
    have s3 : Same H1 (upd H1 t (.tup [.int (i : Nat), .ref p])) := same_new ht
    have et : upd H1 t (.tup [.int (i : Nat), .ref p]) t = some (.tup [.int (i : Nat), .ref p]) := upd_same
    generalize upd H1 t (.tup [.int (i : Nat), .ref p]) = H3 at s3 et ⊢
    have S3 := S2.same s3
    have s4 := s2.trans s3
    refine ⟨t, _, rfl, .inl (.inl et), rfl, ?_⟩
    walk_at "rd"
    have lo2 := (hH.ok o (List.mem_of_getElem? eo)).1
    rw [List.length_map] at hi
    refine rd_for ?_
    walk_at "rd"
    refine ⟨p, _, rfl, sqT_same s4 tp, ?_⟩
    refine for_it (walk_enumT (xs := o.map V.int)) (fun j σ H' => ∃ y1 y5 : Option V, σ = [some (.ref a), y1, some (.ref D), some (.int (i : Nat)), some (.ref p), y5] ∧ Same H H' ∧ StpAt H' D ds (120 * i + 2 * j) (XH.F hs i j)) ⟨_, _, rfl, s4, S3⟩
      (fun j σ H' _ h => ?_) (fun j x σ H1 H2 hj h y => ?_) fun σ H' h => ?_
    · obtain ⟨_, _, _, s5, _⟩ := h
      exact sqT_same s5 tp
    · obtain ⟨y1, y5, rfl, s5, S5⟩ := h
      obtain ⟨t2, x, rfl, ht2, rfl, hx2⟩ := y
      obtain ⟨g, eg, rfl⟩ := item_of hx2
      have s6 : Same H1 (upd H1 t2 (.tup [.int (j : Nat), .int g])) := same_new ht2
      have et2 : upd H1 t2 (.tup [.int (j : Nat), .int g]) t2 = some (.tup [.int (j : Nat), .int g]) := upd_same
      generalize upd H1 t2 (.tup [.int (j : Nat), .int g]) = H6 at s6 et2 ⊢
      have S6 := S5.same s6
      refine ⟨t2, _, rfl, .inl (.inl et2), rfl, ?_⟩
      walk_at "rd"
      refine rd_addI ?_
      walk_at "rd"
      rw [List.length_map] at hj
      have hg := (hH.ok o (List.mem_of_getElem? eo)).2.1 g (List.mem_of_getElem? eg)
      have ga : g = XH.act hs ((i : Int) + 1) j := by
        unfold XH.act
        rw [if_pos (by omega), show ((i : Int) + 1 - 1).toNat = i by omega, Int.toNat_natCast, show hs.getD i [] = o by rw [List.getD_eq_getElem?_getD, eo, Option.getD_some], List.getD_eq_getElem?_getD, eg, Option.getD_some]
      refine ⟨D, ds, 120 * i + 2 * j, XH.F hs i j, j, i + 1, g, rfl, S6, by omega, by omega, by omega, hg.1, by omega, fun H7 S7 o7 => ?_⟩
      walk_at "rd"
      refine ⟨_, _, rfl, Off.new o7 (s5.trans s6) new, S7.congr (fun p l h0 h1 => ?_) (by omega)⟩
      unfold put1
      rw [ga]
      exact XH.F_step hH (by omega) (by omega) (by omega) (by omega) h0 (by omega)
    · obtain ⟨y1, y5, rfl, s5, S5⟩ := h
      rw [List.length_map, lo2] at S5
      exact ⟨_, _, _, _, rfl, s5, S5.congr (fun p l h0 h1 => XH.F_next hH (by omega) (by omega) h0 (by omega)) (by omega)⟩
  · obtain ⟨y1, y3, y4, y5, rfl, s2, S2⟩ := h
    rw [List.length_map, hl, hn] at S2
    walk_at "rd"
    exact q D ds _ H' s2 (S2.congr (fun _ _ _ _ => rfl) (by omega)) hl2 fun p l h0 h1 hL => XH.F_end hL
/-! ### is_order -/
def OrdD (N : Nat) (d : Dat) : Prop := ∃ o : List Int, d = .tup (o.map V.int) ∧ XH.Ord N o
def spOrder (K : PySem.W.Frag) : Sp := fun vs H Q _ => ∃ (N : Nat) (v : V) (d : Dat), vs = [.int (N : Nat), v] ∧ Rp K H v d ∧ N ≤ 1000 ∧ ∀ b H', Same H H' → (b = true ↔ OrdD N d) → Q (.bl b) H'
theorem ints_from {lo hi : Int} : ∀ {xs : List V}, (xs.all fun x => (Dat.flat x).from lo hi) = true → ∃ o : List Int, xs = o.map V.int ∧ ∀ x ∈ o, lo ≤ x ∧ x ≤ hi
  | [], _ => ⟨[], rfl, fun _ h => nomatch h⟩
  | x :: xs, h => by
    obtain ⟨h1, h2⟩ := Bool.and_eq_true_iff.mp (show ((Dat.flat x).from lo hi && xs.all fun x => (Dat.flat x).from lo hi) = true from h)
    obtain ⟨i, e, a, b⟩ := Dat.from_int h1
    obtain ⟨o, e2, m⟩ := ints_from h2
    cases e
    exact ⟨i :: o, by rw [e2] <;> rfl, fun x hx => (List.mem_cons.mp hx).elim (fun z => by rw [z]; exact ⟨a, b⟩) (m x)⟩
abbrev s_is_order : Stmt := top 28
abbrev N_is_order : List Str := ["places", "value", "item"]
theorem sc_is_order : FnScope ["places", "value", "item"] ["places", "value"] (defScope s_is_order) := ⟨rfl, rfl, rfl, by decide +kernel, rfl, by decide +kernel, by decide +kernel⟩
theorem bd_is_order : Bnd s_is_order "is_order" ["places", "value"] := fun _ _ _ _ _ _ us hl => match us, hl with | [_, _], _ => rfl

theorem d_is_order (T : Bs K mg) (R : Rw K mg "is_order" s_is_order) (D_is_whole_from : Df P w K mg base CX0 2 "is_whole_from" s_is_whole_from ["value", "low", "high"] (spFrom K)) :
    Df P w K mg base CX0 3 "is_order" s_is_order ["places", "value"] (spOrder K) := by
  refine mk0 R sc_is_order bd_is_order (fun vs H Q E h => ?_) fun f cdv A outer s H vs Q E hr h => ?_
  · obtain ⟨N, v, d, rfl, _⟩ := h; rfl
  obtain ⟨N, v, d, rfl, hv, hN, q⟩ := h
  refine ⟨_, (pss_cons (ps_if (PW.pt (pw_or (pt_not (pt_tru (pe_callB call_isU (by rfl) T.n_isinstance (by decide +kernel) (pa_cons (pv 1) (pa_cons (pe_bltn (v := .ty "tuple") (by rfl) T.n_tuple (by decide +kernel) rfl) pa_nil))) (by intro _; rfl))) (pw_or1 (pt_cmpR (op_neU hr.units) (pe_callB call_len (by rfl) T.n_len (by decide +kernel) (pa_cons (pv 1) pa_nil)) (pv 0) (nomark _))))) (pss_one (ps_ret pe_bl)) pss_nil)
      (pss_one (ps_ret (pe_and (pe_callB (cr_all rfl) (by rfl) T.n_all (by decide +kernel) (pa_cons (pe_lc (own := [("item", 2)]) rfl sc_is_order.nd (pi_U (pv 1)) (blkOk_by (own := [("item", 2)]) (N := ["places", "value", "item"]) (sc := defScope s_is_order) (by decide +kernel)) (fun _ _ _ _ _ => (pg_name (i := 2) sc_is_order.nd rfl (Or.inl rfl))) (fun _ _ _ _ _ => pts_nil) (fun _ _ _ _ _ => (pe_d D_is_whole_from hr (by decide) (by rfl) pass0 (pa_cons (pv 2) (pa_cons pe_int (pa_cons (pe_op op_sub (pv 0) pe_int) pa_nil)))))) pa_nil)) (pe_one (pe_cmpR (op_eqU hr.units) (XQ.pe_lenSetT (by rfl) T.n_len (by rfl) T.n_set (pv 1)) (pv 0) (nomark _))))))), ?_⟩
  walk_at "rd"
  refine rd_isT hv (kit_tuple d) ?_
  refine truB ?_
  have no : ¬ OrdD N d → ∀ H', Same H H' → Q (.bl false) H' := fun h H' e => q false H' e ⟨fun z => Bool.noConfusion z, fun z => absurd z h⟩
  cases d with
  | flat u => exact iteT (iteT (no (fun ⟨o, e, _⟩ => nomatch e) H (Same.refl _)))
  | lst u => exact iteT (iteT (no (fun ⟨o, e, _⟩ => nomatch e) H (Same.refl _)))
  | dct => exact iteT (iteT (no (fun ⟨o, e, _⟩ => nomatch e) H (Same.refl _)))
  | tup xs =>
    obtain ⟨a, rfl, hS, hp⟩ := hv
    refine iteF ?_
    walk_at "rd"
    refine lenT hS ?_
    walk_at "rd"
    refine rd_neI ?_
    walk_at "rd"
    refine rd_ite (fun e => ?_) fun e => ?_
    · refine no (fun ⟨o, e2, h⟩ => ?_) H (Same.refl _)
      have := h.1
      have e2 := congrArg List.length (Dat.tup.inj e2)
      rw [List.length_map] at e2
      simp only [Bool.not_eq_true', decide_eq_false_iff_not] at e
      omega
    have hl : xs.length = N := by
      simp only [Bool.not_eq_false', decide_eq_true_eq] at e
      omega
    walk_at "rd"
    refine .inr ⟨.ref a, rfl, a, rfl, ⟨xs, hS⟩, fun D hD => ?_⟩
    refine lc_pure walk_tup hD xs (fun _ => true) (fun x => .bl ((Dat.flat x).from 0 ((N : Int) - 1))) rfl (by omega) (fun H' e => sqT_same e hS) (fun i H x H' hi y => y) (fun x H' hx e R R0 h1 h0 => ?_) fun H1 s1 hD' => ?_
    · walk_at "rd"
      refine ⟨rfl, ?_⟩
      walk_at "rd"
      refine iteT ?_
      walk_at "rd"
      exact ⟨x, .flat x, 0, (N : Int) - 1, rfl, ⟨rfl, List.all_eq_true.mp (okB_all hp) x hx⟩, h1 rfl H' (Same.refl _)⟩
    · rw [List.filter_eq_self.mpr fun _ _ => rfl, show (fun x => V.bl ((Dat.flat x).from 0 ((N : Int) - 1))) = V.bl ∘ fun x => (Dat.flat x).from 0 ((N : Int) - 1) from rfl, ← List.map_map] at hD'
      walk_at "rd"
      refine ⟨D, _, rfl, .inl (.inl hD'), ?_⟩
      rw [show ((xs.map fun x => (Dat.flat x).from 0 ((N : Int) - 1)).all id) = xs.all fun x => (Dat.flat x).from 0 ((N : Int) - 1) by simp [List.all_map]]
      walk_at "rd"
      refine rd_ite (fun e => ?_) fun e => ?_
      · obtain ⟨o, rfl, ho⟩ := ints_from e
        rw [List.length_map] at hl
        walk_at "rd"
        refine ⟨a, o, rfl, sqT_same s1 hS, by omega, fun L hL hm => ?_⟩
        have iff := nodup_len hL hm
        walk_at "rd"
        refine rd_eqI ?_
        refine q _ H1 s1 ⟨fun z => ⟨o, rfl, hl, fun x hx => by have := ho x hx; omega, iff.mp (by have := of_decide_eq_true z; omega)⟩, fun ⟨o2, e2, h⟩ => ?_⟩
        have e3 : o = o2 := by
          have e2 := Dat.tup.inj e2
          exact (List.map_inj_right (f := V.int) (fun x y z => V.int.inj z)).mp e2
        subst e3
        refine decide_eq_true ?_
        have := iff.mpr h.2.2
        omega
      · refine q false H1 s1 ⟨fun z => Bool.noConfusion z, fun ⟨o2, e2, h⟩ => ?_⟩
        rw [Dat.tup.inj e2] at e
        have : ((o2.map V.int).all fun x => (Dat.flat x).from 0 ((N : Int) - 1)) = true := by
          rw [List.all_map, List.all_eq_true]
          intro x hx
          have := h.2.1 x hx
          show (decide (0 ≤ x) && decide (x ≤ (N : Int) - 1)) = true
          rw [decide_eq_true this.1, decide_eq_true (show x ≤ (N : Int) - 1 by omega)] <;> rfl
        rw [this] at e
        cases e
end
end KP

set_option linter.all false
set_option maxRecDepth 100000
set_option maxHeartbeats 4000000
namespace KP
open PySem PySem.Spec PyProof.Rows L2 XA XB XC XD XM XE XF XG XV XQ
local macro_rules | `(tactic| walk_at "rd") => `(tactic| repeat (first
  | (with_reducible refine rd_seq ?_) | (with_reducible refine rd_asg ?_) | ((with_reducible refine' rd_var ?hv ?_); (case hv => exact rfl)) | (with_reducible refine rd_c ?_) | (with_reducible refine rd_gn ?_)
  | (with_reducible refine rd_op ?_) | (with_reducible refine rd_un ?_) | (with_reducible refine rd_cons ?_) | (with_reducible refine rd_nil ?_) | (with_reducible refine rd_cl ?_) | (with_reducible refine rd_ck ?_) | (with_reducible refine rd_cb ?_)
  | (with_reducible refine rd_ret ?_) | (with_reducible refine rd_drop ?_) | (with_reducible refine rd_ifs ?_) | (with_reducible refine rd_if ?_) | (with_reducible refine rd_test ?_) | (with_reducible refine rd_tb ?_) | (with_reducible refine rd_and ?_) | (with_reducible refine rd_or ?_)
  | (with_reducible refine rd_not ?_) | (with_reducible refine rd_andV ?_) | (with_reducible refine rd_orV ?_) | (with_reducible refine rd_notV ?_) | (with_reducible refine rd_chain ?_) | (with_reducible refine rd_tup ?_) | (with_reducible refine rd_lst ?_)
  | (with_reducible refine rd_bm0 ?_) | (with_reducible refine rd_bm ?_) | (with_reducible refine rd_sl ?_) | (with_reducible refine rd_part ?_) | (with_reducible refine rd_nopart ?_) | (with_reducible refine rd_dget ?_) | (with_reducible refine rd_dput ?_)
  | (with_reducible refine rd_next ?_) | (with_reducible refine rd_lc ?_) | ((with_reducible refine' rd_aug ?hv ?_); (case hv => exact rfl)) | (with_reducible refine rd_cont ?_) | (with_reducible refine rd_gcons ?_) | (with_reducible refine rd_gnil ?_) | (with_reducible refine rd_ifT ?_) | (with_reducible refine rd_yes ?_) | (with_reducible refine rd_tru ?_) | (with_reducible refine rd_cntE ?_) | (with_reducible refine rd_rng1 ?_) | (with_reducible refine rd_lrg ?_) | (with_reducible refine rd_rg2 ?_) | (with_reducible refine rd_back ?_) | (with_reducible refine rd_disp ?_) | (with_reducible refine rd_prN ?_) | (with_reducible refine rd_prC ?_) | (with_reducible refine rd_par ?_) | (with_reducible refine rd_par3 ?_) | (with_reducible refine rd_two ?_) | (with_reducible refine rd_three ?_) | (with_reducible refine rd_one ?_) | (with_reducible refine rd_onei ?_) | (with_reducible refine rd_iL ?_) | (with_reducible refine rd_iT ?_) | (with_reducible refine rd_rng2 ?_) | (with_reducible refine rd_bl ?_) | (with_reducible refine rd_int ?_) | (with_reducible refine rd_I0 ?_) | (with_reducible refine rd_U ?_) | (with_reducible refine rd_din ?_) | (with_reducible refine rd_dnin ?_) | (with_reducible refine rd_dnew ?_) | (with_reducible refine rd_lset ?_) | (with_reducible refine rd_enT ?_) | (with_reducible refine rd_idx ?_) | (with_reducible refine rd_rg1 ?_) | (with_reducible refine rd_tupRg ?_)))

section
variable {P : Program} {w : World} {K : PySem.W.Frag} {mg : Str → Option Value} {base : Heap}
/-! ### has_house_form -/
def HouseD (n : Int) (d : Dat2) (hs : List (List Int)) (N : Nat) : Prop := d = .tups (hs.map fun o => .tup (o.map V.int)) ∧ XH.Hs N n hs ∧ 1 ≤ N ∧ N ≤ 60
def Dat2.shT : Dat2 → Prop
  | .one d => d.isT = false
  | .tups ds => ∀ d ∈ ds, ∀ xs, d = .tup xs → xs.length ≤ 1000
  | .lsts _ => True
def spHForm (K : PySem.W.Frag) : Sp := fun vs H Q _ => ∃ (n : Int) (v : V) (d : Dat2), vs = [.int n, v] ∧ Rp2 K H v d ∧ Dat2.shT d ∧ 1 ≤ n ∧ n ≤ 4 ∧ ∀ b H', Same H H' → (b = true ↔ ∃ hs N, HouseD n d hs N) → Q (.bl b) H'
theorem orders_of {N : Nat} : ∀ {ds : List Dat}, (∀ d ∈ ds, OrdD N d) → ∃ hs : List (List Int), ds = hs.map (fun o => Dat.tup (o.map V.int)) ∧ ∀ o ∈ hs, XH.Ord N o
  | [], _ => ⟨[], rfl, fun _ h => nomatch h⟩
  | d :: ds, h => by
    obtain ⟨o, e, ho⟩ := h d (by simp)
    obtain ⟨hs, e2, m⟩ := orders_of (ds := ds) fun x hx => h x (by simp [hx])
    exact ⟨o :: hs, by rw [e, e2] <;> rfl, fun x hx => (List.mem_cons.mp hx).elim (fun z => by rw [z]; exact ho) (m x)⟩
abbrev s_has_house_form : Stmt := top 29
abbrev N_has_house_form : List Str := ["deeds", "value", "places", "order"]
theorem sc_has_house_form : FnScope ["deeds", "value", "places", "order"] ["deeds", "value"] (defScope s_has_house_form) := ⟨rfl, rfl, rfl, by decide +kernel, rfl, by decide +kernel, by decide +kernel⟩
theorem bd_has_house_form : Bnd s_has_house_form "has_house_form" ["deeds", "value"] := fun _ _ _ _ _ _ us hl => match us, hl with | [_, _], _ => rfl

theorem d_has_house_form (T : Bs K mg) (R : Rw K mg "has_house_form" s_has_house_form) (D_is_whole_from : Df P w K mg base CX0 2 "is_whole_from" s_is_whole_from ["value", "low", "high"] (spFrom K))
    (D_is_order : Df P w K mg base CX0 3 "is_order" s_is_order ["places", "value"] (spOrder K)) : Df P w K mg base CX0 5 "has_house_form" s_has_house_form ["deeds", "value"] (spHForm K) := by
  refine mk0 R sc_has_house_form bd_has_house_form (fun vs H Q E h => ?_) fun f cdv A outer s H vs Q E hr h => ?_
  · obtain ⟨n, v, d, rfl, _⟩ := h; rfl
  obtain ⟨n, v, d, rfl, hv, hs, n1, n4, q⟩ := h
  refine ⟨_, (pss_cons (ps_if (PW.pt (pw_or (pt_not (pt_tru (pe_callB call_isU (by rfl) T.n_isinstance (by decide +kernel) (pa_cons (pv 1) (pa_cons (pe_bltn (v := .ty "tuple") (by rfl) T.n_tuple (by decide +kernel) rfl) pa_nil))) (by intro _; rfl))) (pw_or (pt_cmpR (op_neU hr.units) (pe_callB call_len (by rfl) T.n_len (by decide +kernel) (pa_cons (pv 1) pa_nil)) (pv 0) (nomark _)) (pw_or1 (pt_not (pt_tru (pe_callB call_isU (by rfl) T.n_isinstance (by decide +kernel) (pa_cons (pe_ix ix_seq (pv 1) pe_int (fun _ _ => rfl)) (pa_cons (pe_bltn (v := .ty "tuple") (by rfl) T.n_tuple (by decide +kernel) rfl) pa_nil))) (by intro _; rfl))))))) (pss_one (ps_ret pe_bl)) pss_nil)
      (pss_cons (ps_set (i := 2) sc_has_house_form.nd rfl (Or.inr rfl) (pe_callB call_len (by rfl) T.n_len (by decide +kernel) (pa_cons (pe_ix ix_seq (pv 1) pe_int (fun _ _ => rfl)) pa_nil)))
      (pss_one (ps_ret (pe_and (pe_d D_is_whole_from hr (by decide) (by rfl) pass0 (pa_cons (pv 2) (pa_cons pe_int (pa_cons (pe_gi T.c_MOST_PLACES (by rfl)) pa_nil)))) (pe_one (pe_callB (cr_all rfl) (by rfl) T.n_all (by decide +kernel) (pa_cons (pe_lc (own := [("order", 3)]) rfl sc_has_house_form.nd (pi_U (pv 1)) (blkOk_by (own := [("order", 3)]) (N := ["deeds", "value", "places", "order"]) (sc := defScope s_has_house_form) (by decide +kernel)) (fun _ _ _ _ _ => (pg_name (i := 3) sc_has_house_form.nd rfl (Or.inl rfl))) (fun _ _ _ _ _ => pts_nil) (fun _ _ _ _ _ => (pe_d D_is_order hr (by decide) (by rfl) pass0 (pa_cons (pv 2) (pa_cons (pv 3) pa_nil))))) pa_nil)))))))), ?_⟩
  walk_at "rd"
  refine rd_isT2 hv (kit_tuple2 d) ?_
  refine truB ?_
  have no : (∀ hs N, ¬ HouseD n d hs N) → ∀ H', Same H H' → Q (.bl false) H' := fun h H' e => q false H' e ⟨fun z => Bool.noConfusion z, fun ⟨hs, N, z⟩ => absurd z (h hs N)⟩
  cases d with
  | one d =>
    rw [show Dat2.isT (.one d) = false from hs]
    exact iteT (iteT (no (fun hs N z => by cases z.1) H (Same.refl _)))
  | lsts ds => exact iteT (iteT (no (fun hs N z => by cases z.1) H (Same.refl _)))
  | tups ds =>
    obtain ⟨a, vs, rfl, hS, hP⟩ := hv
    have hl := Paired.length hP
    refine iteF ?_
    walk_at "rd"
    refine lenT hS ?_
    walk_at "rd"
    refine rd_neI ?_
    walk_at "rd"
    refine rd_ite (fun e => ?_) fun e => ?_
    · refine no (fun hs N z => ?_) H (Same.refl _)
      have e2 := congrArg List.length (Dat2.tups.inj z.1)
      rw [List.length_map] at e2
      have := z.2.1.len
      simp only [Bool.not_eq_true', decide_eq_false_iff_not] at e
      omega
    have e : (vs.length : Int) = n := by simpa using e
    obtain ⟨v0, d0, ev0, ed0, r0⟩ : ∃ v0 d0, vs[0]? = some v0 ∧ ds[0]? = some d0 ∧ Rp K H v0 d0 := by
      have h0 : 0 < vs.length := by omega
      obtain ⟨d0, a1, a2⟩ := prs_get hP (i := 0) (v := vs[0]) (List.getElem?_eq_getElem h0)
      exact ⟨_, d0, List.getElem?_eq_getElem h0, a1, a2⟩
    walk_at "rd"
    refine rd_ixT hS (atI_nat (j := 0) ev0) ?_
    walk_at "rd"
    refine rd_isT r0 (kit_tuple d0) ?_
    refine truB ?_
    have no2 : ∀ N, ¬ OrdD N d0 → ∀ hs, ¬ HouseD n (.tups ds) hs N := fun N h hs z => by
      have e2 := Dat2.tups.inj z.1
      rw [e2, List.getElem?_map] at ed0
      cases e3 : hs[0]? with
      | none => rw [e3] at ed0; cases ed0
      | some o =>
        rw [e3] at ed0
        exact h ⟨o, (Option.some.inj ed0).symm, z.2.1.ok o (List.mem_of_getElem? e3)⟩
    have isT : d0.isT = true ∨ d0.isT = false := by cases d0.isT <;> simp
    rcases isT with e0 | e0
    · obtain ⟨xs, rfl⟩ : ∃ xs, d0 = .tup xs := by
        cases d0 with
        | tup xs => exact ⟨xs, rfl⟩
        | _ => cases e0
      obtain ⟨a0, rfl, h0, _⟩ := r0
      have lx := hs _ (List.mem_of_getElem? ed0) xs rfl
      refine iteF ?_
      walk_at "rd"
      refine rd_ixT hS (atI_nat (j := 0) ev0) ?_
      walk_at "rd"
      refine lenT h0 ?_
      walk_at "rd"
      refine ⟨.int (xs.length : Nat), .flat (.int (xs.length : Nat)), 1, 60, rfl, ⟨rfl, rfl⟩, ?_⟩
      have ln : ∀ N, OrdD N (.tup xs) → N = xs.length := fun N ⟨o, e2, h⟩ => by
        rw [Dat.tup.inj e2, List.length_map]
        exact h.1.symm
      walk_at "rd"
      refine rd_ite (fun e3 => ?_) fun e3 => ?_
      · have e3 : (decide (1 ≤ ((xs.length : Nat) : Int)) && decide (((xs.length : Nat) : Int) ≤ 60)) = true := e3
        obtain ⟨b1, b2⟩ := Bool.and_eq_true_iff.mp e3
        have b1 := of_decide_eq_true b1
        have b2 := of_decide_eq_true b2
        walk_at "rd"
        refine .inr ⟨.ref a, rfl, a, rfl, ⟨vs, hS⟩, fun D hD => ?_⟩
        refine lc_rel walk_tup hD (by omega) (fun i y _ => ∃ (b : Bool) (d : Dat), y = .bl b ∧ ds[i]? = some d ∧ (b = true ↔ OrdD xs.length d)) (fun _ _ _ _ _ h => h) (fun _ _ _ _ _ _ h => h) (fun H' e => sqT_same e hS) (fun i x H2 H3 hi s2 y => ?_) fun H2 ys s2 eD ly hy => ?_
        · obtain ⟨rfl, hx⟩ := y
          refine ⟨Same.refl _, fun R R0 r1 => ?_⟩
          obtain ⟨dx, e4, rx⟩ := prs_get hP hx
          walk_at "rd"
          refine ⟨rfl, ?_⟩
          walk_at "rd"
          refine iteT ?_
          walk_at "rd"
          exact ⟨xs.length, x, dx, rfl, rx.same s2, by omega, fun b H3 s3 ib => r1 _ H3 s3 ⟨b, dx, rfl, e4, ib⟩⟩
        obtain ⟨bs, rfl⟩ := bools_of fun i y h => by obtain ⟨b, _, e, _⟩ := hy i y h; exact ⟨b, e⟩
        have all := bools_all (bs := bs) (n := ds.length) (P := fun i => ∃ d, ds[i]? = some d ∧ OrdD xs.length d) (by rw [List.length_map] at ly; omega) fun i b hb => by
          obtain ⟨b', d, e, e2, e3⟩ := hy i (.bl b) (by rw [List.getElem?_map, hb]; rfl)
          cases e
          exact e3.trans ⟨fun h => ⟨d, e2, h⟩, fun ⟨d', a, c⟩ => by rw [e2] at a; cases a; exact c⟩
        walk_at "rd"
        refine ⟨D, bs, rfl, .inl (.inl eD), ?_⟩
        refine q _ H2 s2 (all.trans ⟨fun h => ?_, fun ⟨hs, N, z⟩ i hi => ?_⟩)
        · obtain ⟨hs, e5, ho⟩ := orders_of (N := xs.length) (ds := ds) fun d hd => by
            obtain ⟨i, hi, e⟩ := List.mem_iff_getElem.mp hd
            obtain ⟨d', a, b⟩ := h i hi
            rw [List.getElem?_eq_getElem hi, e] at a
            cases a
            exact b
          exact ⟨hs, xs.length, by rw [e5], ⟨by rw [e5, List.length_map] at hl; omega, ho⟩, by omega, by omega⟩
        · have oN : OrdD N (.tup xs) := Classical.byContradiction fun h => no2 N h hs z
          have eN := ln N oN
          subst eN
          have e5 := Dat2.tups.inj z.1
          rw [e5, List.length_map] at hi
          exact ⟨_, by rw [e5, List.getElem?_map, List.getElem?_eq_getElem hi]; rfl, hs[i], rfl, z.2.1.ok _ (List.getElem_mem hi)⟩
      · refine no (fun hs N z => ?_) H (Same.refl _)
        have oN : OrdD N (.tup xs) := Classical.byContradiction fun h => no2 N h hs z
        have eN := ln N oN
        have e3 : (decide (1 ≤ ((xs.length : Nat) : Int)) && decide (((xs.length : Nat) : Int) ≤ 60)) = false := e3
        have := z.2.2
        rw [decide_eq_true (by omega), decide_eq_true (by omega)] at e3
        cases e3
    · rw [e0]
      refine iteT ?_
      refine no (fun hs N => no2 N (fun ⟨o, e2, _⟩ => ?_) hs) H (Same.refl _)
      rw [e2] at e0
      cases e0
/-! ### check_house -/
def spHouse (K : PySem.W.Frag) : Sp := fun vs H Q E => ∃ (n : Int) (v : V) (d : Dat2), vs = [.int n, v] ∧ Rp2 K H v d ∧ Dat2.shT d ∧ 1 ≤ n ∧ n ≤ 4 ∧ (∀ hs N, HouseD n d hs N → ∀ H', Same H H' → Q .non H') ∧ ((∀ hs N, ¬ HouseD n d hs N) → ∀ H', Same H H' → E (.ref (He.ga K "BadHouse")) none H')
abbrev s_check_house : Stmt := top 30
abbrev N_check_house : List Str := ["deeds", "house"]
theorem sc_check_house : FnScope ["deeds", "house"] ["deeds", "house"] (defScope s_check_house) := ⟨rfl, rfl, rfl, by decide +kernel, rfl, by decide +kernel, by decide +kernel⟩
theorem bd_check_house : Bnd s_check_house "check_house" ["deeds", "house"] := fun _ _ _ _ _ _ us hl => match us, hl with | [_, _], _ => rfl

theorem d_check_house (T : Bs K mg) (R : Rw K mg "check_house" s_check_house) (D_has_house_form : Df P w K mg base CX0 5 "has_house_form" s_has_house_form ["deeds", "value"] (spHForm K)) :
    Df P w K mg base (L2.CX P w) 6 "check_house" s_check_house ["deeds", "house"] (spHouse K) := by
  refine mkX R sc_check_house bd_check_house (fun vs H Q E h => ?_) fun f cdv A outer s H vs Q E hr h => ?_
  · obtain ⟨n, v, d, rfl, _⟩ := h; rfl
  obtain ⟨n, v, d, rfl, hv, hs, n1, n4, q1, q0⟩ := h
  refine ⟨_, (pss_one (ps_if (pt_not (pt_tru (pe_d D_has_house_form hr (by decide) (by rfl) pass0 (pa_cons (pv 0) (pa_cons (pv 1) pa_nil))) (by intro _; rfl))) (pss_one (ps_raiseX T.x_BadHouse (by rfl) (pe_joined (.cons pe_str (.cons (pe_fmt (pe_gi T.c_MOST_PLACES (by rfl))) (.cons pe_str .nil)))) (still3 (by decide +kernel) (by decide) (by decide +kernel) (by decide +kernel)) (takes_of rfl rfl rfl rfl))) pss_nil)), ?_⟩
  walk_at "rd"
  refine ⟨n, v, d, rfl, hv, hs, n1, n4, fun b H1 s1 ib => ?_⟩
  refine truB ?_
  cases b with
  | true =>
    obtain ⟨hs, N, z⟩ := ib.mp rfl
    exact iteF (q1 hs N z H1 s1)
  | false => exact iteT (q0 (fun hs N z => Bool.noConfusion (ib.mpr ⟨hs, N, z⟩)) H1 s1)
/-! ### is_kept -/
def spIsKept (K : PySem.W.Frag) : Sp := fun vs H Q _ => ∃ (S L : Addr) (ds : List Addr) (B : Nat) (f : Int → Int → Option Int) (ps : List Addr) (xss : List (List Int)) (p : Int), vs = [.ref S, .ref L, .int p] ∧ StpAt H S ds B f ∧ SqL K H L (ps.map V.ref) ∧ Tups K H ps xss ∧ xss.length ≤ 1000 ∧
  0 ≤ p ∧ p < ds.length ∧ ∀ H', Same H H' → Q (.bl (xss.all fun xs => decide (walkF f xs p = some p))) H'
theorem optI_eq {o : Option Int} {p : Int} : decide (optI o = V.int p) = decide (o = some p) := by
  cases o with
  | none => rfl
  | some i =>
    by_cases h : i = p
    · rw [h]; simp [optI]
    · rw [decide_eq_false (show ¬ optI (some i) = V.int p from fun z => h (V.int.inj z)), decide_eq_false (fun z => h (Option.some.inj z))]
abbrev s_is_kept : Stmt := top 31
abbrev N_is_kept : List Str := ["steps", "rows", "place", "row"]
theorem sc_is_kept : FnScope ["steps", "rows", "place", "row"] ["steps", "rows", "place"] (defScope s_is_kept) := ⟨rfl, rfl, rfl, by decide +kernel, rfl, by decide +kernel, by decide +kernel⟩
theorem bd_is_kept : Bnd s_is_kept "is_kept" ["steps", "rows", "place"] := fun _ _ _ _ _ _ us hl => match us, hl with | [_, _, _], _ => rfl

theorem d_is_kept (T : Bs K mg) (R : Rw K mg "is_kept" s_is_kept) (D_walked : Df P w K mg base CX0 1 "walked" s_walked ["steps", "letters", "place"] (spWalked K)) : Df P w K mg base CX0 2 "is_kept" s_is_kept ["steps", "rows", "place"] (spIsKept K) := by
  refine mk0 R sc_is_kept bd_is_kept (fun vs H Q E h => ?_) fun f cdv A outer s H vs Q E hr h => ?_
  · obtain ⟨S, L, ds, B, f, ps, xss, p, rfl, _⟩ := h; rfl
  obtain ⟨S, L, ds, B, fn, ps, xss, p, rfl, hS, hL, hP, hz, p0, p1, q⟩ := h
  refine ⟨_, (pss_one (ps_ret (pe_callB (cr_all rfl) (by rfl) T.n_all (by decide +kernel) (pa_cons (pe_lc (own := [("row", 3)]) rfl sc_is_kept.nd (pi_U (pv 1)) (blkOk_by (own := [("row", 3)]) (N := ["steps", "rows", "place", "row"]) (sc := defScope s_is_kept) (by decide +kernel)) (fun _ _ _ _ _ => (pg_name (i := 3) sc_is_kept.nd rfl (Or.inl rfl))) (fun _ _ _ _ _ => pts_nil) (fun _ _ _ _ _ => (pe_cmpR (show OpR _ _ (rEqU K) from (op_eqU hr.units)) (pe_d D_walked hr (by decide) (by rfl) pass0 (pa_cons (pv 0) (pa_cons (pv 3) (pa_cons (pv 2) pa_nil)))) (pv 2) (nomark _)))) pa_nil)))), ?_⟩
  have hl := hP.len
  walk_at "rd"
  refine .inl ⟨.ref L, rfl, L, rfl, ⟨_, hL⟩, fun D hD => ?_⟩
  refine lc_rel walk_list hD (by rw [List.length_map]; omega) (fun i y _ => ∃ xs, xss[i]? = some xs ∧ y = .bl (decide (walkF fn xs p = some p))) (fun _ _ _ _ _ h => h) (fun _ _ _ _ _ _ h => h) (fun H' e => e.seq hL) (fun i x H2 H3 hi s2 y => ?_) fun H2 ys s2 eD ly hy => ?_
  · obtain ⟨rfl, hx⟩ := y
    refine ⟨Same.refl _, fun R R0 r1 => ?_⟩
    obtain ⟨p2, xs, rfl, _, e5, hx2⟩ := hP.at hx
    walk_at "rd"
    refine ⟨rfl, ?_⟩
    walk_at "rd"
    refine iteT ?_
    walk_at "rd"
    refine ⟨S, p2, ds, B, fn, xs, p, rfl, hS.same s2, sqT_same s2 hx2, p0, p1, ?_⟩
    walk_at "rd"
    refine rd_eqS (by cases walkF fn xs p <;> rfl) ?_
    rw [optI_eq]
    exact r1 _ _ (Same.refl _) ⟨xs, e5, rfl⟩
  · have e : ys = (xss.map fun xs => decide (walkF fn xs p = some p)).map V.bl := by
      refine List.ext_getElem? fun i => ?_
      rw [List.getElem?_map, List.getElem?_map]
      cases ey : ys[i]? with
      | none =>
        have := List.getElem?_eq_none_iff.mp ey
        rw [ly, List.length_map, hl] at this
        rw [List.getElem?_eq_none this] <;> rfl
      | some y =>
        obtain ⟨xs, a1, a2⟩ := hy i y ey
        rw [a1, a2] <;> rfl
    rw [e] at eD
    walk_at "rd"
    refine ⟨D, _, rfl, .inl (.inl eD), ?_⟩
    have := q H2 s2
    rw [show ((xss.map fun xs => decide (walkF fn xs p = some p)).all id) = xss.all fun xs => decide (walkF fn xs p = some p) by simp [List.all_map]]
    exact this
/-! ### own: the program's three -/
theorem all_same {α : Type} {p q : α → Bool} : ∀ {l : List α}, (∀ x ∈ l, p x = q x) → l.all p = l.all q
  | [], _ => rfl
  | x :: l, h => by
    rw [List.all_cons, List.all_cons, h x (by simp), all_same fun y hy => h y (by simp [hy])]
def spIsHouse (K : PySem.W.Frag) : Sp := fun vs H Q E => ∃ (v1 : V) (d1 : Dat) (v2 : V) (d2 : Dat2), vs = [v1, v2] ∧ Rp K H v1 d1 ∧ Rp2 K H v2 d2 ∧ Dat2.shT d2 ∧
  (d1.from 1 4 = false → E (eDeeds K) none H) ∧ ∀ n, d1 = .flat (.int n) → d1.from 1 4 = true → ∀ b H', Same H H' → (b = true ↔ ∃ hs N, HouseD n d2 hs N) → Q (.bl b) H'
abbrev eHouse (K : PySem.W.Frag) : Value := .ref (He.ga K "BadHouse")
abbrev eRows (K : PySem.W.Frag) : Value := .ref (He.ga K "BadRows")
abbrev ePlace (K : PySem.W.Frag) : Value := .ref (He.ga K "BadPlace")
def spLed (K : PySem.W.Frag) : Sp := fun vs H Q E => ∃ (v1 : V) (d1 : Dat) (v2 : V) (d2 : Dat2) (v3 : V) (d3 : Dat) (v4 : V) (d4 : Dat), vs = [v1, v2, v3, v4] ∧ Rp K H v1 d1 ∧ Rp2 K H v2 d2 ∧ Dat2.shT d2 ∧ Rp K H v3 d3 ∧ Rp K H v4 d4 ∧
  (d1.from 1 4 = false → E (eDeeds K) none H) ∧ ∀ n, d1 = .flat (.int n) → d1.from 1 4 = true → ((∀ hs N, ¬ HouseD n d2 hs N) → ∀ H', Same H H' → E (eHouse K) none H') ∧ ∀ hs N, HouseD n d2 hs N → (d3.row n = false → ∀ H', Same H H' → E (eRow K) none H') ∧
    ∀ xs : List Int, d3 = .tup (xs.map V.int) → d3.row n = true → (d4.from 0 ((N : Int) - 1) = false → ∀ H', Same H H' → E (ePlace K) none H') ∧ ∀ p, d4 = .flat (.int p) → 0 ≤ p → p < (N : Int) → ∀ H', Same H H' → Q (.int (XH.walk hs xs p)) H'
/-- the places that rows keep -/
def keptF (hs : List (List Int)) (rs : List (List Int)) (N : Nat) : List Int := ((List.range N).map fun (i : Nat) => (i : Int)).filter fun p => rs.all fun xs => decide (XH.walk hs xs p = p)
def spKept (K : PySem.W.Frag) : Sp := fun vs H Q E => ∃ (v1 : V) (d1 : Dat) (v2 : V) (d2 : Dat2) (v3 : V) (d3 : Dat2), vs = [v1, v2, v3] ∧ Rp K H v1 d1 ∧ Rp2 K H v2 d2 ∧ Dat2.shT d2 ∧ Rp2 K H v3 d3 ∧ Dat2.shp d3 ∧
  (d1.from 1 4 = false → E (eDeeds K) none H) ∧ ∀ n, d1 = .flat (.int n) → d1.from 1 4 = true → ((∀ hs N, ¬ HouseD n d2 hs N) → ∀ H', Same H H' → E (eHouse K) none H') ∧ ∀ hs N, HouseD n d2 hs N → ((∀ rs, ¬ RowsD n d3 rs) → ∀ H', Same H H' → E (eRows K) none H') ∧
    ∀ rs, RowsD n d3 rs → ∀ p H', Same H H' → H p = none → H' p = some (.lst ((keptF hs rs N).map V.int)) → Q (.ref p) H'
theorem lets_of {n : Int} {xs : List Int} (h : (Dat.tup (xs.map V.int)).row n = true) : ∀ l ∈ xs, XH.Let n l := by
  obtain ⟨ys, e, _, m⟩ := Dat.row_ints h
  have e2 : xs = ys := (List.map_inj_right (f := V.int) (fun x y z => V.int.inj z)).mp (Dat.tup.inj e)
  rw [e2]
  exact m
theorem walkF_act {N : Nat} {n : Int} {hs : List (List Int)} {f : Int → Int → Option Int} (hH : XH.Hs N n hs) (hf : ∀ p l, 0 ≤ p → p < (N : Int) → XH.Let n l → f p l = some (XH.act hs l p)) :
    ∀ {xs : List Int} {p : Int}, (∀ l ∈ xs, XH.Let n l) → 0 ≤ p → p < (N : Int) → walkF f xs p = some (XH.walk hs xs p)
  | [], p, _, _, _ => rfl
  | l :: r, p, hl, h0, h1 => by
    have q := XH.act_in hH (hl l (by simp)) h0 h1
    show (f p l).bind (walkF f r) = some (XH.walk hs r (XH.act hs l p))
    rw [hf p l h0 h1 (hl l (by simp))]
    exact walkF_act hH hf (xs := r) (fun x hx => hl x (by simp [hx])) q.1 q.2
theorem house_at {n : Int} {v : V} {d : Dat2} {hs : List (List Int)} {N : Nat} {H : Hp} (h : HouseD n d hs N) (r : Rp2 K H v d) : ∃ a ps, v = .ref a ∧ SqT K H a (ps.map V.ref) ∧ Tups K H ps hs := by
  rw [h.1] at r
  obtain ⟨a, vs, e, q, z⟩ := r
  obtain ⟨ps, rfl, t⟩ := tups_of z
  exact ⟨a, ps, e, q, t⟩
theorem first_at {N : Nat} {n : Int} {hs : List (List Int)} {ps : List Addr} {H : Hp} (hH : XH.Hs N n hs) (n1 : 1 ≤ n) (t : Tups K H ps hs) : ∃ (p : Addr) (o : List Int), atI (ps.map V.ref) 0 = some (.ref p) ∧ SqT K H p (o.map V.int) ∧ o.length = N := by
  have h0 : 0 < ps.length := by
    have := t.len
    have := hH.len
    omega
  obtain ⟨p, o, z, a1, a2, a3⟩ := t.at (i := 0) (v := .ref ps[0]) (by rw [List.getElem?_map, List.getElem?_eq_getElem h0]; rfl)
  exact ⟨p, o, atI_nat (j := 0) (by rw [List.getElem?_map, a1]; rfl), a3, (hH.ok o (List.mem_of_getElem? a2)).1⟩
/-! ### is_house -/
abbrev s_is_house : Stmt := top 32
abbrev N_is_house : List Str := ["deeds", "value"]
theorem sc_is_house : FnScope ["deeds", "value"] ["deeds", "value"] (defScope s_is_house) := ⟨rfl, rfl, rfl, by decide +kernel, rfl, by decide +kernel, by decide +kernel⟩
theorem bd_is_house : Bnd s_is_house "is_house" ["deeds", "value"] := fun _ _ _ _ _ _ us hl => match us, hl with | [_, _], _ => rfl

theorem d_is_house (T : Bs K mg) (R : Rw K mg "is_house" s_is_house) (D_check_deeds : Df P w K mg base (L2.CX P w) 3 "check_deeds" s_check_deeds ["deeds"] (spDeeds K))
    (D_has_house_form : Df P w K mg base CX0 5 "has_house_form" s_has_house_form ["deeds", "value"] (spHForm K)) : Df P w K mg base (L2.CX P w) 7 "is_house" s_is_house ["deeds", "value"] (spIsHouse K) := by
  refine mkX R sc_is_house bd_is_house (fun vs H Q E h => ?_) fun f cdv A outer s H vs Q E hr h => ?_
  · obtain ⟨v1, d1, v2, d2, rfl, _⟩ := h; rfl
  obtain ⟨v1, d1, v2, d2, rfl, h1, h2, hs, q0, q1⟩ := h
  refine ⟨_, (pss_cons (ps_expr (pe_d D_check_deeds hr (by decide) (by rfl) passX (pa_cons (pv 0) pa_nil)))
      (pss_one (ps_ret (pe_d D_has_house_form hr (by decide) (by rfl) pass0 (pa_cons (pv 0) (pa_cons (pv 1) pa_nil)))))), ?_⟩
  walk_at "rd"
  refine ⟨v1, d1, rfl, h1, fun e => ?_, q0⟩
  obtain ⟨n, rfl, b1, b2⟩ := Dat.from_int e
  obtain ⟨rfl, _⟩ := h1
  walk_at "rd"
  exact ⟨n, v2, d2, rfl, h2, hs, b1, b2, q1 n rfl e⟩
/-! ### led -/
abbrev s_led : Stmt := top 33
abbrev N_led : List Str := ["deeds", "house", "row", "place", "letters"]
theorem sc_led : FnScope ["deeds", "house", "row", "place", "letters"] ["deeds", "house", "row", "place"] (defScope s_led) := ⟨rfl, rfl, rfl, by decide +kernel, rfl, by decide +kernel, by decide +kernel⟩
theorem bd_led : Bnd s_led "led" ["deeds", "house", "row", "place"] := fun _ _ _ _ _ _ us hl => match us, hl with | [_, _, _, _], _ => rfl

theorem d_led (T : Bs K mg) (R : Rw K mg "led" s_led) (D_check_deeds : Df P w K mg base (L2.CX P w) 3 "check_deeds" s_check_deeds ["deeds"] (spDeeds K))
    (D_check_house : Df P w K mg base (L2.CX P w) 6 "check_house" s_check_house ["deeds", "house"] (spHouse K)) (D_taken_row : Df P w K mg base (L2.CX P w) 6 "taken_row" s_taken_row ["deeds", "row"] (spTaken K))
    (D_check_place : Df P w K mg base (L2.CX P w) 3 "check_place" s_check_place ["places", "place"] (spPlace K)) (D_house_steps : Df P w K mg base CX0 2 "house_steps" s_house_steps ["house"] (spHouseSteps K))
    (D_walked : Df P w K mg base CX0 1 "walked" s_walked ["steps", "letters", "place"] (spWalked K)) : Df P w K mg base (L2.CX P w) 7 "led" s_led ["deeds", "house", "row", "place"] (spLed K) := by
  refine mkX R sc_led bd_led (fun vs H Q E h => ?_) fun f cdv A outer s H vs Q E hr h => ?_
  · obtain ⟨v1, d1, v2, d2, v3, d3, v4, d4, rfl, _⟩ := h; rfl
  obtain ⟨v1, d1, v2, d2, v3, d3, v4, d4, rfl, h1, h2, hs, h3, h4, q0, q1⟩ := h
  refine ⟨_, (pss_cons (ps_expr (pe_d D_check_deeds hr (by decide) (by rfl) passX (pa_cons (pv 0) pa_nil)))
      (pss_cons (ps_expr (pe_d D_check_house hr (by decide) (by rfl) passX (pa_cons (pv 0) (pa_cons (pv 1) pa_nil))))
      (pss_cons (ps_set (i := 4) sc_led.nd rfl (Or.inl rfl) (pe_d D_taken_row hr (by decide) (by rfl) passX (pa_cons (pv 0) (pa_cons (pv 2) pa_nil))))
      (pss_cons (ps_expr (pe_d D_check_place hr (by decide) (by rfl) passX (pa_cons (pe_callB call_len (by rfl) T.n_len (by decide +kernel) (pa_cons (pe_ix ix_seq (pv 1) pe_int (fun _ _ => rfl)) pa_nil)) (pa_cons (pv 3) pa_nil))))
      (pss_one (ps_ret (pe_d D_walked hr (by decide) (by rfl) pass0 (pa_cons (pe_d D_house_steps hr (by decide) (by rfl) pass0 (pa_cons (pv 1) pa_nil)) (pa_cons (pv 4) (pa_cons (pv 3) pa_nil)))))))))), ?_⟩
  walk_at "rd"
  refine ⟨v1, d1, rfl, h1, fun e => ?_, q0⟩
  obtain ⟨n, rfl, b1, b2⟩ := Dat.from_int e
  obtain ⟨rfl, _⟩ := h1
  obtain ⟨q2, q3⟩ := q1 n rfl e
  walk_at "rd"
  refine ⟨n, v2, d2, rfl, h2, hs, b1, b2, fun hs N hD H1 s1 => ?_, q2⟩
  obtain ⟨q4, q5⟩ := q3 hs N hD
  walk_at "rd"
  refine ⟨n, v3, d3, rfl, h3.same s1, fun xs ex rx p1 H2 s2 t2 => ?_, fun e3 H2 s2 => q4 e3 H2 (s1.trans s2)⟩
  obtain ⟨q6, q7⟩ := q5 xs ex rx
  obtain ⟨a, ps, rfl, hT, hP⟩ := house_at hD h2
  have s12 := s1.trans s2
  have hT := sqT_same s12 hT
  have hP := hP.same s12
  obtain ⟨p0, o0, a0, t0, l0⟩ := first_at hD.2.1 b1 hP
  have N1 := hD.2.2
  walk_at "rd"
  refine rd_ixT hT a0 ?_
  walk_at "rd"
  refine lenT t0 ?_
  rw [List.length_map, l0]
  walk_at "rd"
  refine ⟨N, v4, d4, rfl, h4.same s12, by omega, by omega, fun e4 => ?_, fun e4 => q6 e4 H2 s12⟩
  obtain ⟨p, rfl, c1, c2⟩ := Dat.from_int e4
  obtain ⟨rfl, _⟩ := h4
  walk_at "rd"
  refine ⟨a, ps, hs, N, n, rfl, hT, hP, hD.2.1, b1, b2, N1.1, N1.2, fun S ds fn H3 s3 S3 ld hf => ?_⟩
  walk_at "rd"
  have hx := lets_of (by rw [← ex]; exact rx)
  refine ⟨S, p1, ds, 1000, fn, red xs, p, rfl, S3, (t2.same s3).sqT, c1, by omega, ?_⟩
  rw [walkF_act hD.2.1 hf (fun l hl => hx l (red_mem hl)) c1 (by omega), XH.walk_red hD.2.1 hx c1 (by omega)]
  exact q7 p rfl c1 (by omega) H3 (s12.trans s3)
/-! ### kept -/
abbrev s_kept : Stmt := top 34
abbrev N_kept : List Str := ["deeds", "house", "rows", "plain_rows", "steps", "place"]
theorem sc_kept : FnScope ["deeds", "house", "rows", "plain_rows", "steps", "place"] ["deeds", "house", "rows"] (defScope s_kept) := ⟨rfl, rfl, rfl, by decide +kernel, rfl, by decide +kernel, by decide +kernel⟩
theorem bd_kept : Bnd s_kept "kept" ["deeds", "house", "rows"] := fun _ _ _ _ _ _ us hl => match us, hl with | [_, _, _], _ => rfl

theorem d_kept (T : Bs K mg) (R : Rw K mg "kept" s_kept) (D_check_deeds : Df P w K mg base (L2.CX P w) 3 "check_deeds" s_check_deeds ["deeds"] (spDeeds K))
    (D_check_house : Df P w K mg base (L2.CX P w) 6 "check_house" s_check_house ["deeds", "house"] (spHouse K)) (D_taken_rows : Df P w K mg base (L2.CX P w) 6 "taken_rows" s_taken_rows ["deeds", "rows"] (spRows K))
    (D_house_steps : Df P w K mg base CX0 2 "house_steps" s_house_steps ["house"] (spHouseSteps K))
    (D_is_kept : Df P w K mg base CX0 2 "is_kept" s_is_kept ["steps", "rows", "place"] (spIsKept K)) : Df P w K mg base (L2.CX P w) 7 "kept" s_kept ["deeds", "house", "rows"] (spKept K) := by
  refine mkX R sc_kept bd_kept (fun vs H Q E h => ?_) fun f cdv A outer s H vs Q E hr h => ?_
  · obtain ⟨v1, d1, v2, d2, v3, d3, rfl, _⟩ := h; rfl
  obtain ⟨v1, d1, v2, d2, v3, d3, rfl, h1, h2, hs, h3, hp, q0, q1⟩ := h
  refine ⟨_, (pss_cons (ps_expr (pe_d D_check_deeds hr (by decide) (by rfl) passX (pa_cons (pv 0) pa_nil)))
      (pss_cons (ps_expr (pe_d D_check_house hr (by decide) (by rfl) passX (pa_cons (pv 0) (pa_cons (pv 1) pa_nil))))
      (pss_cons (ps_set (i := 3) sc_kept.nd rfl (Or.inr rfl) (pe_d D_taken_rows hr (by decide) (by rfl) passX (pa_cons (pv 0) (pa_cons (pv 2) pa_nil))))
      (pss_cons (ps_set (i := 4) sc_kept.nd rfl (Or.inr rfl) (pe_d D_house_steps hr (by decide) (by rfl) pass0 (pa_cons (pv 1) pa_nil)))
      (pss_one (ps_ret (pe_lc (own := [("place", 5)]) rfl sc_kept.nd (pi_range1 (by rfl) T.n_range (pa_cons (pe_callB call_len (by rfl) T.n_len (by decide +kernel) (pa_cons (pv 4) pa_nil)) pa_nil)) (blkOk_by (own := [("place", 5)]) (N := ["deeds", "house", "rows", "plain_rows", "steps", "place"]) (sc := defScope s_kept) (by decide +kernel)) (fun _ _ _ _ _ => (pg_name (i := 5) sc_kept.nd rfl (Or.inl rfl))) (fun _ _ _ _ _ => pts_one (show PT _ _ (tTru K _) from pt_tru (pe_d D_is_kept hr (by decide) (by rfl) pass0 (pa_cons (pv 4) (pa_cons (pv 3) (pa_cons (pv 5) pa_nil)))) (by intro _; rfl))) (fun _ _ _ _ _ => (pv 5))))))))), ?_⟩
  walk_at "rd"
  refine ⟨v1, d1, rfl, h1, fun e => ?_, q0⟩
  obtain ⟨n, rfl, b1, b2⟩ := Dat.from_int e
  obtain ⟨rfl, _⟩ := h1
  obtain ⟨q2, q3⟩ := q1 n rfl e
  walk_at "rd"
  refine ⟨n, v2, d2, rfl, h2, hs, b1, b2, fun hs N hD H1 s1 => ?_, q2⟩
  obtain ⟨q4, q5⟩ := q3 hs N hD
  walk_at "rd"
  refine ⟨n, v3, d3, rfl, h3.same s1, hp, fun rs hR L ps2 H2 s2 hL eL tL => ?_, fun e3 H2 s2 => q4 e3 H2 (s1.trans s2)⟩
  have s12 := s1.trans s2
  obtain ⟨a, ps, rfl, hT, hP⟩ := house_at hD h2
  have N1 := hD.2.2
  walk_at "rd"
  refine ⟨a, ps, hs, N, n, rfl, sqT_same s12 hT, hP.same s12, hD.2.1, b1, b2, N1.1, N1.2, fun S ds fn H3 s3 S3 ld hf => ?_⟩
  walk_at "rd"
  refine lenL (.inl (.inl S3.ls)) ?_
  rw [List.length_map, ld]
  walk_at "rd"
  refine ⟨by omega, by omega, fun D hD2 => ?_⟩
  rw [Int.toNat_natCast]
  have s123 := s12.trans s3
  have hl : ∀ r ∈ rs, ∀ l ∈ r, XH.Let n l := fun r hr => lets_of (hR.2.2 r hr)
  refine lc_pure walk_range hD2 ((List.range N).map fun (i : Nat) => V.int (0 + (i : Int))) (fun x => match x with | .int p => rs.all fun xs => decide (XH.walk hs xs p = p) | _ => false) (fun x => x) (by simp) (by omega) (fun _ _ => True.intro)
    (fun i H x H' hi y => ⟨y.1, by rw [y.2]; simp [hi]⟩) (fun x H' hx e2 R R0 g1 g0 => ?_) fun H4 e4 hD4 => ?_
  · obtain ⟨i, hi, rfl⟩ := List.mem_map.mp hx
    have hi := List.mem_range.mp hi
    walk_at "rd"
    refine ⟨rfl, ?_⟩
    walk_at "rd"
    refine ⟨S, L, ds, 1000, fn, ps2, rs.map red, 0 + (i : Int), rfl, S3.same e2, .inl (.inl (e2 _ _ (s3 _ _ eL))), (tL.same s3).same e2, by have := hR.2.1; rw [List.length_map]; omega, by omega, by omega, fun H5 s5 => ?_⟩
    have ek : ((rs.map red).all fun xs => decide (walkF fn xs (0 + (i : Int)) = some (0 + (i : Int)))) = rs.all fun xs => decide (XH.walk hs xs (0 + (i : Int)) = 0 + (i : Int)) := by
      rw [List.all_map]
      refine all_same fun r hr => ?_
      show decide (walkF fn (red r) (0 + (i : Int)) = some (0 + (i : Int))) = _
      rw [walkF_act hD.2.1 hf (fun l h => hl r hr l (red_mem h)) (by omega) (by omega), XH.walk_red hD.2.1 (hl r hr) (by omega) (by omega)]
      simp
    rw [ek]
    have g1 : (rs.all fun xs => decide (XH.walk hs xs (0 + (i : Int)) = 0 + (i : Int))) = true → ∀ H'', Same H' H'' → R (.int (0 + (i : Int))) H'' := g1
    have g0 : (rs.all fun xs => decide (XH.walk hs xs (0 + (i : Int)) = 0 + (i : Int))) = false → ∀ H'', Same H' H'' → R0 H'' := g0
    refine truB ?_
    refine rd_ite (fun e => ?_) fun e => ?_
    · walk_at "rd"
      exact g1 e _ s5
    · exact g0 e _ s5
  · refine (q5 rs hR) D H4 (s123.trans e4) (none_of s123 hD2) ?_
    rw [hD4]
    congr 2
    unfold keptF
    rw [show (fun (i : Nat) => V.int (0 + (i : Int))) = V.int ∘ fun (i : Nat) => (i : Int) by funext i; simp, ← List.map_map, List.filter_map, List.map_id']
    rfl
end
end KP

set_option linter.all false
set_option maxRecDepth 100000
set_option maxHeartbeats 4000000
namespace KP
open PySem PySem.Spec PyProof.Rows L2 XA XB XC XD XM XE XF XG XV XQ
local macro_rules | `(tactic| walk_at "rd") => `(tactic| repeat (first
  | (with_reducible refine rd_seq ?_) | (with_reducible refine rd_asg ?_) | ((with_reducible refine' rd_var ?hv ?_); (case hv => exact rfl)) | (with_reducible refine rd_c ?_) | (with_reducible refine rd_gn ?_)
  | (with_reducible refine rd_op ?_) | (with_reducible refine rd_un ?_) | (with_reducible refine rd_cons ?_) | (with_reducible refine rd_nil ?_) | (with_reducible refine rd_cl ?_) | (with_reducible refine rd_ck ?_) | (with_reducible refine rd_cb ?_)
  | (with_reducible refine rd_ret ?_) | (with_reducible refine rd_drop ?_) | (with_reducible refine rd_ifs ?_) | (with_reducible refine rd_if ?_) | (with_reducible refine rd_test ?_) | (with_reducible refine rd_tb ?_) | (with_reducible refine rd_and ?_) | (with_reducible refine rd_or ?_)
  | (with_reducible refine rd_not ?_) | (with_reducible refine rd_andV ?_) | (with_reducible refine rd_orV ?_) | (with_reducible refine rd_notV ?_) | (with_reducible refine rd_chain ?_) | (with_reducible refine rd_tup ?_) | (with_reducible refine rd_lst ?_)
  | (with_reducible refine rd_bm0 ?_) | (with_reducible refine rd_bm ?_) | (with_reducible refine rd_sl ?_) | (with_reducible refine rd_part ?_) | (with_reducible refine rd_nopart ?_) | (with_reducible refine rd_dget ?_) | (with_reducible refine rd_dput ?_)
  | (with_reducible refine rd_next ?_) | (with_reducible refine rd_lc ?_) | ((with_reducible refine' rd_aug ?hv ?_); (case hv => exact rfl)) | (with_reducible refine rd_cont ?_) | (with_reducible refine rd_gcons ?_) | (with_reducible refine rd_gnil ?_) | (with_reducible refine rd_ifT ?_) | (with_reducible refine rd_yes ?_) | (with_reducible refine rd_tru ?_) | (with_reducible refine rd_cntE ?_) | (with_reducible refine rd_rng1 ?_) | (with_reducible refine rd_lrg ?_) | (with_reducible refine rd_rg2 ?_) | (with_reducible refine rd_back ?_) | (with_reducible refine rd_disp ?_) | (with_reducible refine rd_prN ?_) | (with_reducible refine rd_prC ?_) | (with_reducible refine rd_par ?_) | (with_reducible refine rd_par3 ?_) | (with_reducible refine rd_two ?_) | (with_reducible refine rd_three ?_) | (with_reducible refine rd_one ?_) | (with_reducible refine rd_onei ?_) | (with_reducible refine rd_iL ?_) | (with_reducible refine rd_iT ?_) | (with_reducible refine rd_rng2 ?_) | (with_reducible refine rd_bl ?_) | (with_reducible refine rd_int ?_) | (with_reducible refine rd_I0 ?_) | (with_reducible refine rd_U ?_) | (with_reducible refine rd_din ?_) | (with_reducible refine rd_dnin ?_) | (with_reducible refine rd_dnew ?_) | (with_reducible refine rd_lset ?_) | (with_reducible refine rd_enT ?_) | (with_reducible refine rd_idx ?_) | (with_reducible refine rd_rg1 ?_) | (with_reducible refine rd_tupRg ?_)))

section
variable {P : Program} {w : World} {K : PySem.W.Frag} {mg : Str → Option Value} {base : Heap}
/-! ### own: places in lists -/
theorem seq_at {j n : Nat} (h : j < n) : seqIndex? (j : Int) n = some j := by
  simp only [seqIndex?]
  rw [if_neg (show ¬ ((j : Int) < 0) by omega), if_pos (by simp only [Bool.and_eq_true, decide_eq_true_eq]; omega), Int.toNat_natCast]
theorem erase_map : ∀ (l : List Int) (j : Nat), (l.map V.int).eraseIdx j = (l.eraseIdx j).map V.int
  | [], _ => rfl
  | _ :: _, 0 => rfl
  | x :: l, j + 1 => by simp [erase_map l j]
theorem perm_erase : ∀ (l : List Int) (j : Nat) (h : j < l.length), (l[j] :: l.eraseIdx j).Perm l
  | [], _, h => by simp at h
  | x :: l, 0, _ => .refl _
  | x :: l, j + 1, h => by
    have := perm_erase l j (by simpa using h)
    exact (List.Perm.swap _ _ _).trans (.cons x this)
/-! ### _law_shuffled -/
def spShuf (K : PySem.W.Frag) : Sp := fun vs H Q _ => ∃ (s g c a : Addr) (m : Nat) (xs : List Int), vs = [.ref s, .ref a] ∧ StAt m H s g c ∧ m < 100000 ∧ SqL K H a (xs.map V.int) ∧ xs.length ≤ 400 ∧
  ∀ (p : Addr) (ys : List Int) (H' : Hp), StAt (m + xs.length) H' s g c → XE.Kept s g H H' → H' p = some (.lst (ys.map V.int)) → ys.Perm xs → H p = none → Q (.ref p) H'
abbrev s__law_shuffled : Stmt := top 40
abbrev N__law_shuffled : List Str := ["state", "some", "left", "found"]
theorem sc__law_shuffled : FnScope ["state", "some", "left", "found"] ["state", "some"] (defScope s__law_shuffled) := ⟨rfl, rfl, rfl, by decide +kernel, rfl, by decide +kernel, by decide +kernel⟩
theorem bd__law_shuffled : Bnd s__law_shuffled "_law_shuffled" ["state", "some"] := fun _ _ _ _ _ _ us hl => match us, hl with | [_, _], _ => rfl

theorem d__law_shuffled (T : Bs K mg) (R : Rw K mg "_law_shuffled" s__law_shuffled) (D__law_draw : Df P w K mg base CX0 2 "_law_draw" s__law_draw ["state", "room"] (spDraw K)) : Df P w K mg base CX0 3 "_law_shuffled" s__law_shuffled ["state", "some"] (spShuf K) := by
  refine mk0 R sc__law_shuffled bd__law_shuffled (fun vs H Q E h => ?_) fun f cdv A outer sh H vs Q E hr h => ?_
  · obtain ⟨s, g, c, a, m, xs, rfl, _⟩ := h; rfl
  obtain ⟨s, g, c, a, m, xs, rfl, hS, hm, hL, hl, q⟩ := h
  refine ⟨_, (pss_cons (ps_par (i := 2) (j := 3) rfl sc__law_shuffled.nd rfl rfl (by decide) rfl rfl (pa_cons (pe_callTy call_list_of (by rfl) T.n_list (by decide +kernel) (pa_cons (pv 1) pa_nil)) (pa_cons (pe_lst pa_nil) pa_nil)) (by rfl))
      (pss_cons (ps_while PassesOwn.never (pt_cmpR (op_neU hr.units) (pv 2) (pe_lst pa_nil) (nomark _)) (pss_one (ps_expr (pe_bm PySem.F.plainAttrs_list PySem.F.slot_list_append PySem.F.type_list_append mt_append (pv 3) (pa_cons (pe_bm PySem.F.plainAttrs_list PySem.F.slot_list_pop PySem.F.type_list_pop mt_popAt (pv 2) (pa_cons (pe_d D__law_draw hr (by decide) (by rfl) pass0 (pa_cons (pv 0) (pa_cons (pe_callB call_len (by rfl) T.n_len (by decide +kernel) (pa_cons (pv 2) pa_nil)) pa_nil))) pa_nil)) pa_nil)))))
      (pss_one (ps_ret (pv 3))))), ?_⟩
  walk_at "rd"
  refine ⟨a, _, rfl, .inl hL, fun k hk => ?_⟩
  obtain ⟨s1, e1⟩ := new_at (o := .lst (xs.map V.int)) hk
  walk_at "rd"
  generalize upd H k (.lst (xs.map V.int)) = H1 at s1 e1 ⊢
  refine ⟨lz (by simp), fun l hl2 => ?_⟩
  obtain ⟨s2, e2⟩ := new_at (o := .lst []) hl2
  walk_at "rd"
  have hl0 : H l = none := none_of s1 hl2
  have kl : k ≠ l := ne_of_none e1 hl2
  generalize upd H1 l (.lst []) = H2 at s2 e2 ⊢
  refine ⟨fun mu σ H' => ∃ (ls ys : List Int), σ = [some (.ref s), some (.ref a), some (.ref k), some (.ref l)] ∧ mu = ls.length ∧ StAt (m + ys.length) H' s g c ∧ XE.Kept s g H H' ∧ H' k = some (.lst (ls.map V.int)) ∧ H' l = some (.lst (ys.map V.int)) ∧ (ls ++ ys).Perm xs,
    ⟨xs.length, xs, [], rfl, rfl, hS.same (s1.trans s2), .of (s1.trans s2), s2 _ _ e1, e2, by rw [List.append_nil]⟩, fun mu σ H' h => ?_⟩
  obtain ⟨ls, ys, rfl, rfl, S3, k3, ek, el, hpm⟩ := h
  have hsum := hpm.length_eq
  rw [List.length_append] at hsum
  walk_at "rd"
  refine ⟨lz (by simp), fun p5 hp5 => ?_⟩
  obtain ⟨s5, e5⟩ := new_at (o := .lst []) hp5
  generalize upd H' p5 (.lst []) = H5 at s5 e5 ⊢
  refine neL (ys := []) (.inl (.inl (s5 _ _ ek))) (.inl (.inl e5)) ?_
  walk_at "rd"
  have S5 := S3.same s5
  refine rd_ite (fun e => ?_) fun e => ?_
  · have hne : ls ≠ [] := by simpa using e
    have hpos := List.length_pos_iff.mpr hne
    refine ⟨fun σ' H'' => ∃ m', m' < ls.length ∧ ∃ (ls ys : List Int), σ' = [some (.ref s), some (.ref a), some (.ref k), some (.ref l)] ∧ m' = ls.length ∧ StAt (m + ys.length) H'' s g c ∧ XE.Kept s g H H'' ∧ H'' k = some (.lst (ls.map V.int)) ∧ H'' l = some (.lst (ys.map V.int)) ∧ (ls ++ ys).Perm xs, fun _ _ h => h, ?_⟩
    walk_at "rd"
    refine ⟨tyl (s5 _ _ el), ?_⟩
    walk_at "rd"
    refine ⟨tyl (s5 _ _ ek), ?_⟩
    walk_at "rd"
    refine lenL (.inl (.inl (s5 _ _ ek))) ?_
    rw [List.length_map]
    walk_at "rd"
    refine ⟨s, g, c, m + ys.length, (ls.length : Int), rfl, S5, by omega, by omega, by omega, fun r H6 r0 r1 S6 k6 => ?_⟩
    walk_at "rd"
    obtain ⟨j, rfl⟩ : ∃ j : Nat, r = (j : Int) := ⟨r.toNat, by omega⟩
    have hj : j < ls.length := by omega
    have ek6 := k6.lst S5 (s5 _ _ ek) (hS.ne_n hk)
    have el6 := k6.lst S5 (s5 _ _ el) (hS.ne_n hl0)
    refine ⟨k, _, _, j, .int (ls[j]), rfl, rfl, ek6, by omega, by omega, seq_at (by rw [List.length_map]; exact hj), by rw [List.getElem?_map, List.getElem?_eq_getElem hj] <;> rfl, ?_⟩
    walk_at "rd"
    refine app (l := l) (xs := ys.map V.int) (by rw [upd_ne (Ne.symm kl)]; exact el6) (by rw [List.length_map]; omega) ?_
    walk_at "rd"
    refine ⟨ls.length - 1, by omega, ls.eraseIdx j, ys ++ [ls[j]], rfl, by rw [List.length_eraseIdx_of_lt hj], ?_, ((((k3.trans (.of s5)).trans k6).mut hk).mut hl0), ?_, by rw [upd_same]; simp, ?_⟩
    · have := StAt.mut (o := .lst ((ls.map V.int).eraseIdx j)) hS hk S6
      have := StAt.mut (o := .lst (ys.map V.int ++ [.int (ls[j])])) hS hl0 this
      exact this.mono (by simp only [List.length_append, List.length_cons, List.length_nil]; omega)
    · rw [upd_ne kl, upd_same, erase_map]
    · refine List.Perm.trans ?_ hpm
      refine List.Perm.trans ?_ ((perm_erase ls j hj).append_right ys)
      rw [← List.append_assoc]
      exact (List.perm_append_singleton _ _)
  · have hnil : ls = [] := by simpa using e
    subst hnil
    walk_at "rd"
    simp only [List.length_nil] at hsum
    exact q l ys H5 (S5.mono (by omega)) (k3.trans (.of s5)) (s5 _ _ el) hpm hl0
/-! ### _law_mk_led -/
def spMkLed (K : PySem.W.Frag) : Sp := fun vs H Q _ => ∃ (a b : Addr) (ps : List Addr) (hs : List (List Int)) (N : Nat) (n : Int) (xs : List Int) (p : Int), vs = [.ref a, .ref b, .int p] ∧ SqT K H a (ps.map V.ref) ∧ TupsP H ps hs ∧ XH.Hs N n hs ∧ SqT K H b (xs.map V.int) ∧ (∀ l ∈ xs, XH.Let n l) ∧
  0 ≤ p ∧ p < (N : Int) ∧ Q (.int (XH.walk hs xs p)) H
theorem idx_first {o : List Int} {p : Int} : ∀ m, m < o.idxOf p → o[m]? ≠ some p := by
  induction o with
  | nil => intro m h; simp at h
  | cons x o ih =>
    intro m h
    by_cases e : x = p
    · rw [e, List.idxOf_cons_self] at h
      omega
    · rw [List.idxOf_cons, show (x == p) = false from beq_eq_false_iff_ne.mpr e] at h
      simp only [cond_false] at h
      cases m with
      | zero => intro z; exact e (Option.some.inj (by simpa using z))
      | succ m => simpa using ih m (by omega)
theorem tups_at {ps : List Addr} {hs : List (List Int)} {H : Hp} {i : Nat} (t : TupsP H ps hs) (h : i < hs.length) : ∃ p, atI (ps.map V.ref) (i : Int) = some (.ref p) ∧ Tp H p ((hs.getD i []).map V.int) := by
  obtain ⟨p, e, q⟩ := t.at h
  exact ⟨p, atI_nat (by rw [List.getElem?_map, e]; rfl), q⟩
abbrev s__law_mk_led : Stmt := top 47
abbrev N__law_mk_led : List Str := ["house", "row", "place", "here", "letter"]
theorem sc__law_mk_led : FnScope ["house", "row", "place", "here", "letter"] ["house", "row", "place"] (defScope s__law_mk_led) := ⟨rfl, rfl, rfl, by decide +kernel, rfl, by decide +kernel, by decide +kernel⟩
theorem bd__law_mk_led : Bnd s__law_mk_led "_law_mk_led" ["house", "row", "place"] := fun _ _ _ _ _ _ us hl => match us, hl with | [_, _, _], _ => rfl

theorem d__law_mk_led (T : Bs K mg) (R : Rw K mg "_law_mk_led" s__law_mk_led) : Df P w K mg base CX0 1 "_law_mk_led" s__law_mk_led ["house", "row", "place"] (spMkLed K) := by
  refine mk0 R sc__law_mk_led bd__law_mk_led (fun vs H Q E h => ?_) fun f cdv A outer sh H vs Q E hr h => ?_
  · obtain ⟨a, b, ps, hs, N, n, xs, p, rfl, _⟩ := h; rfl
  obtain ⟨a, b, ps, hs, N, n, xs, p, rfl, hA, hP, hH, hB, hl, p0, p1, q⟩ := h
  refine ⟨_, (pss_cons (ps_set (i := 3) sc__law_mk_led.nd rfl (Or.inl rfl) (pv 2))
      (pss_cons (ps_for PassesOwn.never rfl (pi_U (pv 1)) (pg_name (i := 4) sc__law_mk_led.nd rfl (Or.inl rfl))
        (pss_one (ps_set (i := 3) sc__law_mk_led.nd rfl (Or.inl rfl) (pe_ifExp (pt_cmpR op_gt (pv 4) pe_int (nomark _)) (pe_ix ix_seq (pe_ix ix_seq (pv 0) (pe_op op_sub (pv 4) pe_int) (fun _ _ => rfl)) (pv 3) (fun _ _ => rfl)) (XQ.pe_tidx (pe_ix ix_seq (pv 0) (pe_op op_sub (pe_op op_sub pe_int (pv 4)) pe_int) (fun _ _ => rfl)) (pv 3))))))
      (pss_one (ps_ret (pv 3))))), ?_⟩
  have hn := hH.len
  walk_at "rd"
  refine forT (xs := xs.map V.int) (fun i σ H' => H' = H ∧ ∃ (y : Option V) (r : Int), σ = [some (.ref a), some (.ref b), some (.int p), some (.int r), y] ∧ 0 ≤ r ∧ r < (N : Int) ∧ r = XH.walk hs (xs.take i) p) rfl hB ⟨rfl, none, p, rfl, p0, p1, rfl⟩
    (fun i σ H' _ h => ?_) (fun i x σ H' hx h => ?_) (fun σ H' h => ?_)
  · obtain ⟨rfl, _⟩ := h
    exact hB
  · obtain ⟨rfl, y, r, rfl, r0, r1, er⟩ := h
    obtain ⟨z, hz2, rfl⟩ := item_of hx
    have hz := hl z (List.mem_of_getElem? hz2)
    have nx : XH.walk hs (xs.take (i + 1)) p = XH.act hs z r := by rw [take_more hz2, XH.walk_app, ← er]; rfl
    have q2 := XH.act_in hH hz r0 r1
    obtain ⟨z1, z2, z3⟩ := hz
    obtain ⟨k, rfl⟩ : ∃ k : Nat, r = (k : Int) := ⟨r.toNat, by omega⟩
    walk_at "rd"
    refine rd_ite (fun e => ?_) fun e => ?_
    · have e := of_decide_eq_true e
      walk_at "rd"
      obtain ⟨j, hj⟩ : ∃ j : Nat, z - 1 = (j : Int) := ⟨(z - 1).toNat, by omega⟩
      rw [hj]
      obtain ⟨t, at_, ht⟩ := tups_at (i := j) hP (by omega)
      refine rd_ixT hA at_ ?_
      walk_at "rd"
      have ho := hH.ord (i := j) (by omega)
      refine rd_ixT (v := .int (XH.act hs z k)) ht.sqT (atI_nat ?_) ?_
      · unfold XH.act
        have hk : k < (hs.getD j []).length := by rw [ho.1]; omega
        rw [if_pos e, show (z - 1).toNat = j by omega, Int.toNat_natCast, List.getElem?_map, List.getElem?_eq_getElem hk, List.getD_eq_getElem?_getD (l := hs.getD j []), List.getElem?_eq_getElem hk]
        rfl
      walk_at "rd"
      exact ⟨rfl, _, _, rfl, q2.1, q2.2, nx.symm⟩
    · have e := of_decide_eq_false e
      walk_at "rd"
      obtain ⟨j, hj⟩ : ∃ j : Nat, 0 - z - 1 = (j : Int) := ⟨(0 - z - 1).toNat, by omega⟩
      rw [hj]
      obtain ⟨t, at_, ht⟩ := tups_at (i := j) hP (by omega)
      refine rd_ixT hA at_ ?_
      refine ⟨t, hs.getD j [], rfl, ht, ?_⟩
      walk_at "rd"
      have ho := hH.ord (i := j) (by omega)
      have hm := ho.full r0 r1
      have hi := List.idxOf_lt_length_iff.mpr hm
      refine ⟨k, (hs.getD j []).idxOf (k : Int), rfl, ht, by rw [List.getElem?_eq_getElem hi, List.getElem_idxOf hi], idx_first, ?_⟩
      walk_at "rd"
      have ea : (((hs.getD j []).idxOf (k : Int) : Nat) : Int) = XH.act hs z k := by
        unfold XH.act
        rw [if_neg e, show (-z - 1).toNat = j by omega]
      rw [ea]
      exact ⟨rfl, _, _, rfl, q2.1, q2.2, nx.symm⟩
  · obtain ⟨rfl, y, r, rfl, r0, r1, er⟩ := h
    rw [List.length_map, List.take_length] at er
    rw [← er] at q
    walk_at "rd"
    exact q
end
end KP

set_option linter.all false
set_option maxRecDepth 100000
set_option maxHeartbeats 4000000
namespace KP
open PySem PySem.Spec PyProof.Rows L2 XA XB XC XD XM XE XF XG XV XQ
local macro_rules | `(tactic| walk_at "rd") => `(tactic| repeat (first
  | (with_reducible refine rd_seq ?_) | (with_reducible refine rd_asg ?_) | ((with_reducible refine' rd_var ?hv ?_); (case hv => exact rfl)) | (with_reducible refine rd_c ?_) | (with_reducible refine rd_gn ?_)
  | (with_reducible refine rd_op ?_) | (with_reducible refine rd_un ?_) | (with_reducible refine rd_cons ?_) | (with_reducible refine rd_nil ?_) | (with_reducible refine rd_cl ?_) | (with_reducible refine rd_ck ?_) | (with_reducible refine rd_cb ?_)
  | (with_reducible refine rd_ret ?_) | (with_reducible refine rd_drop ?_) | (with_reducible refine rd_ifs ?_) | (with_reducible refine rd_if ?_) | (with_reducible refine rd_test ?_) | (with_reducible refine rd_tb ?_) | (with_reducible refine rd_and ?_) | (with_reducible refine rd_or ?_)
  | (with_reducible refine rd_not ?_) | (with_reducible refine rd_andV ?_) | (with_reducible refine rd_orV ?_) | (with_reducible refine rd_notV ?_) | (with_reducible refine rd_chain ?_) | (with_reducible refine rd_tup ?_) | (with_reducible refine rd_lst ?_)
  | (with_reducible refine rd_bm0 ?_) | (with_reducible refine rd_bm ?_) | (with_reducible refine rd_sl ?_) | (with_reducible refine rd_part ?_) | (with_reducible refine rd_nopart ?_) | (with_reducible refine rd_dget ?_) | (with_reducible refine rd_dput ?_)
  | (with_reducible refine rd_next ?_) | (with_reducible refine rd_lc ?_) | ((with_reducible refine' rd_aug ?hv ?_); (case hv => exact rfl)) | (with_reducible refine rd_cont ?_) | (with_reducible refine rd_gcons ?_) | (with_reducible refine rd_gnil ?_) | (with_reducible refine rd_ifT ?_) | (with_reducible refine rd_yes ?_) | (with_reducible refine rd_tru ?_) | (with_reducible refine rd_cntE ?_) | (with_reducible refine rd_rng1 ?_) | (with_reducible refine rd_lrg ?_) | (with_reducible refine rd_rg2 ?_) | (with_reducible refine rd_back ?_) | (with_reducible refine rd_disp ?_) | (with_reducible refine rd_prN ?_) | (with_reducible refine rd_prC ?_) | (with_reducible refine rd_par ?_) | (with_reducible refine rd_par3 ?_) | (with_reducible refine rd_two ?_) | (with_reducible refine rd_three ?_) | (with_reducible refine rd_one ?_) | (with_reducible refine rd_onei ?_) | (with_reducible refine rd_iL ?_) | (with_reducible refine rd_iT ?_) | (with_reducible refine rd_rng2 ?_) | (with_reducible refine rd_bl ?_) | (with_reducible refine rd_int ?_) | (with_reducible refine rd_I0 ?_) | (with_reducible refine rd_U ?_) | (with_reducible refine rd_din ?_) | (with_reducible refine rd_dnin ?_) | (with_reducible refine rd_dnew ?_) | (with_reducible refine rd_lset ?_) | (with_reducible refine rd_enT ?_) | (with_reducible refine rd_idx ?_) | (with_reducible refine rd_rg1 ?_) | (with_reducible refine rd_tupRg ?_)))

section
variable {P : Program} {w : World} {K : PySem.W.Frag} {mg : Str → Option Value} {base : Heap}
/-! ### _law_mk_kept -/
def spMkKept (K : PySem.W.Frag) : Sp := fun vs H Q _ => ∃ (a b : Addr) (ps qs : List Addr) (hs rs : List (List Int)) (N : Nat) (n : Int), vs = [.ref a, .ref b] ∧ SqT K H a (ps.map V.ref) ∧ TupsP H ps hs ∧ XH.Hs N n hs ∧ 1 ≤ n ∧ N ≤ 60 ∧ SqL K H b (qs.map V.ref) ∧ Tups K H qs rs ∧ rs.length ≤ 1000 ∧
  (∀ r ∈ rs, ∀ l ∈ r, XH.Let n l) ∧ ∀ p H', Same H H' → H p = none → H' p = some (.lst ((keptF hs rs N).map V.int)) → Q (.ref p) H'
theorem keptF_more {hs rs : List (List Int)} {i : Nat} : keptF hs rs (i + 1) = keptF hs rs i ++ (if (rs.all fun xs => decide (XH.walk hs xs i = i)) = true then [(i : Int)] else []) := by
  unfold keptF
  rw [List.range_succ, List.map_append, List.filter_append]
  congr 1
  show List.filter _ [(i : Int)] = _
  by_cases h : (rs.all fun xs => decide (XH.walk hs xs i = i)) = true
  · rw [if_pos h, List.filter_cons, if_pos h, List.filter_nil]
  · rw [if_neg h, List.filter_cons, if_neg h, List.filter_nil]
theorem keptF_len {hs rs : List (List Int)} {i : Nat} : (keptF hs rs i).length ≤ i := by
  unfold keptF
  refine Nat.le_trans (List.length_filter_le _ _) ?_
  simp
abbrev s__law_mk_kept : Stmt := top 48
abbrev N__law_mk_kept : List Str := ["house", "rows", "found", "place", "row"]
theorem sc__law_mk_kept : FnScope ["house", "rows", "found", "place", "row"] ["house", "rows"] (defScope s__law_mk_kept) := ⟨rfl, rfl, rfl, by decide +kernel, rfl, by decide +kernel, by decide +kernel⟩
theorem bd__law_mk_kept : Bnd s__law_mk_kept "_law_mk_kept" ["house", "rows"] := fun _ _ _ _ _ _ us hl => match us, hl with | [_, _], _ => rfl

theorem d__law_mk_kept (T : Bs K mg) (R : Rw K mg "_law_mk_kept" s__law_mk_kept) (D__law_mk_led : Df P w K mg base CX0 1 "_law_mk_led" s__law_mk_led ["house", "row", "place"] (spMkLed K)) : Df P w K mg base CX0 2 "_law_mk_kept" s__law_mk_kept ["house", "rows"] (spMkKept K) := by
  refine mk0 R sc__law_mk_kept bd__law_mk_kept (fun vs H Q E h => ?_) fun f cdv A outer sh H vs Q E hr h => ?_
  · obtain ⟨a, b, ps, qs, hs, rs, N, n, rfl, _⟩ := h; rfl
  obtain ⟨a, b, ps, qs, hs, rs, N, n, rfl, hA, hP, hH, n1, N60, hB, hR, lr, hl, q⟩ := h
  refine ⟨_, (pss_cons (ps_set (i := 2) sc__law_mk_kept.nd rfl (Or.inl rfl) (pe_lst pa_nil))
      (pss_cons (ps_for PassesOwn.never rfl (pi_range1 (by rfl) T.n_range (pa_cons (pe_callB call_len (by rfl) T.n_len (by decide +kernel) (pa_cons (pe_ix ix_seq (pv 0) pe_int (fun _ _ => rfl)) pa_nil)) pa_nil)) (pg_name (i := 3) sc__law_mk_kept.nd rfl (Or.inr rfl))
        (pss_one (ps_if (pt_cmpR (op_eqU hr.units) (pe_lc (own := [("row", 4)]) rfl sc__law_mk_kept.nd (pi_U (pv 1)) (blkOk_by (own := [("row", 4)]) (N := ["house", "rows", "found", "place", "row"]) (sc := defScope s__law_mk_kept) (by decide +kernel)) (fun _ _ _ _ _ => (pg_name (i := 4) sc__law_mk_kept.nd rfl (Or.inl rfl))) (fun _ _ _ _ _ => pts_one (pt_cmpR (show OpR _ _ (rNeU K) from (op_neU hr.units)) (pe_d D__law_mk_led hr (by decide) (by rfl) pass0 (pa_cons (pv 0) (pa_cons (pv 4) (pa_cons (pv 3) pa_nil)))) (pv 3) (nomark _))) (fun _ _ _ _ _ => pe_int)) (pe_lst pa_nil) (nomark _)) (pss_one (ps_expr (pe_bm PySem.F.plainAttrs_list PySem.F.slot_list_append PySem.F.type_list_append mt_append (pv 2) (pa_cons (pv 3) pa_nil)))) pss_nil)))
      (pss_one (ps_ret (pv 2))))), ?_⟩
  obtain ⟨p0, o0, a0, t0, l0⟩ := first_at hH n1 (hP.tups (K := K))
  have hlq := hR.len
  walk_at "rd"
  refine ⟨lz (by simp), fun k hk => ?_⟩
  obtain ⟨s1, e1⟩ := new_at (o := .lst []) hk
  walk_at "rd"
  generalize upd H k (.lst []) = H1 at s1 e1 ⊢
  refine rd_for ?_
  walk_at "rd"
  refine rd_ixT (sqT_same s1 hA) a0 ?_
  walk_at "rd"
  refine lenT (sqT_same s1 t0) ?_
  rw [List.length_map, l0]
  walk_at "rd"
  refine ⟨by omega, by omega, ?_⟩
  refine for_range (fun i σ H' => ∃ y3 y4 : Option V, σ = [some (.ref a), some (.ref b), some (.ref k), y3, y4] ∧ Same H H' ∧ H' k = some (.lst ((keptF hs rs i).map V.int))) ⟨_, _, rfl, s1, e1⟩ (fun i σ H' hi h => ?_) (fun σ H' h => ?_)
  · obtain ⟨y3, y4, rfl, s2, e2⟩ := h
    have i0 : (0 : Int) + (i : Int) = (i : Int) := by omega
    walk_at "rd"
    refine .inl ?_
    walk_at "rd"
    refine ⟨b, rfl, ⟨_, s2.seq hB⟩, fun D hD => ?_⟩
    refine lc_it walk_list (fun j H3 => Same H' H3 ∧ ∃ zs : List Int, H3 D = some (.lst (zs.map V.int)) ∧ zs.length ≤ j ∧ (zs = [] ↔ ((rs.take j).all fun xs => decide (XH.walk hs xs i = i)) = true)) ⟨same_new hD, [], upd_same, Nat.le_refl _, by simp⟩
      (fun j H3 _ h => h.1.seq (s2.seq hB)) (fun j x H3 H4 hj h y => ?_) fun H3 h => ?_
    · obtain ⟨rfl, hx⟩ := y
      obtain ⟨s3, zs, e3, lz3, iz⟩ := h
      obtain ⟨p2, xs, rfl, _, e5, hx2⟩ := hR.at hx
      have hmem : xs ∈ rs := List.mem_of_getElem? e5
      have nx : ((rs.take (j + 1)).all fun xs => decide (XH.walk hs xs i = i)) = (((rs.take j).all fun xs => decide (XH.walk hs xs i = i)) && decide (XH.walk hs xs i = i)) := by
        rw [take_more e5, List.all_append, List.all_cons, List.all_nil, Bool.and_true]
      walk_at "rd"
      refine ⟨rfl, ?_⟩
      rw [i0]
      walk_at "rd"
      refine ⟨a, p2, ps, hs, N, n, xs, i, rfl, sqT_same (s2.trans s3) hA, hP.same (s2.trans s3), hH, sqT_same (s2.trans s3) hx2, hl xs hmem, by omega, by omega, ?_⟩
      walk_at "rd"
      refine rd_neI ?_
      walk_at "rd"
      rw [List.length_map] at hj
      refine rd_ite (fun e => ?_) fun e => ?_
      · walk_at "rd"
        refine ⟨zs.map V.int, e3, lzl (by rw [List.length_map]; omega), same_mut s3 hD, zs ++ [1], by rw [upd_same]; simp, by simp; omega, ?_⟩
        rw [nx]
        have : decide (XH.walk hs xs i = i) = false := by simpa using e
        rw [this]
        simp
      · refine ⟨s3, zs, e3, by omega, ?_⟩
        rw [nx]
        have : decide (XH.walk hs xs i = i) = true := by simpa using e
        rw [this, Bool.and_true]
        exact iz
    obtain ⟨s3, zs, e3, _, iz⟩ := h
    rw [List.length_map, hlq, List.take_length] at iz
    walk_at "rd"
    refine ⟨lz (by simp), fun p6 h6 => ?_⟩
    obtain ⟨s6, e6⟩ := new_at (o := .lst []) h6
    generalize upd H3 p6 (.lst []) = H6 at s6 e6 ⊢
    refine eqL (ys := []) (.inl (.inl (s6 _ _ e3))) (.inl (.inl e6)) ?_
    walk_at "rd"
    have e7 := s6 _ _ (s3 _ _ e2)
    have s7 := s2.trans (s3.trans s6)
    refine rd_ite (fun e => ?_) fun e => ?_
    · have e := iz.mp (of_decide_eq_true e)
      walk_at "rd"
      refine ⟨tyl e7, ?_⟩
      rw [i0]
      walk_at "rd"
      refine app e7 (by have := keptF_len (hs := hs) (rs := rs) (i := i); rw [List.length_map]; omega) ?_
      walk_at "rd"
      refine ⟨_, _, rfl, same_mut s7 hk, ?_⟩
      rw [upd_same, keptF_more, if_pos e]
      simp
    · have e := of_decide_eq_false e
      refine ⟨_, _, rfl, s7, ?_⟩
      rw [keptF_more, if_neg (fun z => e (iz.mpr z)), List.append_nil]
      exact e7
  · obtain ⟨y3, y4, rfl, s2, e2⟩ := h
    walk_at "rd"
    exact q k H' s2 hk (by simpa using e2)
/-! ### _law_mr_house -/
def spMkHouse (K : PySem.W.Frag) : Sp := fun vs H Q _ => ∃ (s g c : Addr) (m : Nat) (n lo hi : Int), vs = [.ref s, .int n, .int lo, .int hi] ∧ StAt m H s g c ∧ m < 90000 ∧ 1 ≤ n ∧ n ≤ 4 ∧ 1 ≤ lo ∧ lo ≤ hi ∧ hi ≤ 60 ∧
  ∀ p ps hs N H', StAt (m + 250) H' s g c → XE.Kept s g H H' → Tk H' p (ps.map V.ref) → TupsP H' ps hs → XH.Hs N n hs → lo ≤ (N : Int) → (N : Int) ≤ hi → Q (.ref p) H'
theorem range_ord {N : Nat} {ys : List Int} (h : ys.Perm ((List.range N).map fun (i : Nat) => (i : Int))) : XH.Ord N ys := by
  refine ⟨by rw [h.length_eq]; simp, fun x hx => ?_, h.nodup_iff.mpr ?_⟩
  · obtain ⟨i, hi, rfl⟩ := List.mem_map.mp (h.mem_iff.mp hx)
    have := List.mem_range.mp hi
    omega
  · refine List.pairwise_map.mpr (List.nodup_range.imp fun hab z => hab (by omega))
abbrev s__law_mr_house : Stmt := top 57
abbrev N__law_mr_house : List Str := ["state", "deeds", "least", "most", "size", "deed"]
theorem sc__law_mr_house : FnScope ["state", "deeds", "least", "most", "size", "deed"] ["state", "deeds", "least", "most"] (defScope s__law_mr_house) := ⟨rfl, rfl, rfl, by decide +kernel, rfl, by decide +kernel, by decide +kernel⟩
theorem bd__law_mr_house : Bnd s__law_mr_house "_law_mr_house" ["state", "deeds", "least", "most"] := fun _ _ _ _ _ _ us hl => match us, hl with | [_, _, _, _], _ => rfl

theorem d__law_mr_house (T : Bs K mg) (R : Rw K mg "_law_mr_house" s__law_mr_house) (D__law_draw : Df P w K mg base CX0 2 "_law_draw" s__law_draw ["state", "room"] (spDraw K)) (D__law_shuffled : Df P w K mg base CX0 3 "_law_shuffled" s__law_shuffled ["state", "some"] (spShuf K)) :
    Df P w K mg base CX0 5 "_law_mr_house" s__law_mr_house ["state", "deeds", "least", "most"] (spMkHouse K) := by
  refine mk0 R sc__law_mr_house bd__law_mr_house (fun vs H Q E h => ?_) fun f cdv A outer sh H vs Q E hr h => ?_
  · obtain ⟨s, g, c, m, n, lo, hi, rfl, _⟩ := h; rfl
  obtain ⟨s, g, c, m, n, lo, hi, rfl, hS, hm, n1, n4, l1, l2, l3, q⟩ := h
  refine ⟨_, (pss_cons (ps_set (i := 4) sc__law_mr_house.nd rfl (Or.inr rfl) (pe_op op_addU (pv 2) (pe_d D__law_draw hr (by decide) (by rfl) pass0 (pa_cons (pv 0) (pa_cons (pe_op op_addU (pe_op op_sub (pv 3) (pv 2)) pe_int) pa_nil)))))
      (pss_one (ps_ret (pe_callTy call_tupN (by rfl) T.n_tuple (by decide +kernel) (pa_cons (pe_lc (own := [("deed", 5)]) rfl sc__law_mr_house.nd (pi_range1 (by rfl) T.n_range (pa_cons (pv 1) pa_nil)) (blkOk_by (own := [("deed", 5)]) (N := ["state", "deeds", "least", "most", "size", "deed"]) (sc := defScope s__law_mr_house) (by decide +kernel)) (fun _ _ _ _ _ => (pg_name (i := 5) sc__law_mr_house.nd rfl (Or.inl rfl))) (fun _ _ _ _ _ => pts_nil) (fun _ _ _ _ _ => (pe_callTy (show CallR _ (.type "tuple") (rTupOf K) from call_tupN) (by rfl) T.n_tuple (by decide +kernel) (pa_cons (pe_d D__law_shuffled hr (by decide) (by rfl) pass0 (pa_cons (pv 0) (pa_cons (pe_listRg rfl (by rfl) T.n_list (prg_1 (by rfl) T.n_range (pv 4))) pa_nil))) pa_nil)))) pa_nil))))), ?_⟩
  walk_at "rd"
  refine rd_addI ?_
  walk_at "rd"
  refine ⟨s, g, c, m, hi - lo + 1, rfl, hS, by omega, by omega, by omega, fun r H1 r0 r1 S1 k1 => ?_⟩
  refine rd_addI ?_
  walk_at "rd"
  obtain ⟨N, hN⟩ : ∃ N : Nat, lo + r = (N : Int) := ⟨(lo + r).toNat, by omega⟩
  rw [hN]
  refine ⟨by omega, by omega, fun D hD => ?_⟩
  have Dg := S1.ne_n hD
  refine lc_it walk_range (fun i H' => ∃ (ps : List Addr) (hs : List (List Int)), H' D = some (.lst (ps.map V.ref)) ∧ TupsP H' ps hs ∧ hs.length = i ∧ (∀ o ∈ hs, XH.Ord N o) ∧ StAt (m + 1 + 60 * i) H' s g c ∧ XE.Kept s g H H')
    ⟨[], [], upd_same, .nil, rfl, (fun o h => nomatch h), (S1.same (same_new hD)).mono (by omega), k1.trans (.of (same_new hD))⟩ (fun _ _ _ _ => True.intro) (fun i x H2 H3 hi h y => ?_) fun H2 h => ?_
  · obtain ⟨ps, hs, eD, tp, hl, ho, S2, k2⟩ := h
    obtain ⟨rfl, _⟩ := y
    walk_at "rd"
    refine ⟨rfl, ?_⟩
    walk_at "rd"
    refine iteT ?_
    walk_at "rd"
    refine ⟨⟨by omega, by omega, by omega, by omega, by omega⟩, fun k hk => ?_⟩
    obtain ⟨s4, e4⟩ := new_at (o := .lst (rgV 0 N)) hk
    walk_at "rd"
    generalize upd H3 k (.lst (rgV 0 N)) = H4 at s4 e4 ⊢
    have rg : rgV 0 (N : Int) = (((List.range N).map fun (i : Nat) => (i : Int))).map V.int := by
      unfold rgV
      rw [show ((N : Int) - 0).toNat = N by omega, List.map_map]
      refine List.map_congr_left fun i _ => ?_
      simp
    rw [rg] at e4
    refine ⟨s, g, c, k, m + 1 + 60 * i, _, rfl, S2.same s4, by omega, .inl (.inl e4), by simp; omega, fun p5 ys H5 S5 k5 e5 pm h5 => ?_⟩
    have eD5 := k5.lst (S2.same s4) (s4 _ _ eD) Dg
    refine rd_tupOfL (.inl (.inl e5)) fun p6 o hp ho6 hd => ?_
    have s6 : Same H5 (upd H5 p6 (.frz o (.tup (ys.map V.int)))) := same_new hp
    have e6 : Tp (upd H5 p6 (.frz o (.tup (ys.map V.int)))) p6 (ys.map V.int) := ⟨o, upd_same, ho6, hd⟩
    generalize upd H5 p6 (.frz o (.tup (ys.map V.int))) = H6 at s6 e6 ⊢
    have eD6 := s6 _ _ eD5
    refine ⟨_, eD6, lzl (by have := Paired.length tp; rw [List.length_map]; omega), ps ++ [p6], hs ++ [ys], by rw [upd_same]; simp, ?_, by simp [hl], fun o2 h2 => ?_, ?_, ?_⟩
    · have mv : ∀ {q : Addr} {zs : List Int}, Tp H6 q (zs.map V.int) → ∀ u, Tp (upd H6 D u) q (zs.map V.int) := fun ⟨o, a, b⟩ u => ⟨o, by rw [upd_ne (ne_of a eD6 (by intro z; cases z))]; exact a, b⟩
      refine Paired.snoc (L2.Paired.mapP tp fun q zs t => mv (k5.tp (S2.same s4) (t.same s4) |>.same s6) _) (mv e6 _)
    · rcases List.mem_append.mp h2 with z | z
      · exact ho o2 z
      · rw [List.mem_singleton.mp z]
        exact range_ord pm
    · have := StAt.mut (o := .lst (ps.map V.ref ++ [.ref p6])) S1 hD ((S5.same s6).mono (show m + 1 + 60 * i + ((List.range N).map fun (i : Nat) => (i : Int)).length ≤ m + 1 + 60 * (i + 1) by simp; omega))
      exact this
    · have hD0 : H D = none := k1.none S1 hD
      exact ((((k2.trans (.of s4)).trans k5).trans (.of s6)).mut hD0)
  · obtain ⟨ps, hs, eD, tp, hl, ho, S2, k2⟩ := h
    walk_at "rd"
    refine rd_tupOfL (.inl (.inl eD)) fun p o hp ho2 hd => ?_
    refine q p ps hs N _ ((S2.same (same_new hp)).mono (by omega)) (k2.trans (.of (same_new hp))) (.inr ⟨o, upd_same⟩) (tp.same (same_new hp)) ⟨by omega, ho⟩ (by omega) (by omega)
/-! ### _law_mk_bad_rows -/
def BadRowsH (K : PySem.W.Frag) (n : Int) (g : Addr) (H : Hp) (v : V) : Prop := ∃ d, Rp2g K g H v d ∧ Dat2.shp d ∧ (∀ rs, ¬ RowsD n d rs)
theorem BadRowsH.same {n : Int} {g : Addr} {H H' : Hp} {v : V} (h : BadRowsH K n g H v) (e : Same H H') : BadRowsH K n g H' v := by
  obtain ⟨d, a, b⟩ := h
  exact ⟨d, a.same e, b⟩
theorem paired_app {α β : Type} {F : α → β → Prop} {a c : List α} {b d : List β} (h : Paired F a b) (g : Paired F c d) : Paired F (a ++ c) (b ++ d) := by
  induction h with
  | nil => exact g
  | cons x _ ih => exact .cons x ih
def spBadRows (K : PySem.W.Frag) : Sp := fun vs H Q _ => ∃ (s g c : Addr) (m : Nat) (n : Int), vs = [.ref s, .int n] ∧ StAt m H s g c ∧ m < 100000 ∧ 1 ≤ n ∧ n ≤ 4 ∧
  ∀ v H', BadRowsH K n g H' v → StAt (m + 1) H' s g c → XE.Kept s g H H' → Q v H'
theorem not_rows {n : Int} {ds : List Dat} {d : Dat} (hd : d ∈ ds) (h : d.row n = false) : ∀ rs, ¬ RowsD n (.tups ds) rs ∧ ¬ RowsD n (.lsts ds) rs := fun rs => by
  have key : ∀ rs : List (List Int), ds = rs.map (fun r => Dat.tup (r.map V.int)) → ¬ ∀ r ∈ rs, (Dat.tup (r.map V.int)).row n = true := fun rs e z => by
    rw [e] at hd
    obtain ⟨r, hr, rfl⟩ := List.mem_map.mp hd
    rw [z r hr] at h
    cases h
  constructor
  · rintro ⟨e | e, _, z⟩
    · exact key rs (Dat2.tups.inj e) z
    · cases e
  · rintro ⟨e | e, _, z⟩
    · cases e
    · exact key rs (Dat2.lsts.inj e) z
theorem long_rows {n : Int} {ds : List Dat} (h : 6 < ds.length) : ∀ rs, ¬ RowsD n (.lsts ds) rs := fun rs => by
  rintro ⟨e | e, l, _⟩
  · cases e
  · rw [Dat2.lsts.inj e, List.length_map] at h
    omega
abbrev s__law_mk_bad_rows : Stmt := top 51
abbrev N__law_mk_bad_rows : List Str := ["state", "deeds", "some"]
theorem sc__law_mk_bad_rows : FnScope ["state", "deeds", "some"] ["state", "deeds"] (defScope s__law_mk_bad_rows) := ⟨rfl, rfl, rfl, by decide +kernel, rfl, by decide +kernel, by decide +kernel⟩
theorem bd__law_mk_bad_rows : Bnd s__law_mk_bad_rows "_law_mk_bad_rows" ["state", "deeds"] := fun _ _ _ _ _ _ us hl => match us, hl with | [_, _], _ => rfl

theorem d__law_mk_bad_rows (T : Bs K mg) (R : Rw K mg "_law_mk_bad_rows" s__law_mk_bad_rows) (D__law_pick : Df P w K mg base CX0 3 "_law_pick" s__law_pick ["state", "some"] (spPick K)) :
    Df P w K mg base CX0 5 "_law_mk_bad_rows" s__law_mk_bad_rows ["state", "deeds"] (spBadRows K) := by
  refine mk0 R sc__law_mk_bad_rows bd__law_mk_bad_rows (fun vs H Q E h => ?_) fun f cdv A outer sh H vs Q E hr h => ?_
  · obtain ⟨s, g, c, m, n, rfl, _⟩ := h; rfl
  obtain ⟨s, g, c, m, n, rfl, hS, hm, n1, n4, q⟩ := h
  refine ⟨_, (pss_cons (ps_set (i := 2) sc__law_mk_bad_rows.nd rfl (Or.inl rfl) (pe_lst (pa_cons pe_non (pa_cons pe_int (pa_cons pe_str (pa_cons pe_dnewK (pa_cons (pe_lst (pa_cons pe_int pa_nil)) (pa_cons (pe_op XV.op_mulV (pe_lst (pa_cons (pe_tup (pa_cons pe_int pa_nil)) pa_nil)) pe_int) (pa_cons (pe_lst (pa_cons (pe_tup (pa_cons pe_int pa_nil)) (pa_cons (pe_lst (pa_cons pe_int pa_nil)) pa_nil))) (pa_cons (pe_lst (pa_cons (pe_tup (pa_cons pe_int pa_nil)) pa_nil)) (pa_cons (pe_tup (pa_cons (pe_tup (pa_cons pe_int pa_nil)) (pa_cons (pe_tup (pa_cons (pe_op op_addU (pv 1) pe_int) pa_nil)) pa_nil))) (pa_cons (pe_op op_addU (pe_op XV.op_mulV (pe_lst (pa_cons (pe_tup pa_nil) pa_nil)) pe_int) (pe_lst (pa_cons pe_non pa_nil))) pa_nil))))))))))))
      (pss_one (ps_ret (pe_d D__law_pick hr (by decide) (by rfl) pass0 (pa_cons (pv 0) (pa_cons (pv 2) pa_nil)))))), ?_⟩
  walk_at "rd"
  refine fun p1 h1 => ?_
  obtain ⟨s1, e1⟩ := new_at (o := .dK []) h1
  walk_at "rd"
  generalize upd H p1 (.dK []) = H1 at s1 e1 ⊢
  have u1 := s1
  refine ⟨lz (by simp), fun p2 h2 => ?_⟩
  obtain ⟨s2, e2⟩ := new_at (o := .lst [.int 1]) h2
  walk_at "rd"
  generalize upd H1 p2 (.lst [.int 1]) = H2 at s2 e2 ⊢
  refine ⟨lz (by simp), fun p3 h3 => ?_⟩
  obtain ⟨s3, e3⟩ := new_at (o := .tup [.int 1]) h3
  walk_at "rd"
  generalize upd H2 p3 (.tup [.int 1]) = H3 at s3 e3 ⊢
  refine ⟨lz (by simp), fun p4 h4 => ?_⟩
  obtain ⟨s4, e4⟩ := new_at (o := .lst [.ref p3]) h4
  walk_at "rd"
  generalize upd H3 p4 (.lst [.ref p3]) = H4 at s4 e4 ⊢
  refine repOneL e4 (by decide) (by decide) fun p5 h5 => ?_
  obtain ⟨s5, e5⟩ := new_at (o := .lst (List.replicate (Int.toNat 7) (.ref p3))) h5
  walk_at "rd"
  generalize upd H4 p5 (.lst (List.replicate (Int.toNat 7) (.ref p3))) = H5 at s5 e5 ⊢
  refine ⟨lz (by simp), fun p6 h6 => ?_⟩
  obtain ⟨s6, e6⟩ := new_at (o := .tup [.int 1]) h6
  walk_at "rd"
  generalize upd H5 p6 (.tup [.int 1]) = H6 at s6 e6 ⊢
  refine ⟨lz (by simp), fun p7 h7 => ?_⟩
  obtain ⟨s7, e7⟩ := new_at (o := .lst [.int 1]) h7
  walk_at "rd"
  generalize upd H6 p7 (.lst [.int 1]) = H7 at s7 e7 ⊢
  refine ⟨lz (by simp), fun p8 h8 => ?_⟩
  obtain ⟨s8, e8⟩ := new_at (o := .lst [.ref p6, .ref p7]) h8
  walk_at "rd"
  generalize upd H7 p8 (.lst [.ref p6, .ref p7]) = H8 at s8 e8 ⊢
  refine ⟨lz (by simp), fun p9 h9 => ?_⟩
  obtain ⟨s9, e9⟩ := new_at (o := .tup [.int 0]) h9
  walk_at "rd"
  generalize upd H8 p9 (.tup [.int 0]) = H9 at s9 e9 ⊢
  refine ⟨lz (by simp), fun p10 h10 => ?_⟩
  obtain ⟨s10, e10⟩ := new_at (o := .lst [.ref p9]) h10
  walk_at "rd"
  generalize upd H9 p10 (.lst [.ref p9]) = H10 at s10 e10 ⊢
  refine ⟨lz (by simp), fun p11 h11 => ?_⟩
  obtain ⟨s11, e11⟩ := new_at (o := .tup [.int 1]) h11
  walk_at "rd"
  generalize upd H10 p11 (.tup [.int 1]) = H11 at s11 e11 ⊢
  refine rd_addI ?_
  walk_at "rd"
  refine ⟨lz (by simp), fun p12 h12 => ?_⟩
  obtain ⟨s12, e12⟩ := new_at (o := .tup [.int (n + 1)]) h12
  walk_at "rd"
  generalize upd H11 p12 (.tup [.int (n + 1)]) = H12 at s12 e12 ⊢
  refine ⟨lz (by simp), fun p13 h13 => ?_⟩
  obtain ⟨s13, e13⟩ := new_at (o := .tup [.ref p11, .ref p12]) h13
  walk_at "rd"
  generalize upd H12 p13 (.tup [.ref p11, .ref p12]) = H13 at s13 e13 ⊢
  refine ⟨lz (by simp), fun p14 h14 => ?_⟩
  obtain ⟨s14, e14⟩ := new_at (o := .tup []) h14
  walk_at "rd"
  generalize upd H13 p14 (.tup []) = H14 at s14 e14 ⊢
  refine ⟨lz (by simp), fun p15 h15 => ?_⟩
  obtain ⟨s15, e15⟩ := new_at (o := .lst [.ref p14]) h15
  walk_at "rd"
  generalize upd H14 p15 (.lst [.ref p14]) = H15 at s15 e15 ⊢
  refine repOneL e15 (by decide) (by decide) fun p16 h16 => ?_
  obtain ⟨s16, e16⟩ := new_at (o := .lst (List.replicate (Int.toNat 6) (.ref p14))) h16
  walk_at "rd"
  generalize upd H15 p16 (.lst (List.replicate (Int.toNat 6) (.ref p14))) = H16 at s16 e16 ⊢
  refine ⟨lz (by simp), fun p17 h17 => ?_⟩
  obtain ⟨s17, e17⟩ := new_at (o := .lst [.non]) h17
  walk_at "rd"
  generalize upd H16 p17 (.lst [.non]) = H17 at s17 e17 ⊢
  refine catL (s17 _ _ e16) e17 (by simp) fun p18 h18 => ?_
  obtain ⟨s18, e18⟩ := new_at (o := .lst (List.replicate (Int.toNat 6) (.ref p14) ++ [.non])) h18
  walk_at "rd"
  generalize upd H17 p18 (.lst (List.replicate (Int.toNat 6) (.ref p14) ++ [.non])) = H18 at s18 e18 ⊢
  refine ⟨lz (by simp), fun p19 h19 => ?_⟩
  obtain ⟨s19, e19⟩ := new_at (o := .lst [.non, .int 5, .str "", .ref p1, .ref p2, .ref p5, .ref p8, .ref p10, .ref p13, .ref p18]) h19
  walk_at "rd"
  generalize upd H18 p19 (.lst [.non, .int 5, .str "", .ref p1, .ref p2, .ref p5, .ref p8, .ref p10, .ref p13, .ref p18]) = H19 at s19 e19 ⊢
  have t19 := s19
  have t18 := s18.trans t19
  have t17 := s17.trans t18
  have t16 := s16.trans t17
  have t15 := s15.trans t16
  have t14 := s14.trans t15
  have t13 := s13.trans t14
  have t12 := s12.trans t13
  have t11 := s11.trans t12
  have t10 := s10.trans t11
  have t9 := s9.trans t10
  have t8 := s8.trans t9
  have t7 := s7.trans t8
  have t6 := s6.trans t7
  have t5 := s5.trans t6
  have t4 := s4.trans t5
  have t3 := s3.trans t4
  have t2 := s2.trans t3
  have t1 := s1.trans t2
  have e1 := t2 _ _ e1
  have e2 := t3 _ _ e2
  have e3 := t4 _ _ e3
  have e4 := t5 _ _ e4
  have e5 := t6 _ _ e5
  have e6 := t7 _ _ e6
  have e7 := t8 _ _ e7
  have e8 := t9 _ _ e8
  have e9 := t10 _ _ e9
  have e10 := t11 _ _ e10
  have e11 := t12 _ _ e11
  have e12 := t13 _ _ e12
  have e13 := t14 _ _ e13
  have e14 := t15 _ _ e14
  have e15 := t16 _ _ e15
  have e16 := t17 _ _ e16
  have e17 := t18 _ _ e17
  have e18 := t19 _ _ e18
  have S19 := hS.same t1
  have tp : ∀ {p : Addr} {xs : List V}, H19 p = some (.tup xs) → okB xs = true → Rp K H19 (.ref p) (.tup xs) := fun e h => ⟨_, rfl, .inl (.inl e), h⟩
  have ng : ∀ {p : Addr} {H0 : Hp}, H0 p = none → Same H H0 → V.ref p ≠ .ref g := fun e s z => (hS.same s).ne_n e (V.ref.inj z)
  have all : ∀ v ∈ [V.non, .int 5, .str "", .ref p1, .ref p2, .ref p5, .ref p8, .ref p10, .ref p13, .ref p18], BadRowsH K n g H19 v := by
    intro v hv
    simp only [List.mem_cons, List.not_mem_nil, or_false] at hv
    have one : ∀ {v : V} {d : Dat}, Rp K H19 v d → d.isT = false → Dat.isL d = false → v ≠ .ref g → BadRowsH K n g H19 v := fun r a b c => ⟨.one _, ⟨r, c⟩, ⟨a, b⟩, fun rs z => by rcases z.1 with e | e <;> cases e⟩
    have ls : ∀ {p : Addr} {xs : List V} {ds : List Dat}, H19 p = some (.lst xs) → Paired (Rp K H19) xs ds → (∀ rs, ¬ RowsD n (.lsts ds) rs) → V.ref p ≠ .ref g → (∀ x ∈ xs, x ≠ .ref g) → BadRowsH K n g H19 (.ref p) := fun e r h c w => ⟨.lsts _, ⟨c, _, _, rfl, .inl (.inl e), r, w⟩, trivial, h⟩
    have fl : ∀ u : V, plainV u = true → Rp K H19 u (.flat u) := fun u h => ⟨rfl, h⟩
    have li : ∀ {p : Addr} {xs : List V}, H19 p = some (.lst xs) → Rp K H19 (.ref p) (.lst xs) := fun e => ⟨_, rfl, .inl (.inl e)⟩
    have nt : ∀ {p : Addr} {xs : List V}, H19 p = some (.tup xs) → V.ref p ≠ .ref g := fun e z => S19.ne_g e (by intro _ z; cases z) (V.ref.inj z)
    have none1 : ∀ {a : V}, a ≠ .ref g → ∀ x ∈ [a], x ≠ .ref g := fun h x hx => by rw [List.mem_singleton.mp hx]; exact h
    have none2 : ∀ {a b : V}, a ≠ .ref g → b ≠ .ref g → ∀ x ∈ [a, b], x ≠ .ref g := fun h1 h2 x hx => (List.mem_cons.mp hx).elim (fun z => by rw [z]; exact h1) (none1 h2 x)
    have noneR : ∀ {a : V} {k : Nat}, a ≠ .ref g → ∀ x ∈ List.replicate k a, x ≠ .ref g := fun h x hx => by rw [(List.mem_replicate.mp hx).2]; exact h
    have ni : ∀ {i : Int}, V.int i ≠ .ref g := by intro i z; cases z
    rcases hv with rfl | rfl | rfl | rfl | rfl | rfl | rfl | rfl | rfl | rfl
    · exact one (fl _ rfl) rfl rfl (by intro z; cases z)
    · exact one (fl _ rfl) rfl rfl ni
    · exact one (fl _ rfl) rfl rfl (by intro z; cases z)
    · exact one (d := .dct) ⟨p1, [], rfl, e1, by simp⟩ rfl rfl (ng h1 (.refl _))
    · exact ls e2 (.cons (fl (.int 1) rfl) .nil) (fun rs => (not_rows (d := .flat (.int 1)) (by simp) rfl rs).2) (ng h2 s1) (none1 ni)
    · exact ls e5 (prs_rep (tp e3 rfl) _) (long_rows (by simp)) (ng h5 (s1.trans (s2.trans (s3.trans (s4))))) (noneR (nt e3))
    · exact ls e8 (.cons (tp e6 rfl) (.cons (li e7) .nil)) (fun rs => (not_rows (d := .lst [.int 1]) (by simp) rfl rs).2) (ng h8 (s1.trans (s2.trans (s3.trans (s4.trans (s5.trans (s6.trans (s7)))))))) (none2 (nt e6) (ng h7 (s1.trans (s2.trans (s3.trans (s4.trans (s5.trans (s6))))))))
    · exact ls e10 (.cons (tp e9 rfl) .nil) (fun rs => (not_rows (d := .tup [.int 0]) (by simp) (by simp [Dat.row, letV]) rs).2) (ng h10 (s1.trans (s2.trans (s3.trans (s4.trans (s5.trans (s6.trans (s7.trans (s8.trans (s9)))))))))) (none1 (nt e9))
    · exact ⟨.tups _, ⟨nt e13, _, _, rfl, .inl (.inl e13), .cons (tp e11 rfl) (.cons (tp e12 rfl) .nil), none2 (nt e11) (nt e12)⟩, trivial, fun rs => (not_rows (d := .tup [.int (n + 1)]) (by simp) (by simp [Dat.row, letV]; omega) rs).1⟩
    · exact ls (ds := List.replicate (Int.toNat 6) (.tup []) ++ [.flat .non]) e18 (paired_app (prs_rep (tp e14 rfl) _) (.cons (fl _ rfl) .nil)) (long_rows (by simp)) (ng h18 (s1.trans (s2.trans (s3.trans (s4.trans (s5.trans (s6.trans (s7.trans (s8.trans (s9.trans (s10.trans (s11.trans (s12.trans (s13.trans (s14.trans (s15.trans (s16.trans (s17)))))))))))))))))) (fun x hx => (List.mem_append.mp hx).elim (noneR (nt e14) x) (none1 (by intro z; cases z) x))
  refine ⟨s, g, c, p19, m, _, rfl, S19, by omega, .inl (.inl e19), fun z => (hS.same (s1.trans (s2.trans (s3.trans (s4.trans (s5.trans (s6.trans (s7.trans (s8.trans (s9.trans (s10.trans (s11.trans (s12.trans (s13.trans (s14.trans (s15.trans (s16.trans (s17.trans s18)))))))))))))))))).ne_n h19 z, by simp, by simp, fun x H' hx S4 k4 => ?_⟩
  obtain ⟨d, r1, r2, r3⟩ := all x hx
  exact q x H' ⟨d, r1.kept k4 S19, r2, r3⟩ S4 ((XE.Kept.of t1).trans k4)
end
end KP

set_option linter.all false
set_option maxRecDepth 100000
set_option maxHeartbeats 4000000
namespace KP
open PySem PySem.Spec PyProof.Rows L2 XA XB XC XD XM XE XF XG XV XQ
local macro_rules | `(tactic| walk_at "rd") => `(tactic| repeat (first
  | (with_reducible refine rd_seq ?_) | (with_reducible refine rd_asg ?_) | ((with_reducible refine' rd_var ?hv ?_); (case hv => exact rfl)) | (with_reducible refine rd_c ?_) | (with_reducible refine rd_gn ?_)
  | (with_reducible refine rd_op ?_) | (with_reducible refine rd_un ?_) | (with_reducible refine rd_cons ?_) | (with_reducible refine rd_nil ?_) | (with_reducible refine rd_cl ?_) | (with_reducible refine rd_ck ?_) | (with_reducible refine rd_cb ?_)
  | (with_reducible refine rd_ret ?_) | (with_reducible refine rd_drop ?_) | (with_reducible refine rd_ifs ?_) | (with_reducible refine rd_if ?_) | (with_reducible refine rd_test ?_) | (with_reducible refine rd_tb ?_) | (with_reducible refine rd_and ?_) | (with_reducible refine rd_or ?_)
  | (with_reducible refine rd_not ?_) | (with_reducible refine rd_andV ?_) | (with_reducible refine rd_orV ?_) | (with_reducible refine rd_notV ?_) | (with_reducible refine rd_chain ?_) | (with_reducible refine rd_tup ?_) | (with_reducible refine rd_lst ?_)
  | (with_reducible refine rd_bm0 ?_) | (with_reducible refine rd_bm ?_) | (with_reducible refine rd_sl ?_) | (with_reducible refine rd_part ?_) | (with_reducible refine rd_nopart ?_) | (with_reducible refine rd_dget ?_) | (with_reducible refine rd_dput ?_)
  | (with_reducible refine rd_next ?_) | (with_reducible refine rd_lc ?_) | ((with_reducible refine' rd_aug ?hv ?_); (case hv => exact rfl)) | (with_reducible refine rd_cont ?_) | (with_reducible refine rd_gcons ?_) | (with_reducible refine rd_gnil ?_) | (with_reducible refine rd_ifT ?_) | (with_reducible refine rd_yes ?_) | (with_reducible refine rd_tru ?_) | (with_reducible refine rd_cntE ?_) | (with_reducible refine rd_rng1 ?_) | (with_reducible refine rd_lrg ?_) | (with_reducible refine rd_rg2 ?_) | (with_reducible refine rd_back ?_) | (with_reducible refine rd_disp ?_) | (with_reducible refine rd_prN ?_) | (with_reducible refine rd_prC ?_) | (with_reducible refine rd_par ?_) | (with_reducible refine rd_par3 ?_) | (with_reducible refine rd_two ?_) | (with_reducible refine rd_three ?_) | (with_reducible refine rd_one ?_) | (with_reducible refine rd_onei ?_) | (with_reducible refine rd_iL ?_) | (with_reducible refine rd_iT ?_) | (with_reducible refine rd_rng2 ?_) | (with_reducible refine rd_bl ?_) | (with_reducible refine rd_int ?_) | (with_reducible refine rd_I0 ?_) | (with_reducible refine rd_U ?_) | (with_reducible refine rd_din ?_) | (with_reducible refine rd_dnin ?_) | (with_reducible refine rd_dnew ?_) | (with_reducible refine rd_lset ?_) | (with_reducible refine rd_enT ?_) | (with_reducible refine rd_idx ?_) | (with_reducible refine rd_rg1 ?_) | (with_reducible refine rd_tupRg ?_)))


section
variable {P : Program} {w : World} {K : PySem.W.Frag} {mg : Str → Option Value} {base : Heap}
/-! ### own: what is no house -/
theorem no_len {n : Int} {ds : List Dat} (h : (ds.length : Int) ≠ n) : ∀ hs N, ¬ HouseD n (.tups ds) hs N := fun hs N z => by
  have e := congrArg List.length (Dat2.tups.inj z.1)
  rw [List.length_map] at e
  have := z.2.1.len
  omega
theorem no_one {n : Int} {ds : List Dat} {d : Dat} (hd : d ∈ ds) (h : ∀ N, 1 ≤ N → N ≤ 60 → ¬ OrdD N d) : ∀ hs N, ¬ HouseD n (.tups ds) hs N := fun hs N z => by
  rw [Dat2.tups.inj z.1] at hd
  obtain ⟨o, ho, rfl⟩ := List.mem_map.mp hd
  exact h N z.2.2.1 z.2.2.2 ⟨o, rfl, z.2.1.ok o ho⟩
theorem no_two {n : Int} {ds : List Dat} {d e : Dat} (hd : d ∈ ds) (he : e ∈ ds) (h : ∀ N, OrdD N d → ¬ OrdD N e) : ∀ hs N, ¬ HouseD n (.tups ds) hs N := fun hs N z => by
  rw [Dat2.tups.inj z.1] at hd he
  obtain ⟨o, ho, rfl⟩ := List.mem_map.mp hd
  obtain ⟨u, hu, rfl⟩ := List.mem_map.mp he
  exact h N ⟨o, rfl, z.2.1.ok o ho⟩ ⟨u, rfl, z.2.1.ok u hu⟩
theorem ord_in {N : Nat} {o : List Int} (h : OrdD N (.tup (o.map V.int))) : XH.Ord N o := by
  obtain ⟨u, e, q⟩ := h
  rw [(List.map_inj_right (f := V.int) (fun x y z => V.int.inj z)).mp (Dat.tup.inj e)]
  exact q
theorem rep_mem {α : Type} {a : α} {k : Nat} (h : 0 < k) : a ∈ List.replicate k a := List.mem_replicate.mpr ⟨by omega, rfl⟩
/-! ### _law_mr_bad_house -/
def BadHouseH (K : PySem.W.Frag) (n : Int) (g : Addr) (H : Hp) (v : V) : Prop := ∃ d, Rp2g K g H v d ∧ Dat2.shT d ∧ (∀ hs N, ¬ HouseD n d hs N)
theorem BadHouseH.same {n : Int} {g : Addr} {H H' : Hp} {v : V} (h : BadHouseH K n g H v) (e : Same H H') : BadHouseH K n g H' v := by
  obtain ⟨d, a, b⟩ := h
  exact ⟨d, a.same e, b⟩
def spBadHouse (K : PySem.W.Frag) : Sp := fun vs H Q _ => ∃ (s g c : Addr) (m : Nat) (n : Int), vs = [.ref s, .int n] ∧ StAt m H s g c ∧ m < 100000 ∧ 1 ≤ n ∧ n ≤ 4 ∧
  ∀ v H', BadHouseH K n g H' v → StAt (m + 1) H' s g c → XE.Kept s g H H' → Q v H'
/-- so many times one thing, as a house -/
theorem rep_house {n : Int} {s g c : Addr} {m : Nat} {H : Hp} {p : Addr} {v : V} {d : Dat} {k : Nat} (S : StAt m H s g c) (e : Tk H p (List.replicate k v)) (r : Rp K H v d) (hv : v ≠ .ref g) (hl : ∀ xs, d = .tup xs → xs.length ≤ 1000)
    (h : ∀ hs N, ¬ HouseD n (.tups (List.replicate k d)) hs N) : BadHouseH K n g H (.ref p) :=
  ⟨.tups (List.replicate k d), ⟨fun z => e.ne_g S (V.ref.inj z), p, _, rfl, e.sqT, prs_rep r k, fun x hx => by rw [(List.mem_replicate.mp hx).2]; exact hv⟩, fun d' hd xs e => by rw [(List.mem_replicate.mp hd).2] at e; exact hl xs e, h⟩
theorem rep_tup {n : Int} {s g c : Addr} {m : Nat} {H : Hp} {p q : Addr} {xs : List V} {k : Nat} (S : StAt m H s g c) (e : Tk H p (List.replicate k (.ref q))) (r : H q = some (.tup xs)) (hp : okB xs = true) (hl : xs.length ≤ 1000)
    (h : ∀ hs N, ¬ HouseD n (.tups (List.replicate k (.tup xs))) hs N) : BadHouseH K n g H (.ref p) :=
  rep_house (d := .tup xs) S e ⟨q, rfl, .inl (.inl r), hp⟩ (fun z => S.ne_g r (by intro _ z; cases z) (V.ref.inj z)) (fun ys e => by cases e; exact hl) h
abbrev s__law_mr_bad_house : Stmt := top 58
abbrev N__law_mr_bad_house : List Str := ["state", "deeds", "some"]
theorem sc__law_mr_bad_house : FnScope ["state", "deeds", "some"] ["state", "deeds"] (defScope s__law_mr_bad_house) := ⟨rfl, rfl, rfl, by decide +kernel, rfl, by decide +kernel, by decide +kernel⟩
theorem bd__law_mr_bad_house : Bnd s__law_mr_bad_house "_law_mr_bad_house" ["state", "deeds"] := fun _ _ _ _ _ _ us hl => match us, hl with | [_, _], _ => rfl

theorem d__law_mr_bad_house (T : Bs K mg) (R : Rw K mg "_law_mr_bad_house" s__law_mr_bad_house) (D__law_pick : Df P w K mg base CX0 3 "_law_pick" s__law_pick ["state", "some"] (spPick K)) :
    Df P w K mg base CX0 5 "_law_mr_bad_house" s__law_mr_bad_house ["state", "deeds"] (spBadHouse K) := by
  refine mk0 R sc__law_mr_bad_house bd__law_mr_bad_house (fun vs H Q E h => ?_) fun f cdv A outer sh H vs Q E hr h => ?_
  · obtain ⟨s, g, c, m, n, rfl, _⟩ := h; rfl
  obtain ⟨s, g, c, m, n, rfl, hS, hm, n1, n4, q⟩ := h
  refine ⟨_, (pss_cons (ps_set (i := 2) sc__law_mr_bad_house.nd rfl (Or.inl rfl) (pe_lst (pa_cons pe_non (pa_cons pe_int (pa_cons (pe_tup pa_nil) (pa_cons (pe_op XV.op_mulV (pe_lst (pa_cons (pe_lst (pa_cons pe_int pa_nil)) pa_nil)) (pv 1)) (pa_cons (pe_op XV.op_mulV (pe_tup (pa_cons (pe_tup (pa_cons pe_int pa_nil)) pa_nil)) (pe_op op_addU (pv 1) pe_int)) (pa_cons (pe_op XV.op_mulV (pe_tup (pa_cons (pe_tup pa_nil) pa_nil)) (pv 1)) (pa_cons (pe_op XV.op_mulV (pe_tup (pa_cons (pe_tup (pa_cons pe_int (pa_cons pe_int pa_nil))) pa_nil)) (pv 1)) (pa_cons (pe_op XV.op_mulV (pe_tup (pa_cons (pe_tup (pa_cons pe_int (pa_cons pe_int pa_nil))) pa_nil)) (pv 1)) pa_nil))))))))))
      (pss_cons (ps_set (i := 2) sc__law_mr_bad_house.nd rfl (Or.inl rfl) (pe_op op_addU (pv 2) (pe_lst (pa_cons (pe_op XV.op_mulV (pe_tup (pa_cons (pe_lst (pa_cons pe_int (pa_cons pe_int pa_nil))) pa_nil)) (pv 1)) (pa_cons (pe_op XV.op_mulV (pe_tup (pa_cons (pe_tup (pa_cons pe_int (pa_cons pe_bl pa_nil))) pa_nil)) (pv 1)) (pa_cons (pe_op XV.op_mulV (pe_tup (pa_cons (pe_tup (pa_cons pe_int (pa_cons (pe_un un_neg pe_int) pa_nil))) pa_nil)) (pv 1)) (pa_cons (pe_op XV.op_mulV (pe_tup (pa_cons (pe_tupRg rfl (by rfl) T.n_tuple (prg_1 (by rfl) T.n_range pe_int)) pa_nil)) (pv 1)) pa_nil)))))))
      (pss_cons (ps_expr (pe_bm PySem.F.plainAttrs_list PySem.F.slot_list_append PySem.F.type_list_append mt_append (pv 2) (pa_cons (pe_ifExp (pt_cmpR op_gt (pv 1) pe_int (nomark _)) (pe_op op_addU (pe_op XV.op_mulV (pe_tup (pa_cons (pe_tup (pa_cons pe_int (pa_cons pe_int pa_nil))) pa_nil)) (pe_op op_sub (pv 1) pe_int)) (pe_tup (pa_cons (pe_tup (pa_cons pe_int (pa_cons pe_int (pa_cons pe_int pa_nil)))) pa_nil))) (pe_tup (pa_cons (pe_tup (pa_cons pe_int (pa_cons pe_int pa_nil))) pa_nil))) pa_nil)))
      (pss_one (ps_ret (pe_d D__law_pick hr (by decide) (by rfl) pass0 (pa_cons (pv 0) (pa_cons (pe_op op_addU (pv 2) (pe_lst (pa_cons (pe_op XV.op_mulV (pe_tup (pa_cons pe_str pa_nil)) (pv 1)) pa_nil))) pa_nil)))))))), ?_⟩
  walk_at "rd"
  refine ⟨lz (by simp), fun p1 h1 => ?_⟩
  obtain ⟨s1, e1⟩ := new_at (o := .tup []) h1
  walk_at "rd"
  generalize upd H p1 (.tup []) = H1 at s1 e1 ⊢
  have u1 := s1
  refine ⟨lz (by simp), fun p2 h2 => ?_⟩
  obtain ⟨s2, e2⟩ := new_at (o := .lst [.int 0]) h2
  walk_at "rd"
  generalize upd H1 p2 (.lst [.int 0]) = H2 at s2 e2 ⊢
  have u2 := u1.trans s2
  refine ⟨lz (by simp), fun p3 h3 => ?_⟩
  obtain ⟨s3, e3⟩ := new_at (o := .lst [.ref p2]) h3
  walk_at "rd"
  generalize upd H2 p3 (.lst [.ref p2]) = H3 at s3 e3 ⊢
  have u3 := u2.trans s3
  refine repOneL e3 (by omega) (by omega) fun p4 h4 => ?_
  obtain ⟨s4, e4⟩ := new_at (o := .lst (List.replicate n.toNat (.ref p2))) h4
  walk_at "rd"
  generalize upd H3 p4 (.lst (List.replicate n.toNat (.ref p2))) = H4 at s4 e4 ⊢
  have u4 := u3.trans s4
  refine ⟨lz (by simp), fun p5 h5 => ?_⟩
  obtain ⟨s5, e5⟩ := new_at (o := .tup [.int 0]) h5
  walk_at "rd"
  generalize upd H4 p5 (.tup [.int 0]) = H5 at s5 e5 ⊢
  have u5 := u4.trans s5
  refine ⟨lz (by simp), fun p6 h6 => ?_⟩
  obtain ⟨s6, e6⟩ := new_at (o := .tup [.ref p5]) h6
  walk_at "rd"
  generalize upd H5 p6 (.tup [.ref p5]) = H6 at s6 e6 ⊢
  have u6 := u5.trans s6
  refine rd_addI ?_
  refine .inl (repOne (.inl e6) (by omega) (by omega) fun p7 H7 s7 e7 => ?_)
  have u7 := u6.trans s7
  have b7 : BadHouseH K n g H7 (.ref p7) := rep_tup (hS.same u7) e7 (s7 _ _ (s6 _ _ e5)) rfl (by simp) (no_len (by rw [List.length_replicate]; omega))
  walk_at "rd"
  refine ⟨lz (by simp), fun p8 h8 => ?_⟩
  obtain ⟨s8, e8⟩ := new_at (o := .tup []) h8
  walk_at "rd"
  generalize upd H7 p8 (.tup []) = H8 at s8 e8 ⊢
  have u8 := u7.trans s8
  refine ⟨lz (by simp), fun p9 h9 => ?_⟩
  obtain ⟨s9, e9⟩ := new_at (o := .tup [.ref p8]) h9
  walk_at "rd"
  generalize upd H8 p9 (.tup [.ref p8]) = H9 at s9 e9 ⊢
  have u9 := u8.trans s9
  refine .inl (repOne (.inl e9) (by omega) (by omega) fun p10 H10 s10 e10 => ?_)
  have u10 := u9.trans s10
  have kn : 0 < n.toNat := by omega
  have b10 : BadHouseH K n g H10 (.ref p10) := rep_tup (hS.same u10) e10 (s10 _ _ (s9 _ _ e8)) rfl (by simp) (no_one (rep_mem kn) fun N h1 _ z => by have := (ord_in (o := []) z).1; simp at this; omega)
  walk_at "rd"
  refine ⟨lz (by simp), fun p11 h11 => ?_⟩
  obtain ⟨s11, e11⟩ := new_at (o := .tup [.int 0, .int 0]) h11
  walk_at "rd"
  generalize upd H10 p11 (.tup [.int 0, .int 0]) = H11 at s11 e11 ⊢
  have u11 := u10.trans s11
  refine ⟨lz (by simp), fun p12 h12 => ?_⟩
  obtain ⟨s12, e12⟩ := new_at (o := .tup [.ref p11]) h12
  walk_at "rd"
  generalize upd H11 p12 (.tup [.ref p11]) = H12 at s12 e12 ⊢
  have u12 := u11.trans s12
  refine .inl (repOne (.inl e12) (by omega) (by omega) fun p13 H13 s13 e13 => ?_)
  have u13 := u12.trans s13
  have b13 : BadHouseH K n g H13 (.ref p13) := rep_tup (hS.same u13) e13 (s13 _ _ (s12 _ _ e11)) rfl (by simp) (no_one (rep_mem kn) fun N h1 _ z => by have := (ord_in (o := [0, 0]) z).2.2; simp at this)
  walk_at "rd"
  refine ⟨lz (by simp), fun p14 h14 => ?_⟩
  obtain ⟨s14, e14⟩ := new_at (o := .tup [.int 1, .int 2]) h14
  walk_at "rd"
  generalize upd H13 p14 (.tup [.int 1, .int 2]) = H14 at s14 e14 ⊢
  have u14 := u13.trans s14
  refine ⟨lz (by simp), fun p15 h15 => ?_⟩
  obtain ⟨s15, e15⟩ := new_at (o := .tup [.ref p14]) h15
  walk_at "rd"
  generalize upd H14 p15 (.tup [.ref p14]) = H15 at s15 e15 ⊢
  have u15 := u14.trans s15
  refine .inl (repOne (.inl e15) (by omega) (by omega) fun p16 H16 s16 e16 => ?_)
  have u16 := u15.trans s16
  have b16 : BadHouseH K n g H16 (.ref p16) := rep_tup (hS.same u16) e16 (s16 _ _ (s15 _ _ e14)) rfl (by simp) (no_one (rep_mem kn) fun N h1 _ z => by
    have z := ord_in (o := [1, 2]) z
    have h2 := z.2.1 2 (by simp)
    have h3 := z.1
    simp at h3
    omega)
  walk_at "rd"
  refine ⟨lz (by simp), fun p17 h17 => ?_⟩
  obtain ⟨s17, e17⟩ := new_at (o := .lst [.non, .int 5, .ref p1, .ref p4, .ref p7, .ref p10, .ref p13, .ref p16]) h17
  walk_at "rd"
  generalize upd H16 p17 (.lst [.non, .int 5, .ref p1, .ref p4, .ref p7, .ref p10, .ref p13, .ref p16]) = H17 at s17 e17 ⊢
  have u17 := u16.trans s17
  refine ⟨lz (by simp), fun p18 h18 => ?_⟩
  obtain ⟨s18, e18⟩ := new_at (o := .lst [.int 0, .int 1]) h18
  walk_at "rd"
  generalize upd H17 p18 (.lst [.int 0, .int 1]) = H18 at s18 e18 ⊢
  have u18 := u17.trans s18
  refine ⟨lz (by simp), fun p19 h19 => ?_⟩
  obtain ⟨s19, e19⟩ := new_at (o := .tup [.ref p18]) h19
  walk_at "rd"
  generalize upd H18 p19 (.tup [.ref p18]) = H19 at s19 e19 ⊢
  have u19 := u18.trans s19
  refine .inl (repOne (.inl e19) (by omega) (by omega) fun p20 H20 s20 e20 => ?_)
  have u20 := u19.trans s20
  have b20 : BadHouseH K n g H20 (.ref p20) := rep_house (d := .lst [.int 0, .int 1]) (hS.same u20) e20 ⟨p18, rfl, .inl (.inl (s20 _ _ (s19 _ _ e18)))⟩ (fun z => (hS.same u17).ne_n h18 (V.ref.inj z)) (fun xs e => by cases e) (no_one (rep_mem kn) fun N h1 _ z => by obtain ⟨o, e, _⟩ := z; cases e)
  walk_at "rd"
  refine ⟨lz (by simp), fun p21 h21 => ?_⟩
  obtain ⟨s21, e21⟩ := new_at (o := .tup [.int 0, .bl true]) h21
  walk_at "rd"
  generalize upd H20 p21 (.tup [.int 0, .bl true]) = H21 at s21 e21 ⊢
  have u21 := u20.trans s21
  refine ⟨lz (by simp), fun p22 h22 => ?_⟩
  obtain ⟨s22, e22⟩ := new_at (o := .tup [.ref p21]) h22
  walk_at "rd"
  generalize upd H21 p22 (.tup [.ref p21]) = H22 at s22 e22 ⊢
  have u22 := u21.trans s22
  refine .inl (repOne (.inl e22) (by omega) (by omega) fun p23 H23 s23 e23 => ?_)
  have u23 := u22.trans s23
  have b23 : BadHouseH K n g H23 (.ref p23) := rep_tup (hS.same u23) e23 (s23 _ _ (s22 _ _ e21)) rfl (by simp) (no_one (rep_mem kn) fun N h1 _ z => by
    obtain ⟨o, e, _⟩ := z
    have e := Dat.tup.inj e
    match o, e with
    | [_, _], e => simp at e)
  walk_at "rd"
  refine ⟨lz (by simp), fun p24 h24 => ?_⟩
  obtain ⟨s24, e24⟩ := new_at (o := .tup [.int 0, .int (-1)]) h24
  walk_at "rd"
  generalize upd H23 p24 (.tup [.int 0, .int (-1)]) = H24 at s24 e24 ⊢
  have u24 := u23.trans s24
  refine ⟨lz (by simp), fun p25 h25 => ?_⟩
  obtain ⟨s25, e25⟩ := new_at (o := .tup [.ref p24]) h25
  walk_at "rd"
  generalize upd H24 p25 (.tup [.ref p24]) = H25 at s25 e25 ⊢
  have u25 := u24.trans s25
  refine .inl (repOne (.inl e25) (by omega) (by omega) fun p26 H26 s26 e26 => ?_)
  have u26 := u25.trans s26
  have b26 : BadHouseH K n g H26 (.ref p26) := rep_tup (hS.same u26) e26 (s26 _ _ (s25 _ _ e24)) rfl (by simp) (no_one (rep_mem kn) fun N h1 _ z => by have := (ord_in (o := [0, -1]) z).2.1 (-1) (by simp); omega)
  walk_at "rd"
  refine ⟨⟨by decide, by decide, by decide, by decide, by decide⟩, fun p27 h27 => ?_⟩
  obtain ⟨s27, e27⟩ := new_at (o := .tup (rgV 0 61)) h27
  walk_at "rd"
  generalize upd H26 p27 (.tup (rgV 0 61)) = H27 at s27 e27 ⊢
  have u27 := u26.trans s27
  refine ⟨lz (by simp), fun p28 h28 => ?_⟩
  obtain ⟨s28, e28⟩ := new_at (o := .tup [.ref p27]) h28
  walk_at "rd"
  generalize upd H27 p28 (.tup [.ref p27]) = H28 at s28 e28 ⊢
  have u28 := u27.trans s28
  refine .inl (repOne (.inl e28) (by omega) (by omega) fun p29 H29 s29 e29 => ?_)
  have u29 := u28.trans s29
  have b29 : BadHouseH K n g H29 (.ref p29) := rep_tup (hS.same u29) e29 (s29 _ _ (s28 _ _ e27)) (by decide) (by rw [rgV_length]; decide) (no_one (rep_mem kn) fun N h1 h2 z => by
    obtain ⟨o, e, z⟩ := z
    have e := congrArg List.length (Dat.tup.inj e)
    rw [rgV_length, List.length_map, z.1] at e
    have : (61 - 0 : Int).toNat = 61 := by decide
    omega)
  walk_at "rd"
  refine ⟨lz (by simp), fun p30 h30 => ?_⟩
  obtain ⟨s30, e30⟩ := new_at (o := .lst [.ref p20, .ref p23, .ref p26, .ref p29]) h30
  walk_at "rd"
  generalize upd H29 p30 (.lst [.ref p20, .ref p23, .ref p26, .ref p29]) = H30 at s30 e30 ⊢
  have u30 := u29.trans s30
  refine catL (s30 _ _ (s29 _ _ (s28 _ _ (s27 _ _ (s26 _ _ (s25 _ _ (s24 _ _ (s23 _ _ (s22 _ _ (s21 _ _ (s20 _ _ (s19 _ _ (s18 _ _ e17))))))))))))) e30 (by simp) fun p31 h31 => ?_
  obtain ⟨s31, e31⟩ := new_at (o := .lst ([.non, .int 5, .ref p1, .ref p4, .ref p7, .ref p10, .ref p13, .ref p16] ++ [.ref p20, .ref p23, .ref p26, .ref p29])) h31
  walk_at "rd"
  generalize upd H30 p31 (.lst ([.non, .int 5, .ref p1, .ref p4, .ref p7, .ref p10, .ref p13, .ref p16] ++ [.ref p20, .ref p23, .ref p26, .ref p29])) = H31 at s31 e31 ⊢
  have u31 := u30.trans s31
  refine ⟨tyl e31, ?_⟩
  walk_at "rd"
  have h31H : H p31 = none := none_of u30 h31
  refine rd_branch (C := fun x Hx => Same H31 Hx ∧ ∀ o, BadHouseH K n g (upd Hx p31 o) x) (fun x Hx hc => ?_) fun key => ?_
  rotate_left
  · refine rd_ite (fun e => ?_) fun e => ?_
    · have e := of_decide_eq_true e
      walk_at "rd"
      refine ⟨lz (by simp), fun p32 h32 => ?_⟩
      obtain ⟨s32, e32⟩ := new_at (o := .tup [.int 0, .int 1]) h32
      walk_at "rd"
      generalize upd H31 p32 (.tup [.int 0, .int 1]) = H32 at s32 e32 ⊢
      have u32 := u31.trans s32
      refine ⟨lz (by simp), fun p33 h33 => ?_⟩
      obtain ⟨s33, e33⟩ := new_at (o := .tup [.ref p32]) h33
      walk_at "rd"
      generalize upd H32 p33 (.tup [.ref p32]) = H33 at s33 e33 ⊢
      have u33 := u32.trans s33
      refine .inl (repOne (.inl e33) (by omega) (by omega) fun p34 H34 s34 e34 => ?_)
      have u34 := u33.trans s34
      walk_at "rd"
      refine ⟨lz (by simp), fun p35 h35 => ?_⟩
      obtain ⟨s35, e35⟩ := new_at (o := .tup [.int 0, .int 1, .int 2]) h35
      walk_at "rd"
      generalize upd H34 p35 (.tup [.int 0, .int 1, .int 2]) = H35 at s35 e35 ⊢
      have u35 := u34.trans s35
      refine ⟨lz (by simp), fun p36 h36 => ?_⟩
      obtain ⟨s36, e36⟩ := new_at (o := .tup [.ref p35]) h36
      walk_at "rd"
      generalize upd H35 p36 (.tup [.ref p35]) = H36 at s36 e36 ⊢
      have u36 := u35.trans s36
      have k32 := s36 _ _ (s35 _ _ (s34 _ _ (s33 _ _ e32)))
      have k34 := (e34.same s35).same s36
      refine catTk k34 (.inl e36) (by simp; omega) fun p37 H37 s37 e37 => ?_
      have S37 := hS.same (u36.trans s37)
      have eL := s37 _ _ (s36 _ _ (s35 _ _ (s34 _ _ (s33 _ _ (s32 _ _ e31)))))
      have tp : ∀ {o : HO} {p : Addr} {xs : List V}, H36 p = some (.tup xs) → okB xs = true → Rp K (upd H37 p31 o) (.ref p) (.tup xs) := fun e h => ⟨_, rfl, .inl (.inl (by rw [upd_ne (ne_of (s37 _ _ e) eL (by intro z; cases z))]; exact s37 _ _ e)), h⟩
      have nt : ∀ {p : Addr} {xs : List V}, H36 p = some (.tup xs) → V.ref p ≠ .ref g := fun e z => S37.ne_g (s37 _ _ e) (by intro _ z; cases z) (V.ref.inj z)
      refine key _ _ ⟨s32.trans (s33.trans (s34.trans (s35.trans (s36.trans s37)))), fun o => ⟨.tups (List.replicate (n - 1).toNat (.tup [.int 0, .int 1]) ++ [.tup [.int 0, .int 1, .int 2]]),
        ⟨fun z => e37.ne_g S37 (V.ref.inj z), p37, _, rfl, (e37.upd eL).sqT, paired_app (prs_rep (tp k32 rfl) _) (.cons (tp (s36 _ _ e35) rfl) .nil), fun x hx => ?_⟩, fun d hd xs ed => ?_, no_two (d := .tup [.int 0, .int 1]) (e := .tup [.int 0, .int 1, .int 2]) (List.mem_append_left _ (rep_mem (by omega))) (by simp) fun N h1 h2 => ?_⟩⟩
      · rcases List.mem_append.mp hx with z | z
        · rw [(List.mem_replicate.mp z).2]; exact nt k32
        · rw [List.mem_singleton.mp z]; exact nt (s36 _ _ e35)
      · rcases List.mem_append.mp hd with z | z
        · rw [(List.mem_replicate.mp z).2] at ed; cases ed; simp
        · rw [List.mem_singleton.mp z] at ed; cases ed; simp
      · have a1 := (ord_in (o := [0, 1]) h1).1
        have a2 := (ord_in (o := [0, 1, 2]) h2).1
        simp at a1 a2
        omega
    · have e := of_decide_eq_false e
      walk_at "rd"
      refine ⟨lz (by simp), fun p32 h32 => ?_⟩
      obtain ⟨s32, e32⟩ := new_at (o := .tup [.int 0, .int 2]) h32
      walk_at "rd"
      generalize upd H31 p32 (.tup [.int 0, .int 2]) = H32 at s32 e32 ⊢
      have u32 := u31.trans s32
      refine ⟨lz (by simp), fun p33 h33 => ?_⟩
      obtain ⟨s33, e33⟩ := new_at (o := .tup [.ref p32]) h33
      have n1 : n = 1 := by omega
      subst n1
      have eL := s33 _ _ (s32 _ _ e31)
      refine key _ _ ⟨s32.trans s33, fun o => rep_tup (k := 1) (StAt.mut hS h31H (hS.same (u32.trans s33))) (Tk.upd (.inl e33) eL) (by rw [upd_ne (ne_of (s33 _ _ e32) eL (by intro z; cases z))]; exact s33 _ _ e32) rfl (by simp) (no_one (d := .tup [.int 0, .int 2]) (by simp) fun N h1 h2 z => ?_)⟩
      have z := ord_in (o := [0, 2]) z
      have h2 := z.2.1 2 (by simp)
      have h3 := z.1
      simp at h3
      omega
  obtain ⟨sX, bX⟩ := hc
  walk_at "rd"
  refine app (sX _ _ e31) (by simp) ?_
  have sY : Same H30 (upd Hx p31 (.lst ([V.non, .int 5, .ref p1, .ref p4, .ref p7, .ref p10, .ref p13, .ref p16] ++ [.ref p20, .ref p23, .ref p26, .ref p29] ++ [x]))) := same_mut (s31.trans sX) h31
  have eY : upd Hx p31 (.lst ([V.non, .int 5, .ref p1, .ref p4, .ref p7, .ref p10, .ref p13, .ref p16] ++ [.ref p20, .ref p23, .ref p26, .ref p29] ++ [x])) p31 = some (.lst ([V.non, .int 5, .ref p1, .ref p4, .ref p7, .ref p10, .ref p13, .ref p16] ++ [.ref p20, .ref p23, .ref p26, .ref p29] ++ [x])) := upd_same
  have bY := bX (.lst ([V.non, .int 5, .ref p1, .ref p4, .ref p7, .ref p10, .ref p13, .ref p16] ++ [.ref p20, .ref p23, .ref p26, .ref p29] ++ [x]))
  walk_at "rd"
  generalize upd Hx p31 (.lst ([V.non, .int 5, .ref p1, .ref p4, .ref p7, .ref p10, .ref p13, .ref p16] ++ [.ref p20, .ref p23, .ref p26, .ref p29] ++ [x])) = HY at sY eY bY ⊢
  have uY := u30.trans sY
  refine ⟨lz (by simp), fun p40 h40 => ?_⟩
  obtain ⟨s40, e40⟩ := new_at (o := .tup [.str "01"]) h40
  walk_at "rd"
  generalize upd HY p40 (.tup [.str "01"]) = H40 at s40 e40 ⊢
  have u40 := uY.trans s40
  refine .inl (repOne (.inl e40) (by omega) (by omega) fun p41 H41 s41 e41 => ?_)
  have u41 := u40.trans s41
  have b41 : BadHouseH K n g H41 (.ref p41) := rep_house (d := .flat (.str "01")) (hS.same u41) e41 ⟨rfl, rfl⟩ (by intro z; cases z) (fun xs e => by cases e) (no_one (rep_mem kn) fun N h1 _ z => by obtain ⟨o, e, _⟩ := z; cases e)
  walk_at "rd"
  refine ⟨lz (by simp), fun p42 h42 => ?_⟩
  obtain ⟨s42, e42⟩ := new_at (o := .lst [.ref p41]) h42
  walk_at "rd"
  generalize upd H41 p42 (.lst [.ref p41]) = H42 at s42 e42 ⊢
  have u42 := u41.trans s42
  refine catL (s42 _ _ (s41 _ _ (s40 _ _ eY))) e42 (by simp) fun p43 h43 => ?_
  obtain ⟨s43, e43⟩ := new_at (o := .lst ([V.non, .int 5, .ref p1, .ref p4, .ref p7, .ref p10, .ref p13, .ref p16] ++ [.ref p20, .ref p23, .ref p26, .ref p29] ++ [x] ++ [.ref p41])) h43
  walk_at "rd"
  generalize upd H42 p43 (.lst ([V.non, .int 5, .ref p1, .ref p4, .ref p7, .ref p10, .ref p13, .ref p16] ++ [.ref p20, .ref p23, .ref p26, .ref p29] ++ [x] ++ [.ref p41])) = H43 at s43 e43 ⊢
  have u43 := u42.trans s43
  have tA : Same H30 H43 := sY.trans (s40.trans (s41.trans (s42.trans s43)))
  have tB : Same H29 H43 := s30.trans tA
  have tC : Same H26 H43 := s27.trans (s28.trans (s29.trans tB))
  have tD : Same H23 H43 := s24.trans (s25.trans (s26.trans tC))
  have tE : Same H20 H43 := s21.trans (s22.trans (s23.trans tD))
  have tF : Same H16 H43 := s17.trans (s18.trans (s19.trans (s20.trans tE)))
  have tG : Same H13 H43 := s14.trans (s15.trans (s16.trans tF))
  have tH : Same H10 H43 := s11.trans (s12.trans (s13.trans tG))
  have tI : Same H7 H43 := s8.trans (s9.trans (s10.trans tH))
  have tJ : Same H4 H43 := s5.trans (s6.trans (s7.trans tI))
  have tK : Same H1 H43 := s2.trans (s3.trans (s4.trans tJ))
  have S43 := hS.same u43
  have all : ∀ v ∈ [V.non, .int 5, .ref p1, .ref p4, .ref p7, .ref p10, .ref p13, .ref p16] ++ [.ref p20, .ref p23, .ref p26, .ref p29] ++ [x] ++ [.ref p41], BadHouseH K n g H43 v := by
    intro v hv
    simp only [List.mem_append, List.mem_cons, List.not_mem_nil, or_false] at hv
    have one : ∀ u : V, plainV u = true → u ≠ .ref g → (Dat.flat u).isT = false → BadHouseH K n g H43 u := fun u a b c => ⟨.one (.flat u), ⟨⟨rfl, a⟩, b⟩, c, fun hs N z => by cases z.1⟩
    rcases hv with (((rfl | rfl | rfl | rfl | rfl | rfl | rfl | rfl) | (rfl | rfl | rfl | rfl)) | rfl) | rfl
    · exact one _ rfl (by intro z; cases z) rfl
    · exact one _ rfl (by intro z; cases z) rfl
    · exact ⟨.tups [], ⟨fun z => S43.ne_g (tK _ _ e1) (by intro _ z; cases z) (V.ref.inj z), p1, [], rfl, .inl (.inl (tK _ _ e1)), .nil, (fun x hx => nomatch hx)⟩, (fun d hd => nomatch hd), no_len (by simp; omega)⟩
    · exact ⟨.lsts (List.replicate n.toNat (.lst [.int 0])), ⟨fun z => (hS.same u3).ne_n h4 (V.ref.inj z), p4, _, rfl, .inl (.inl (tJ _ _ e4)), prs_rep (d := .lst [.int 0]) ⟨p2, rfl, .inl (.inl (tJ _ _ (s4 _ _ (s3 _ _ e2))))⟩ _, fun y hy => by rw [(List.mem_replicate.mp hy).2]; exact fun z => (hS.same u1).ne_n h2 (V.ref.inj z)⟩, trivial, fun hs N z => by cases z.1⟩
    · exact b7.same tI
    · exact b10.same tH
    · exact b13.same tG
    · exact b16.same tF
    · exact b20.same tE
    · exact b23.same tD
    · exact b26.same tC
    · exact b29.same tB
    · exact bY.same (s40.trans (s41.trans (s42.trans s43)))
    · exact b41.same (s42.trans s43)
  refine ⟨s, g, c, p43, m, _, rfl, S43, by omega, .inl (.inl e43), fun z => (hS.same u42).ne_n h43 z, by simp, by simp, fun x H' hx S4 k4 => ?_⟩
  obtain ⟨d, r1, r2, r3⟩ := all x hx
  exact q x H' ⟨d, r1.kept k4 S43, r2, r3⟩ S4 ((XE.Kept.of u43).trans k4)
end
end KP

set_option linter.all false
set_option maxRecDepth 100000
set_option maxHeartbeats 4000000
namespace KP
open PySem PySem.Spec PyProof.Rows L2 XA XB XC XD XM XE XF XG XV XQ
local macro_rules | `(tactic| walk_at "rd") => `(tactic| repeat (first
  | (with_reducible refine rd_seq ?_) | (with_reducible refine rd_asg ?_) | ((with_reducible refine' rd_var ?hv ?_); (case hv => exact rfl)) | (with_reducible refine rd_c ?_) | (with_reducible refine rd_gn ?_)
  | (with_reducible refine rd_op ?_) | (with_reducible refine rd_un ?_) | (with_reducible refine rd_cons ?_) | (with_reducible refine rd_nil ?_) | (with_reducible refine rd_cl ?_) | (with_reducible refine rd_ck ?_) | (with_reducible refine rd_cb ?_)
  | (with_reducible refine rd_ret ?_) | (with_reducible refine rd_drop ?_) | (with_reducible refine rd_ifs ?_) | (with_reducible refine rd_if ?_) | (with_reducible refine rd_test ?_) | (with_reducible refine rd_tb ?_) | (with_reducible refine rd_and ?_) | (with_reducible refine rd_or ?_)
  | (with_reducible refine rd_not ?_) | (with_reducible refine rd_andV ?_) | (with_reducible refine rd_orV ?_) | (with_reducible refine rd_notV ?_) | (with_reducible refine rd_chain ?_) | (with_reducible refine rd_tup ?_) | (with_reducible refine rd_lst ?_)
  | (with_reducible refine rd_bm0 ?_) | (with_reducible refine rd_bm ?_) | (with_reducible refine rd_sl ?_) | (with_reducible refine rd_part ?_) | (with_reducible refine rd_nopart ?_) | (with_reducible refine rd_dget ?_) | (with_reducible refine rd_dput ?_)
  | (with_reducible refine rd_next ?_) | (with_reducible refine rd_lc ?_) | ((with_reducible refine' rd_aug ?hv ?_); (case hv => exact rfl)) | (with_reducible refine rd_cont ?_) | (with_reducible refine rd_gcons ?_) | (with_reducible refine rd_gnil ?_) | (with_reducible refine rd_ifT ?_) | (with_reducible refine rd_yes ?_) | (with_reducible refine rd_tru ?_) | (with_reducible refine rd_cntE ?_) | (with_reducible refine rd_rng1 ?_) | (with_reducible refine rd_lrg ?_) | (with_reducible refine rd_rg2 ?_) | (with_reducible refine rd_back ?_) | (with_reducible refine rd_disp ?_) | (with_reducible refine rd_prN ?_) | (with_reducible refine rd_prC ?_) | (with_reducible refine rd_par ?_) | (with_reducible refine rd_par3 ?_) | (with_reducible refine rd_two ?_) | (with_reducible refine rd_three ?_) | (with_reducible refine rd_one ?_) | (with_reducible refine rd_onei ?_) | (with_reducible refine rd_iL ?_) | (with_reducible refine rd_iT ?_) | (with_reducible refine rd_rng2 ?_) | (with_reducible refine rd_bl ?_) | (with_reducible refine rd_int ?_) | (with_reducible refine rd_I0 ?_) | (with_reducible refine rd_U ?_) | (with_reducible refine rd_din ?_) | (with_reducible refine rd_dnin ?_) | (with_reducible refine rd_dnew ?_) | (with_reducible refine rd_lset ?_) | (with_reducible refine rd_enT ?_) | (with_reducible refine rd_idx ?_) | (with_reducible refine rd_rg1 ?_) | (with_reducible refine rd_tupRg ?_)))

/-! ### _law_caught -/
abbrev s__law_caught : Stmt := top 41
abbrev N__law_caught : List Str := ["action", "found", "error"]
theorem sc__law_caught : FnScope ["action", "found", "error"] ["action"] (defScope s__law_caught) := ⟨rfl, rfl, rfl, by decide +kernel, rfl, by decide +kernel, by decide +kernel⟩
theorem bd__law_caught : Bnd s__law_caught "_law_caught" ["action"] := fun _ _ _ _ _ _ us hl => match us, hl with | [_], _ => rfl

theorem gives__law_caught {X : Cx} {g CS : Addr} {cdg : Value} {q : Str} (hme : X.mg "KeepError" = some (.ref CS)) : LamX.GivesTo X ["action", "found", "error"] "_law_caught" (defScope s__law_caught) g cdg (defBody s__law_caught) "action" q (TCaught X.K CS) :=
  caught_gives (p15 := ⟨0, 0, 0, 0⟩) (e := "KeepError") (by decide) rfl hme (by decide) rfl rfl
theorem pe_lam__law_caught {X : Cx} {st0 : Stmt} {P c CS : Addr} {k : Nat} {params : Arguments} {body : Expr} {scope : Scope} {t : XK → TE} {p lpos pos : Pos} (R : Rw X.K X.mg "_law_caught" s__law_caught) (TB : LamX.TabB X.base X.mg c P) (hcode : X.env.code = .ref c) (hme : X.mg "KeepError" = some (.ref CS))
    (hr : Room (k + 2) X.A) (hg : Gl X "_law_caught") (hsc : X.env.scope = defScope st0) (L : LamX.lamSB (defScope st0) scope = true)
    (hbody : ∀ (A : Around) (outer : List Env) (s : Shared) (H : Hp) (E : XK) (f c' : Addr), Room k (A.deeper (LamX.lamEnv X scope s.heap.objs.size f c')) → PE (LamX.lamCx X A outer s H E scope f c') body (t E))
    (hdef : defaultsOf params X.env = ([], []) := by rfl)
    (hbind : ∀ (q : Str) (cl : List (Str × Addr)) (pm cv ctv : Value), bindArgs (PySem.W.kla_fn "<lambda>" q params body scope cl pm cv ctv) ⟨[], []⟩ = pure [] := by intros; rfl) :
    PE X (.Call (.Name "_law_caught" p) [.Lambda params body scope lpos] [] pos) (LamX.tLam [(P, X.env.qual ++ "<lambda>")] (TCaught X.K CS) t) := by
  obtain ⟨g, fd, F, hm⟩ := R
  have b := F.bindsN bd__law_caught
  have kp := F.kp
  obtain ⟨oc, od, dV, kV, doc, pm, an, cdv, ct, osl, rfl, lk, hcd, _, _⟩ := F.ex
  exact LamX.pe_lamcall hg hm kp lk hcd b sc__law_caught rfl (.inl rfl) (gives__law_caught hme) TB hcode (List.mem_singleton_self _) (fun q hq _ => by rw [List.mem_singleton.mp hq]) hr (LamX.lamS_by (by rw [hsc]; exact L)) hdef hbind hbody
section
variable {P : Program} {w : World} {K : PySem.W.Frag} {mg : Str → Option Value} {base : Heap}
/-! ### _law_mr_house_faults -/
def spFaults (K : PySem.W.Frag) (Tb : List (Addr × Str)) : Sp := fun vs H Q _ => ∃ (s g c h : Addr) (m : Nat) (n : Int) (ps : List Addr) (hs : List (List Int)) (N : Nat), vs = [.ref s, .int n, .ref h] ∧ StAt m H s g c ∧ m < 80000 ∧ 1 ≤ n ∧ n ≤ 4 ∧ LamX.Tabs Tb H ∧ Tk H h (ps.map V.ref) ∧ TupsP H ps hs ∧ XH.Hs N n hs ∧ 1 ≤ N ∧ N ≤ 60 ∧
  ∀ H', StAt (m + 10) H' s g c → LamX.Tabs Tb H' → Q (.bl true) H'
theorem house_rp {n : Int} {H : Hp} {h : Addr} {ps : List Addr} {hs : List (List Int)} {N : Nat} (e : Tk H h (ps.map V.ref)) (t : Tups K H ps hs) (hH : XH.Hs N n hs) (N1 : 1 ≤ N) (N60 : N ≤ 60) : Rp2 K H (.ref h) (.tups (hs.map fun o => .tup (o.map V.int))) ∧ HouseD n (.tups (hs.map fun o => .tup (o.map V.int))) hs N ∧ Dat2.shT (.tups (hs.map fun o => .tup (o.map V.int))) :=
  ⟨⟨h, _, rfl, e.sqT, of_tups t fun o ho => by rw [(hH.ok o ho).1]; omega⟩, ⟨rfl, hH, N1, N60⟩, fun d hd xs ex => by
    obtain ⟨o, ho, rfl⟩ := List.mem_map.mp hd
    rw [← Dat.tup.inj ex, List.length_map, (hH.ok o ho).1]
    omega⟩
theorem house_one {n : Int} {d : Dat2} {hs hs' : List (List Int)} {N N' : Nat} (n1 : 1 ≤ n) (h : HouseD n d hs N) (h' : HouseD n d hs' N') : hs' = hs ∧ N' = N := by
  have e := Dat2.tups.inj (h.1.symm.trans h'.1)
  have e2 : hs = hs' := (List.map_inj_right (f := fun o : List Int => Dat.tup (o.map V.int)) (fun x y z => (List.map_inj_right (f := V.int) (fun x y z => V.int.inj z)).mp (Dat.tup.inj z))).mp e
  subst e2
  refine ⟨rfl, ?_⟩
  have l := h.2.1.len
  cases hs with
  | nil => simp at l; omega
  | cons o r => rw [← (h.2.1.ok o (by simp)).1, ← (h'.2.1.ok o (by simp)).1]
abbrev s__law_mr_house_faults : Stmt := top 59
abbrev N__law_mr_house_faults : List Str := ["state", "deeds", "house_here", "many", "some", "error", "bad", "odd", "place", "rows_bad", "spoilt", "wrong"]
theorem sc__law_mr_house_faults : FnScope ["state", "deeds", "house_here", "many", "some", "error", "bad", "odd", "place", "rows_bad", "spoilt", "wrong"] ["state", "deeds", "house_here"] (defScope s__law_mr_house_faults) := ⟨rfl, rfl, rfl, by decide +kernel, rfl, by decide +kernel, by decide +kernel⟩
theorem bd__law_mr_house_faults : Bnd s__law_mr_house_faults "_law_mr_house_faults" ["state", "deeds", "house_here"] := fun _ _ _ _ _ _ us hl => match us, hl with | [_, _, _], _ => rfl

theorem d__law_mr_house_faults {Pt c0 : Addr} (T : Bs K mg) (Ec : Es K) (TB : LamX.TabB base mg c0 Pt) (R : RwC K mg "_law_mr_house_faults" s__law_mr_house_faults c0) (R__law_caught : Rw K mg "_law_caught" s__law_caught)
    (D__law_pick : Df P w K mg base CX0 3 "_law_pick" s__law_pick ["state", "some"] (spPick K))
    (D__law_mk_bad_deeds : Df P w K mg base CX0 5 "_law_mk_bad_deeds" s__law_mk_bad_deeds ["state"] (spBadDeeds K))
    (D__law_mk_bad_row : Df P w K mg base CX0 5 "_law_mk_bad_row" s__law_mk_bad_row ["state", "deeds"] (spBadRow K))
    (D__law_mk_bad_rows : Df P w K mg base CX0 5 "_law_mk_bad_rows" s__law_mk_bad_rows ["state", "deeds"] (spBadRows K))
    (D__law_mr_bad_house : Df P w K mg base CX0 5 "_law_mr_bad_house" s__law_mr_bad_house ["state", "deeds"] (spBadHouse K))
    (D_is_house : Df P w K mg base (L2.CX P w) 7 "is_house" s_is_house ["deeds", "value"] (spIsHouse K))
    (D_led : Df P w K mg base (L2.CX P w) 7 "led" s_led ["deeds", "house", "row", "place"] (spLed K))
    (D_kept : Df P w K mg base (L2.CX P w) 7 "kept" s_kept ["deeds", "house", "rows"] (spKept K)) :
    Df P w K mg base CX0 10 "_law_mr_house_faults" s__law_mr_house_faults ["state", "deeds", "house_here"] (spFaults K [(Pt, "_law_mr_house_faults.<locals>.<lambda>")]) := by
  refine mk0C R sc__law_mr_house_faults bd__law_mr_house_faults (fun vs H Q E h => ?_) fun f A outer sh H vs Q E hr h => ?_
  · obtain ⟨s, g, c, h, m, n, ps, hs, N, rfl, _⟩ := h; rfl
  obtain ⟨s, g, c, hh, m, n, ps, hs, N, rfl, hS, hm, n1, n4, hT, hA, hP, hH, N1, N60, q⟩ := h
  refine ⟨_, (pss_cons (ps_asg (pe_tup (pa_cons (pe_d D__law_mk_bad_deeds hr (by decide) (by rfl) pass0 (pa_cons (pv 0) pa_nil)) (pa_cons (pe_d D__law_mk_bad_row hr (by decide) (by rfl) pass0 (pa_cons (pv 0) (pa_cons (pv 1) pa_nil))) (pa_cons (pe_d D__law_mr_bad_house hr (by decide) (by rfl) pass0 (pa_cons (pv 0) (pa_cons (pv 1) pa_nil))) pa_nil)))) (pg_tup (by rfl) (pgs_cons (pg_name (i := 11) sc__law_mr_house_faults.nd rfl (Or.inr rfl)) (pgs_cons (pg_name (i := 6) sc__law_mr_house_faults.nd rfl (Or.inr rfl)) (pgs_cons (pg_name (i := 7) sc__law_mr_house_faults.nd rfl (Or.inr rfl)) pgs_nil)))))
      (pss_cons (ps_asg (pe_tup (pa_cons (pe_callB call_len (by rfl) T.n_len (by decide +kernel) (pa_cons (pe_ix ix_seq (pv 2) pe_int (fun _ _ => rfl)) pa_nil)) (pa_cons (pe_d D__law_mk_bad_rows hr (by decide) (by rfl) pass0 (pa_cons (pv 0) (pa_cons (pv 1) pa_nil))) pa_nil))) (pg_tup (by rfl) (pgs_cons (pg_name (i := 3) sc__law_mr_house_faults.nd rfl (Or.inl rfl)) (pgs_cons (pg_name (i := 9) sc__law_mr_house_faults.nd rfl (Or.inr rfl)) pgs_nil))))
      (pss_cons (ps_set (i := 8) sc__law_mr_house_faults.nd rfl (Or.inr rfl) (pe_d D__law_pick hr (by decide) (by rfl) pass0 (pa_cons (pv 0) (pa_cons (pe_lst (pa_cons pe_non (pa_cons (pe_un un_neg pe_int) (pa_cons (pv 3) (pa_cons pe_bl (pa_cons pe_str (pa_cons (pe_tup (pa_cons pe_int pa_nil)) (pa_cons (pe_lst (pa_cons pe_int pa_nil)) pa_nil)))))))) pa_nil))))
      (pss_cons (ps_if (pt_not (pt_tru (pe_callB call_isU (by rfl) T.n_isinstance (by decide +kernel) (pa_cons (pe_lam__law_caught R__law_caught TB rfl T.x_KeepError.g hr (by rfl) (st0 := s__law_mr_house_faults) rfl (by decide +kernel) (fun A outer s H E f c' hr => (pe_d D_led hr (by decide) (by rfl) passLam (pa_cons (pv 11) (pa_cons (pv 7) (pa_cons (pv 6) (pa_cons (pv 8) pa_nil))))))) (pa_cons (pe_gc T.x_BadDeeds.g (by rfl)) pa_nil))) (by intro _; rfl))) (pss_one (ps_ret pe_bl)) pss_nil)
      (pss_cons (ps_if (pt_not (pt_tru (pe_callB call_isU (by rfl) T.n_isinstance (by decide +kernel) (pa_cons (pe_lam__law_caught R__law_caught TB rfl T.x_KeepError.g hr (by rfl) (st0 := s__law_mr_house_faults) rfl (by decide +kernel) (fun A outer s H E f c' hr => (pe_d D_led hr (by decide) (by rfl) passLam (pa_cons (pv 1) (pa_cons (pv 7) (pa_cons (pv 6) (pa_cons (pv 8) pa_nil))))))) (pa_cons (pe_gc T.x_BadHouse.g (by rfl)) pa_nil))) (by intro _; rfl))) (pss_one (ps_ret pe_bl)) pss_nil)
      (pss_cons (ps_if (pt_not (pt_tru (pe_callB call_isU (by rfl) T.n_isinstance (by decide +kernel) (pa_cons (pe_lam__law_caught R__law_caught TB rfl T.x_KeepError.g hr (by rfl) (st0 := s__law_mr_house_faults) rfl (by decide +kernel) (fun A outer s H E f c' hr => (pe_d D_led hr (by decide) (by rfl) passLam (pa_cons (pv 1) (pa_cons (pv 2) (pa_cons (pv 6) (pa_cons (pv 8) pa_nil))))))) (pa_cons (pe_gc T.x_BadRow.g (by rfl)) pa_nil))) (by intro _; rfl))) (pss_one (ps_ret pe_bl)) pss_nil)
      (pss_cons (ps_if (pt_not (pt_tru (pe_callB call_isU (by rfl) T.n_isinstance (by decide +kernel) (pa_cons (pe_lam__law_caught R__law_caught TB rfl T.x_KeepError.g hr (by rfl) (st0 := s__law_mr_house_faults) rfl (by decide +kernel) (fun A outer s H E f c' hr => (pe_d D_led hr (by decide) (by rfl) passLam (pa_cons (pv 1) (pa_cons (pv 2) (pa_cons (pe_tup pa_nil) (pa_cons (pv 8) pa_nil))))))) (pa_cons (pe_gc T.x_BadPlace.g (by rfl)) pa_nil))) (by intro _; rfl))) (pss_one (ps_ret pe_bl)) pss_nil)
      (pss_cons (ps_if (pt_not (pt_tru (pe_callB call_isU (by rfl) T.n_isinstance (by decide +kernel) (pa_cons (pe_lam__law_caught R__law_caught TB rfl T.x_KeepError.g hr (by rfl) (st0 := s__law_mr_house_faults) rfl (by decide +kernel) (fun A outer s H E f c' hr => (pe_d D_kept hr (by decide) (by rfl) passLam (pa_cons (pv 11) (pa_cons (pv 7) (pa_cons (pv 9) pa_nil)))))) (pa_cons (pe_gc T.x_BadDeeds.g (by rfl)) pa_nil))) (by intro _; rfl))) (pss_one (ps_ret pe_bl)) pss_nil)
      (pss_cons (ps_if (pt_not (pt_tru (pe_callB call_isU (by rfl) T.n_isinstance (by decide +kernel) (pa_cons (pe_lam__law_caught R__law_caught TB rfl T.x_KeepError.g hr (by rfl) (st0 := s__law_mr_house_faults) rfl (by decide +kernel) (fun A outer s H E f c' hr => (pe_d D_kept hr (by decide) (by rfl) passLam (pa_cons (pv 1) (pa_cons (pv 7) (pa_cons (pv 9) pa_nil)))))) (pa_cons (pe_gc T.x_BadHouse.g (by rfl)) pa_nil))) (by intro _; rfl))) (pss_one (ps_ret pe_bl)) pss_nil)
      (pss_cons (ps_if (pt_not (pt_tru (pe_callB call_isU (by rfl) T.n_isinstance (by decide +kernel) (pa_cons (pe_lam__law_caught R__law_caught TB rfl T.x_KeepError.g hr (by rfl) (st0 := s__law_mr_house_faults) rfl (by decide +kernel) (fun A outer s H E f c' hr => (pe_d D_kept hr (by decide) (by rfl) passLam (pa_cons (pv 1) (pa_cons (pv 2) (pa_cons (pv 9) pa_nil)))))) (pa_cons (pe_gc T.x_BadRows.g (by rfl)) pa_nil))) (by intro _; rfl))) (pss_one (ps_ret pe_bl)) pss_nil)
      (pss_cons (ps_if (pt_not (pt_tru (pe_callB call_isU (by rfl) T.n_isinstance (by decide +kernel) (pa_cons (pe_lam__law_caught R__law_caught TB rfl T.x_KeepError.g hr (by rfl) (st0 := s__law_mr_house_faults) rfl (by decide +kernel) (fun A outer s H E f c' hr => (pe_d D_is_house hr (by decide) (by rfl) passLam (pa_cons (pv 11) (pa_cons (pv 2) pa_nil))))) (pa_cons (pe_gc T.x_BadDeeds.g (by rfl)) pa_nil))) (by intro _; rfl))) (pss_one (ps_ret pe_bl)) pss_nil)
      (pss_cons (ps_set (i := 4) sc__law_mr_house_faults.nd rfl (Or.inl rfl) (pe_lst (pa_cons (pe_op op_mulU (pe_tup (pa_cons (pe_tup (pa_cons pe_bl (pa_cons pe_int pa_nil))) pa_nil)) (pv 1)) (pa_cons (pe_op op_mulU (pe_tup (pa_cons (pe_tup (pa_cons pe_bl (pa_cons pe_int pa_nil))) pa_nil)) (pv 1)) (pa_cons (pe_op op_mulU (pe_tup (pa_cons (pe_tup (pa_cons pe_int (pa_cons pe_int (pa_cons pe_bl pa_nil)))) pa_nil)) (pv 1)) pa_nil)))))
      (pss_cons (ps_expr (pe_bm PySem.F.plainAttrs_list PySem.F.slot_list_append PySem.F.type_list_append mt_append (pv 4) (pa_cons (pe_op op_addU (pe_op op_mulU (pe_tup (pa_cons (pe_tup (pa_cons pe_int (pa_cons pe_int pa_nil))) pa_nil)) (pe_op op_sub (pv 1) pe_int)) (pe_tup (pa_cons (pe_tup (pa_cons pe_int (pa_cons pe_bl pa_nil))) pa_nil))) pa_nil)))
      (pss_cons (ps_for PassesOwn.never rfl (pi_U (pv 4)) (pg_name (i := 10) sc__law_mr_house_faults.nd rfl (Or.inr rfl))
        (pss_cons (ps_set (i := 5) sc__law_mr_house_faults.nd rfl (Or.inl rfl) (pe_lam__law_caught R__law_caught TB rfl T.x_KeepError.g hr (by rfl) (st0 := s__law_mr_house_faults) rfl (by decide +kernel) (fun A outer s H E f c' hr => (pe_d D_kept hr (by decide) (by rfl) passLam (pa_cons (pv 1) (pa_cons (pv 10) (pa_cons (pe_lst pa_nil) pa_nil)))))))
        (pss_one (ps_if (PW.pt (pw_or (pt_cmpR op_notBl (pe_d D_is_house hr (by decide) (by rfl) passL (pa_cons (pv 1) (pa_cons (pv 10) pa_nil))) pe_bl (nomark _)) (pw_or1 (pt_not (pt_tru (pe_callB call_isU (by rfl) T.n_isinstance (by decide +kernel) (pa_cons (pv 5) (pa_cons (pe_gc T.x_BadHouse.g (by rfl)) pa_nil))) (by intro _; rfl)))))) (pss_one (ps_ret pe_bl)) pss_nil))))
      (pss_one (ps_ret (pe_and (pe_cmpR op_isBl (pe_d D_is_house hr (by decide) (by rfl) passL (pa_cons (pv 1) (pa_cons (pv 7) pa_nil))) pe_bl (nomark _)) (pe_one (pe_cmpR op_isBl (pe_d D_is_house hr (by decide) (by rfl) passL (pa_cons (pv 1) (pa_cons (pe_callTy call_list_of (by rfl) T.n_list (by decide +kernel) (pa_cons (pv 2) pa_nil)) pa_nil))) pe_bl (nomark _)))))))))))))))))))), ?_⟩
  walk_at "rd"
  refine ⟨s, g, c, m, rfl, hS, by omega, fun vw dw H1 rw_ bw gw S1 k1 => ?_⟩
  walk_at "rd"
  refine ⟨s, g, c, m + 1, n, rfl, S1, by omega, n1, n4, fun vb db H2 rb bb gb S2 k2 => ?_⟩
  walk_at "rd"
  refine ⟨s, g, c, m + 1 + 1, n, rfl, S2, by omega, n1, n4, fun vo H3 bo S3 k3 => ?_⟩
  walk_at "rd"
  refine ⟨lz (by simp), fun p3b h3b => ?_⟩
  obtain ⟨s3b, e3b⟩ := new_at (o := .tup [vw, vb, vo]) h3b
  walk_at "rd"
  generalize upd H3 p3b (.tup [vw, vb, vo]) = H3b at s3b e3b ⊢
  refine ⟨p3b, _, rfl, .inl (.inl e3b), rfl, ?_⟩
  walk_at "rd"
  have k3 := k3.trans (.of s3b)
  have S3 := S3.same s3b
  have bo := bo.same s3b
  clear e3b h3b
  have K3 := (k1.trans k2).trans k3
  have hA3 := hA.kept K3 hS
  have hP3 : TupsP H3b ps hs := L2.Paired.mapP hP fun _ _ t => K3.tp hS t
  obtain ⟨p0, o0, a0, t0, l0⟩ := first_at hH n1 (hP3.tups (K := K))
  refine rd_ixT hA3.sqT a0 ?_
  walk_at "rd"
  refine lenT t0 ?_
  rw [List.length_map, l0]
  walk_at "rd"
  refine ⟨s, g, c, m + 1 + 1 + 1, n, rfl, S3, by omega, n1, n4, fun vr H4 br S4 k4 => ?_⟩
  walk_at "rd"
  refine ⟨lz (by simp), fun p4b h4b => ?_⟩
  obtain ⟨s4b, e4b⟩ := new_at (o := .tup [.int (N : Nat), vr]) h4b
  walk_at "rd"
  generalize upd H4 p4b (.tup [.int (N : Nat), vr]) = H4b at s4b e4b ⊢
  refine ⟨p4b, _, rfl, .inl (.inl e4b), rfl, ?_⟩
  walk_at "rd"
  have k4 := k4.trans (.of s4b)
  have S4 := S4.same s4b
  have br := br.same s4b
  clear e4b h4b
  refine ⟨lz (by simp), fun p5 h5 => ?_⟩
  obtain ⟨s5, e5⟩ := new_at (o := .tup [.int 0]) h5
  walk_at "rd"
  generalize upd H4b p5 (.tup [.int 0]) = H5 at s5 e5 ⊢
  refine ⟨lz (by simp), fun p6 h6 => ?_⟩
  obtain ⟨s6, e6⟩ := new_at (o := .lst [.int 0]) h6
  walk_at "rd"
  generalize upd H5 p6 (.lst [.int 0]) = H6 at s6 e6 ⊢
  refine ⟨lz (by simp), fun p7 h7 => ?_⟩
  obtain ⟨s7, e7⟩ := new_at (o := .lst [.non, .int (-1), .int (N : Nat), .bl true, .str "0", .ref p5, .ref p6]) h7
  walk_at "rd"
  generalize upd H6 p7 (.lst [.non, .int (-1), .int (N : Nat), .bl true, .str "0", .ref p5, .ref p6]) = H7 at s7 e7 ⊢
  have t7 := s5.trans (s6.trans s7)
  have S7 := S4.same t7
  refine ⟨s, g, c, p7, _, _, rfl, S7, by omega, .inl (.inl e7), (S4.same (s5.trans s6)).ne_n h7, by simp, by simp, fun vp H8 hx S8 k8 => ?_⟩
  have key : ∃ d, Rp K H7 vp d ∧ d.from 0 ((N : Int) - 1) = false ∧ vp ≠ .ref g := by
    simp only [List.mem_cons, List.not_mem_nil, or_false] at hx
    rcases hx with rfl | rfl | rfl | rfl | rfl | rfl | rfl
    · exact ⟨.flat _, ⟨rfl, rfl⟩, rfl, by intro z; cases z⟩
    · exact ⟨.flat _, ⟨rfl, rfl⟩, rfl, by intro z; cases z⟩
    · refine ⟨.flat _, ⟨rfl, rfl⟩, ?_, by intro z; cases z⟩
      show (decide ((0 : Int) ≤ (N : Int)) && decide ((N : Int) ≤ (N : Int) - 1)) = false
      rw [decide_eq_false (show ¬ (N : Int) ≤ (N : Int) - 1 by omega), Bool.and_false]
    · exact ⟨.flat _, ⟨rfl, rfl⟩, rfl, by intro z; cases z⟩
    · exact ⟨.flat _, ⟨rfl, rfl⟩, rfl, by intro z; cases z⟩
    · exact ⟨.tup [.int 0], ⟨p5, rfl, .inl (.inl (s7 _ _ (s6 _ _ e5))), rfl⟩, rfl, fun z => S4.ne_n h5 (V.ref.inj z)⟩
    · exact ⟨.lst [.int 0], ⟨p6, rfl, .inl (.inl (s7 _ _ e6))⟩, rfl, fun z => (S4.same s5).ne_n h6 (V.ref.inj z)⟩
  obtain ⟨dp, rp7, fp, gp⟩ := key
  have K8 : XE.Kept s g H3b H8 := (k4.trans (.of t7)).trans k8
  have r8p := k8.rp S7 rp7 gp
  have r8w := K8.rp S3 ((k2.trans k3).rp S1 rw_ gw) gw
  have r8b := K8.rp S3 (k3.rp S2 rb gb) gb
  obtain ⟨do_, ro, sho, nho⟩ := bo
  have r8o := (ro.kept K8 S3).rp
  obtain ⟨dr, rr, shr, nrr⟩ := br
  have r8r := ((rr.same t7).kept k8 S7).rp
  have A8 := hA3.kept K8 S3
  have P8 : TupsP H8 ps hs := L2.Paired.mapP hP3 fun _ _ t => K8.tp S3 t
  have T8 := tabs_kept (tabs_kept hT K3 hS) K8 S3
  have S8 := S8.mono (show m + 1 + 1 + 1 + 1 + 1 ≤ m + 10 by omega)
  obtain ⟨rh, hD, sh_⟩ := house_rp (K := K) A8 P8.tups hH N1 N60
  clear k8 hx S7 t7 e7 e6 e5 s7 s6 s5 h7 h6 h5 rp7 rr ro rb rw_ hT hS S1 S2 S3 S4 k1 k2 k3 k4 K3 K8 hA3 hP3 hA hP t0 a0 A8
  have dn : (Dat.flat (.int n)).from 1 4 = true := by
    show (decide (1 ≤ n) && decide (n ≤ 4)) = true
    rw [decide_eq_true n1, decide_eq_true n4] <;> rfl
  have rn : ∀ H', Rp K H' (.int n) (.flat (.int n)) := fun _ => ⟨rfl, rfl⟩
  have no14 : dw.from 1 4 = true → False := fun e => by rw [bw] at e; cases e
  walk_at "rd"
  -- led: no deeds
  refine rd_caught T8 Ec.m_BadDeeds fun Ha Ech Q' xa ta he => ?_
  walk_at "rd"
  refine ⟨vw, dw, vo, do_, vb, db, vp, dp, rfl, ext_rp xa r8w, ext_rp2 xa r8o, sho, ext_rp xa r8b, ext_rp xa r8p, fun _ => he _ fun v Hb sb er => ?_, fun k e1 e2 => (no14 e2).elim⟩
  walk_at "rd"
  refine rd_isErr er T.x_BadDeeds.c (.own _) Ec.k_BadDeeds ?_
  refine truB ?_
  refine iteF ?_
  have x1 := xa.trans (.of sb)
  have t1 := tabs_same ta sb
  walk_at "rd"
  -- led: no house
  have ndn : (Dat.flat (.int n)).from 1 4 = false → False := fun e => by rw [dn] at e; cases e
  refine rd_caught t1 Ec.m_BadHouse fun Ha Ech Q' xa ta he => ?_
  walk_at "rd"
  have xb := x1.trans xa
  refine ⟨.int n, .flat (.int n), vo, do_, vb, db, vp, dp, rfl, rn _, ext_rp2 xb r8o, sho, ext_rp xb r8b, ext_rp xb r8p, fun e => (ndn e).elim, fun k e1 e2 => ?_⟩
  cases e1
  refine ⟨fun _ Hb sb => he _ fun v Hc sc er => ?_, fun hs' N' z => (nho hs' N' z).elim⟩
  walk_at "rd"
  refine rd_isErr er T.x_BadHouse.c (.own _) Ec.k_BadHouse ?_
  refine truB ?_
  refine iteF ?_
  have x2 := xb.trans (.of (sb.trans sc))
  have t2 := tabs_same ta (sb.trans sc)
  clear xb xa ta he er x1 t1
  walk_at "rd"
  -- led: no row
  refine rd_caught t2 Ec.m_BadRow fun Ha Ech Q' xa ta he => ?_
  walk_at "rd"
  have xb := x2.trans xa
  refine ⟨.int n, .flat (.int n), .ref hh, _, vb, db, vp, dp, rfl, rn _, ext_rp2 xb rh, sh_, ext_rp xb r8b, ext_rp xb r8p, fun e => (ndn e).elim, fun k e1 e2 => ?_⟩
  cases e1
  refine ⟨fun nh => (nh _ _ hD).elim, fun hs' N' z => ⟨fun _ Hb sb => he _ fun v Hc sc er => ?_, fun xs ex rx => by rw [bb] at rx; cases rx⟩⟩
  walk_at "rd"
  refine rd_isErr er T.x_BadRow.c (.own _) Ec.k_BadRow ?_
  refine truB ?_
  refine iteF ?_
  have x3 := xb.trans (.of (sb.trans sc))
  have t3 := tabs_same ta (sb.trans sc)
  clear xb xa ta he er x2 t2
  walk_at "rd"
  -- led: no place
  refine rd_caught t3 Ec.m_BadPlace fun Ha Ech Q' xa ta he => ?_
  walk_at "rd"
  have xb := x3.trans xa
  refine ⟨lz (by simp), fun p9 h9 => ?_⟩
  obtain ⟨s9, e9⟩ := new_at (o := .tup []) h9
  walk_at "rd"
  generalize upd Ha p9 (.tup []) = H9 at s9 e9 ⊢
  refine ⟨.int n, .flat (.int n), .ref hh, _, .ref p9, .tup [], vp, dp, rfl, rn _, (ext_rp2 xb rh).same s9, sh_, ⟨p9, rfl, .inl (.inl e9), rfl⟩, (ext_rp xb r8p).same s9, fun e => (ndn e).elim, fun k e1 e2 => ?_⟩
  cases e1
  refine ⟨fun nh => (nh _ _ hD).elim, fun hs' N' z => ⟨(fun e => by cases e), fun xs ex rx => ?_⟩⟩
  obtain ⟨e3, e4⟩ := house_one n1 hD z
  have e3 := e3.symm
  have e4 := e4.symm
  subst e3 e4
  refine ⟨fun _ Hb sb => he _ fun v Hc sc er => ?_, fun p ep p0 p1 => ?_⟩
  rotate_left
  · rw [ep] at fp
    have fp : (decide (0 ≤ p) && decide (p ≤ (N : Int) - 1)) = false := fp
    rw [decide_eq_true p0, decide_eq_true (show p ≤ (N : Int) - 1 by omega)] at fp
    cases fp
  walk_at "rd"
  refine rd_isErr er T.x_BadPlace.c (.own _) Ec.k_BadPlace ?_
  refine truB ?_
  refine iteF ?_
  have x4 := xb.trans (.of (s9.trans (sb.trans sc)))
  have t4 := tabs_same ta (s9.trans (sb.trans sc))
  clear xb xa ta he er x3 t3 e9 s9 h9
  walk_at "rd"
  -- kept: no deeds
  refine rd_caught t4 Ec.m_BadDeeds fun Ha Ech Q' xa ta he => ?_
  walk_at "rd"
  have xb := x4.trans xa
  refine ⟨vw, dw, vo, do_, vr, dr, rfl, ext_rp xb r8w, ext_rp2 xb r8o, sho, ext_rp2 xb r8r, shr, fun _ => he _ fun v Hb sb er => ?_, fun k e1 e2 => (no14 e2).elim⟩
  walk_at "rd"
  refine rd_isErr er T.x_BadDeeds.c (.own _) Ec.k_BadDeeds ?_
  refine truB ?_
  refine iteF ?_
  have x5 := xb.trans (.of sb)
  have t5 := tabs_same ta sb
  clear xb xa ta he er x4 t4
  walk_at "rd"
  -- kept: no house
  refine rd_caught t5 Ec.m_BadHouse fun Ha Ech Q' xa ta he => ?_
  walk_at "rd"
  have xb := x5.trans xa
  refine ⟨.int n, .flat (.int n), vo, do_, vr, dr, rfl, rn _, ext_rp2 xb r8o, sho, ext_rp2 xb r8r, shr, fun e => (ndn e).elim, fun k e1 e2 => ?_⟩
  cases e1
  refine ⟨fun _ Hb sb => he _ fun v Hc sc er => ?_, fun hs' N' z => (nho hs' N' z).elim⟩
  walk_at "rd"
  refine rd_isErr er T.x_BadHouse.c (.own _) Ec.k_BadHouse ?_
  refine truB ?_
  refine iteF ?_
  have x6 := xb.trans (.of (sb.trans sc))
  have t6 := tabs_same ta (sb.trans sc)
  clear xb xa ta he er x5 t5
  walk_at "rd"
  -- kept: no rows
  refine rd_caught t6 Ec.m_BadRows fun Ha Ech Q' xa ta he => ?_
  walk_at "rd"
  have xb := x6.trans xa
  refine ⟨.int n, .flat (.int n), .ref hh, _, vr, dr, rfl, rn _, ext_rp2 xb rh, sh_, ext_rp2 xb r8r, shr, fun e => (ndn e).elim, fun k e1 e2 => ?_⟩
  cases e1
  refine ⟨fun nh => (nh _ _ hD).elim, fun hs' N' z => ⟨fun _ Hb sb => he _ fun v Hc sc er => ?_, fun rs hR => (nrr rs hR).elim⟩⟩
  walk_at "rd"
  refine rd_isErr er T.x_BadRows.c (.own _) Ec.k_BadRows ?_
  refine truB ?_
  refine iteF ?_
  have x7 := xb.trans (.of (sb.trans sc))
  have t7 := tabs_same ta (sb.trans sc)
  clear xb xa ta he er x6 t6
  walk_at "rd"
  -- is_house: no deeds
  refine rd_caught t7 Ec.m_BadDeeds fun Ha Ech Q' xa ta he => ?_
  walk_at "rd"
  have xb := x7.trans xa
  refine ⟨vw, dw, .ref hh, _, rfl, ext_rp xb r8w, ext_rp2 xb rh, sh_, fun _ => he _ fun v Hb sb er => ?_, fun k e1 e2 => (no14 e2).elim⟩
  walk_at "rd"
  refine rd_isErr er T.x_BadDeeds.c (.own _) Ec.k_BadDeeds ?_
  refine truB ?_
  refine iteF ?_
  have x8 := xb.trans (.of sb)
  have t8 := tabs_same ta sb
  clear xb xa ta he er x7 t7
  walk_at "rd"
  -- houses with truth values
  have Sb := ext_st x8 S8
  have kn : 0 < n.toNat := by omega
  refine ⟨lz (by simp), fun p11 h11 => ?_⟩
  obtain ⟨s11, e11⟩ := new_at (o := .tup [.bl true, .int 0]) h11
  walk_at "rd"
  generalize upd Hb p11 (.tup [.bl true, .int 0]) = H11 at s11 e11 ⊢
  refine ⟨lz (by simp), fun p12 h12 => ?_⟩
  obtain ⟨s12, e12⟩ := new_at (o := .tup [.ref p11]) h12
  walk_at "rd"
  generalize upd H11 p12 (.tup [.ref p11]) = H12 at s12 e12 ⊢
  refine repOne (.inl e12) (by omega) (by omega) fun p13 H13 s13 e13 => ?_
  have b13 : BadHouseH K n g H13 (.ref p13) := rep_tup (Sb.same (s11.trans (s12.trans s13))) e13 (s13 _ _ (s12 _ _ e11)) rfl (by simp) (no_one (rep_mem kn) fun N h1 _ z => by
    obtain ⟨o, e, _⟩ := z
    have e := Dat.tup.inj e
    match o, e with
    | [_, _], e => simp at e)
  walk_at "rd"
  have S13 := Sb.same (s11.trans (s12.trans s13))
  refine ⟨lz (by simp), fun p14 h14 => ?_⟩
  obtain ⟨s14, e14⟩ := new_at (o := .tup [.bl false, .int 1]) h14
  walk_at "rd"
  generalize upd H13 p14 (.tup [.bl false, .int 1]) = H14 at s14 e14 ⊢
  refine ⟨lz (by simp), fun p15 h15 => ?_⟩
  obtain ⟨s15, e15⟩ := new_at (o := .tup [.ref p14]) h15
  walk_at "rd"
  generalize upd H14 p15 (.tup [.ref p14]) = H15 at s15 e15 ⊢
  refine repOne (.inl e15) (by omega) (by omega) fun p16 H16 s16 e16 => ?_
  have S16 := S13.same (s14.trans (s15.trans s16))
  have b16 : BadHouseH K n g H16 (.ref p16) := rep_tup S16 e16 (s16 _ _ (s15 _ _ e14)) rfl (by simp) (no_one (rep_mem kn) fun N h1 _ z => by
    obtain ⟨o, e, _⟩ := z
    have e := Dat.tup.inj e
    match o, e with
    | [_, _], e => simp at e)
  walk_at "rd"
  refine ⟨lz (by simp), fun p17 h17 => ?_⟩
  obtain ⟨s17, e17⟩ := new_at (o := .tup [.int 0, .int 1, .bl true]) h17
  walk_at "rd"
  generalize upd H16 p17 (.tup [.int 0, .int 1, .bl true]) = H17 at s17 e17 ⊢
  refine ⟨lz (by simp), fun p18 h18 => ?_⟩
  obtain ⟨s18, e18⟩ := new_at (o := .tup [.ref p17]) h18
  walk_at "rd"
  generalize upd H17 p18 (.tup [.ref p17]) = H18 at s18 e18 ⊢
  refine repOne (.inl e18) (by omega) (by omega) fun p19 H19 s19 e19 => ?_
  have S19 := S16.same (s17.trans (s18.trans s19))
  have b19 : BadHouseH K n g H19 (.ref p19) := rep_tup S19 e19 (s19 _ _ (s18 _ _ e17)) rfl (by simp) (no_one (rep_mem kn) fun N h1 _ z => by
    obtain ⟨o, e, _⟩ := z
    have e := Dat.tup.inj e
    match o, e with
    | [_, _, _], e => simp at e)
  walk_at "rd"
  refine ⟨lz (by simp), fun p20 h20 => ?_⟩
  obtain ⟨s20, e20⟩ := new_at (o := .lst [.ref p13, .ref p16, .ref p19]) h20
  walk_at "rd"
  generalize upd H19 p20 (.lst [.ref p13, .ref p16, .ref p19]) = H20 at s20 e20 ⊢
  refine ⟨tyl e20, ?_⟩
  walk_at "rd"
  refine ⟨lz (by simp), fun p21 h21 => ?_⟩
  obtain ⟨s21, e21⟩ := new_at (o := .tup [.int 0, .int 1]) h21
  walk_at "rd"
  generalize upd H20 p21 (.tup [.int 0, .int 1]) = H21 at s21 e21 ⊢
  refine ⟨lz (by simp), fun p22 h22 => ?_⟩
  obtain ⟨s22, e22⟩ := new_at (o := .tup [.ref p21]) h22
  walk_at "rd"
  generalize upd H21 p22 (.tup [.ref p21]) = H22 at s22 e22 ⊢
  refine repOne (.inl e22) (by omega) (by omega) fun p23 H23 s23 e23 => ?_
  walk_at "rd"
  refine ⟨lz (by simp), fun p24 h24 => ?_⟩
  obtain ⟨s24, e24⟩ := new_at (o := .tup [.int 1, .bl false]) h24
  walk_at "rd"
  generalize upd H23 p24 (.tup [.int 1, .bl false]) = H24 at s24 e24 ⊢
  refine ⟨lz (by simp), fun p25 h25 => ?_⟩
  obtain ⟨s25, e25⟩ := new_at (o := .tup [.ref p24]) h25
  walk_at "rd"
  generalize upd H24 p25 (.tup [.ref p24]) = H25 at s25 e25 ⊢
  refine catTk ((e23.same s24).same s25) (.inl e25) (by simp; omega) fun p26 H26 s26 e26 => ?_
  walk_at "rd"
  have t20 : Same H20 H26 := s21.trans (s22.trans (s23.trans (s24.trans (s25.trans s26))))
  have S26 := S19.same (s20.trans t20)
  have eL := t20 _ _ e20
  refine app eL (by simp) ?_
  have sY : Same H19 (upd H26 p20 (.lst ([.ref p13, .ref p16, .ref p19] ++ [.ref p26]))) := same_mut (s20.trans t20) h20
  have eY : upd H26 p20 (.lst ([.ref p13, .ref p16, .ref p19] ++ [.ref p26])) p20 = some (.lst ([.ref p13, .ref p16, .ref p19] ++ [.ref p26])) := upd_same
  have bY : BadHouseH K n g (upd H26 p20 (.lst ([.ref p13, .ref p16, .ref p19] ++ [.ref p26]))) (.ref p26) := by
    have tp : ∀ {o : HO} {p : Addr} {xs : List V}, H26 p = some (.tup xs) → okB xs = true → Rp K (upd H26 p20 o) (.ref p) (.tup xs) := fun e h => ⟨_, rfl, .inl (.inl (by rw [upd_ne (ne_of e eL (by intro z; cases z))]; exact e)), h⟩
    have nt : ∀ {p : Addr} {xs : List V}, H26 p = some (.tup xs) → V.ref p ≠ .ref g := fun e z => S26.ne_g e (by intro _ z; cases z) (V.ref.inj z)
    have k21 := s26 _ _ (s25 _ _ (s24 _ _ (s23 _ _ (s22 _ _ e21))))
    have k24 := s26 _ _ (s25 _ _ e24)
    refine ⟨.tups (List.replicate (n - 1).toNat (.tup [.int 0, .int 1]) ++ [.tup [.int 1, .bl false]]), ⟨fun z => e26.ne_g S26 (V.ref.inj z), p26, _, rfl, (e26.upd eL).sqT, paired_app (prs_rep (tp k21 rfl) _) (.cons (tp k24 rfl) .nil), fun x hx => ?_⟩, fun d hd xs ed => ?_,
      no_one (d := .tup [.int 1, .bl false]) (by simp) fun N _ _ z => ?_⟩
    · rcases List.mem_append.mp hx with z | z
      · rw [(List.mem_replicate.mp z).2]; exact nt k21
      · rw [List.mem_singleton.mp z]; exact nt k24
    · rcases List.mem_append.mp hd with z | z
      · rw [(List.mem_replicate.mp z).2] at ed; cases ed; simp
      · rw [List.mem_singleton.mp z] at ed; cases ed; simp
    · obtain ⟨o, e, _⟩ := z
      have e := Dat.tup.inj e
      match o, e with
      | [_, _], e => simp at e
  have xY : LamX.ExtN H8 (upd H26 p20 (.lst ([.ref p13, .ref p16, .ref p19] ++ [.ref p26]))) := x8.trans (.of ((s11.trans (s12.trans (s13.trans (s14.trans (s15.trans (s16.trans (s17.trans (s18.trans s19)))))))).trans sY))
  have tY := tabs_same t8 ((s11.trans (s12.trans (s13.trans (s14.trans (s15.trans (s16.trans (s17.trans (s18.trans s19)))))))).trans sY)
  have all : ∀ v ∈ [V.ref p13, .ref p16, .ref p19] ++ [.ref p26], BadHouseH K n g (upd H26 p20 (.lst ([.ref p13, .ref p16, .ref p19] ++ [.ref p26]))) v := by
    intro v hv
    simp only [List.mem_append, List.mem_cons, List.not_mem_nil, or_false] at hv
    rcases hv with (rfl | rfl | rfl) | rfl
    · exact b13.same ((s14.trans (s15.trans (s16.trans (s17.trans (s18.trans s19))))).trans sY)
    · exact b16.same ((s17.trans (s18.trans s19)).trans sY)
    · exact b19.same sY
    · exact bY
  walk_at "rd"
  generalize upd H26 p20 (.lst ([.ref p13, .ref p16, .ref p19] ++ [.ref p26])) = HY at sY eY bY xY tY all ⊢
  clear b13 b16 b19 bY sY eL S26 t20 e26 e25 e24 e23 e22 e21 e20 s26 s25 s24 s23 s22 s21 s20 S19 S16 S13 Sb e19 e18 e17 e16 e15 e14 e13 e12 e11 s19 s18 s17 s16 s15 s14 s13 s12 s11 x8 t8
  refine .inl ?_
  walk_at "rd"
  refine ⟨p20, rfl, ⟨_, .inl (.inl eY)⟩, ?_⟩
  refine for_list (xs := [.ref p13, .ref p16, .ref p19] ++ [.ref p26]) (fun i σ H' => ∃ y5 y10 : Option V, σ = [some (.ref s), some (.int n), some (.ref hh), some (.int (N : Nat)), some (.ref p20), y5, some vb, some vo, some vp, some vr, y10, some vw] ∧ LamX.ExtN HY H' ∧ LamX.Tabs [(Pt, "_law_mr_house_faults.<locals>.<lambda>")] H')
    ⟨_, _, rfl, .refl _, tY⟩ (fun i σ H' _ h => ?_) (fun i x σ H' hx h => ?_) (fun σ H' h => ?_)
  · obtain ⟨_, _, _, ex, _⟩ := h
    exact .inl (.inl (ex _ _ eY (by intro _ z; cases z)))
  · obtain ⟨y5, y10, rfl, ex, tx⟩ := h
    obtain ⟨dx, rx, shx, nx⟩ := all x (List.mem_of_getElem? hx)
    walk_at "rd"
    refine rd_caught tx Ec.m_BadHouse fun Ha Ech Q' xa ta he => ?_
    walk_at "rd"
    have xb := ex.trans xa
    refine ⟨lz (by simp), fun p30 h30 => ?_⟩
    obtain ⟨s30, e30⟩ := new_at (o := .lst []) h30
    walk_at "rd"
    generalize upd Ha p30 (.lst []) = H30 at s30 e30 ⊢
    refine ⟨.int n, .flat (.int n), x, dx, .ref p30, .lsts [], rfl, rn _, (ext_rp2 xb rx.rp).same s30, shx, ⟨p30, [], rfl, .inl (.inl e30), .nil⟩, trivial, fun e => (ndn e).elim, fun k e1 e2 => ?_⟩
    cases e1
    refine ⟨fun _ Hb sb => he _ fun v Hc sc er => ?_, fun hs' N' z => (nx hs' N' z).elim⟩
    have xc := xb.trans (.of (s30.trans (sb.trans sc)))
    have tc := tabs_same ta (s30.trans (sb.trans sc))
    walk_at "rd"
    refine ⟨.int n, .flat (.int n), x, dx, rfl, rn _, ext_rp2 xc rx.rp, shx, fun e => (ndn e).elim, fun k e1 e2 b Hd sd ib => ?_⟩
    cases e1
    cases b with
    | true =>
      obtain ⟨hs', N', z⟩ := ib.mp rfl
      exact (nx hs' N' z).elim
    | false =>
      walk_at "rd"
      refine ⟨_, _, rfl, rfl, ?_⟩
      walk_at "rd"
      refine iteF ?_
      walk_at "rd"
      refine rd_isErr (er.same sd) T.x_BadHouse.c (.own _) Ec.k_BadHouse ?_
      refine truB ?_
      refine iteF ?_
      exact ⟨_, _, rfl, xc.trans (.of sd), tabs_same tc sd⟩
  obtain ⟨y5, y10, rfl, ex, tx⟩ := h
  walk_at "rd"
  have xz := xY.trans ex
  refine ⟨.int n, .flat (.int n), vo, do_, rfl, rn _, ext_rp2 xz r8o, sho, fun e => (ndn e).elim, fun k e1 e2 b Hd sd ib => ?_⟩
  cases e1
  cases b with
  | true =>
    obtain ⟨hs', N', z⟩ := ib.mp rfl
    exact (nho hs' N' z).elim
  | false =>
    walk_at "rd"
    refine ⟨_, _, rfl, rfl, ?_⟩
    walk_at "rd"
    refine iteT ?_
    walk_at "rd"
    obtain ⟨a, vs, ea, qa, za⟩ := (ext_rp2 xz rh).same sd
    cases ea
    refine ⟨hh, vs, rfl, .inr qa, fun k hk => ?_⟩
    obtain ⟨s40, e40⟩ := new_at (o := .lst vs) hk
    walk_at "rd"
    generalize upd Hd k (.lst vs) = H40 at s40 e40 ⊢
    refine ⟨.int n, .flat (.int n), .ref k, .lsts _, rfl, rn _, ⟨k, vs, rfl, .inl (.inl e40), prs_same za s40⟩, trivial, fun e => (ndn e).elim, fun k e1 e2 b He se ib2 => ?_⟩
    cases b with
    | true =>
      obtain ⟨hs', N', z⟩ := ib2.mp rfl
      cases z.1
    | false =>
      walk_at "rd"
      refine ⟨_, _, rfl, rfl, ?_⟩
      exact q _ (((ext_st xz S8).same (sd.trans (s40.trans se)))) (tabs_same tx (sd.trans (s40.trans se)))
end
end KP

set_option linter.all false
set_option maxRecDepth 100000
set_option maxHeartbeats 4000000
namespace KP
open PySem PySem.Spec PyProof.Rows L2 XA XB XC XD XM XE XF XG XV XQ
local macro_rules | `(tactic| walk_at "rd") => `(tactic| repeat (first
  | (with_reducible refine rd_seq ?_) | (with_reducible refine rd_asg ?_) | ((with_reducible refine' rd_var ?hv ?_); (case hv => exact rfl)) | (with_reducible refine rd_c ?_) | (with_reducible refine rd_gn ?_)
  | (with_reducible refine rd_op ?_) | (with_reducible refine rd_un ?_) | (with_reducible refine rd_cons ?_) | (with_reducible refine rd_nil ?_) | (with_reducible refine rd_cl ?_) | (with_reducible refine rd_ck ?_) | (with_reducible refine rd_cb ?_)
  | (with_reducible refine rd_ret ?_) | (with_reducible refine rd_drop ?_) | (with_reducible refine rd_ifs ?_) | (with_reducible refine rd_if ?_) | (with_reducible refine rd_test ?_) | (with_reducible refine rd_tb ?_) | (with_reducible refine rd_and ?_) | (with_reducible refine rd_or ?_)
  | (with_reducible refine rd_not ?_) | (with_reducible refine rd_andV ?_) | (with_reducible refine rd_orV ?_) | (with_reducible refine rd_notV ?_) | (with_reducible refine rd_chain ?_) | (with_reducible refine rd_tup ?_) | (with_reducible refine rd_lst ?_)
  | (with_reducible refine rd_bm0 ?_) | (with_reducible refine rd_bm ?_) | (with_reducible refine rd_sl ?_) | (with_reducible refine rd_part ?_) | (with_reducible refine rd_nopart ?_) | (with_reducible refine rd_dget ?_) | (with_reducible refine rd_dput ?_)
  | (with_reducible refine rd_next ?_) | (with_reducible refine rd_lc ?_) | ((with_reducible refine' rd_aug ?hv ?_); (case hv => exact rfl)) | (with_reducible refine rd_cont ?_) | (with_reducible refine rd_gcons ?_) | (with_reducible refine rd_gnil ?_) | (with_reducible refine rd_ifT ?_) | (with_reducible refine rd_yes ?_) | (with_reducible refine rd_tru ?_) | (with_reducible refine rd_cntE ?_) | (with_reducible refine rd_rng1 ?_) | (with_reducible refine rd_lrg ?_) | (with_reducible refine rd_rg2 ?_) | (with_reducible refine rd_back ?_) | (with_reducible refine rd_disp ?_) | (with_reducible refine rd_prN ?_) | (with_reducible refine rd_prC ?_) | (with_reducible refine rd_par ?_) | (with_reducible refine rd_par3 ?_) | (with_reducible refine rd_two ?_) | (with_reducible refine rd_three ?_) | (with_reducible refine rd_one ?_) | (with_reducible refine rd_onei ?_) | (with_reducible refine rd_iL ?_) | (with_reducible refine rd_iT ?_) | (with_reducible refine rd_rng2 ?_) | (with_reducible refine rd_bl ?_) | (with_reducible refine rd_int ?_) | (with_reducible refine rd_I0 ?_) | (with_reducible refine rd_U ?_) | (with_reducible refine rd_din ?_) | (with_reducible refine rd_dnin ?_) | (with_reducible refine rd_dnew ?_) | (with_reducible refine rd_lset ?_) | (with_reducible refine rd_enT ?_) | (with_reducible refine rd_idx ?_) | (with_reducible refine rd_rg1 ?_) | (with_reducible refine rd_tupRg ?_)))

/-! ### law -/
abbrev s_law : Stmt := top 60
abbrev N_law : List Str := ["script", "state", "turn", "deeds", "house_here", "rows", "many", "row", "place", "found", "due", "handed", "lap"]
theorem sc_law : FnScope ["script", "state", "turn", "deeds", "house_here", "rows", "many", "row", "place", "found", "due", "handed", "lap"] ["script"] (defScope s_law) := ⟨rfl, rfl, rfl, by decide +kernel, rfl, by decide +kernel, by decide +kernel⟩
theorem bd_law : Bnd s_law "law" ["script"] := fun _ _ _ _ _ _ us hl => match us, hl with | [_], _ => rfl

theorem bdk_is_house_0 : Bndk s_is_house "is_house" ["deeds", "value"] 0 ["deeds", "value"] := fun _ _ _ _ _ _ us ws hl hk => match us, ws, hl, hk with | [], [_, _], _, _ => rfl

theorem bdk_led_0 : Bndk s_led "led" ["deeds", "house", "row", "place"] 0 ["deeds", "house", "row", "place"] := fun _ _ _ _ _ _ us ws hl hk => match us, ws, hl, hk with | [], [_, _, _, _], _, _ => rfl

theorem bdk_kept_0 : Bndk s_kept "kept" ["deeds", "house", "rows"] 0 ["deeds", "house", "rows"] := fun _ _ _ _ _ _ us ws hl hk => match us, ws, hl, hk with | [], [_, _, _], _, _ => rfl

def spLaw (K : PySem.W.Frag) (Tb : List (Addr × Str)) : Sp := fun vs H Q _ => ∃ (a : Addr) (ns : List Int), vs = [.ref a] ∧ SqL K H a (ns.map V.int) ∧ ns.length ≤ 63 ∧ LamX.Tabs Tb H ∧ ∀ H', Q (.bl true) H'
section
variable {P : Program} {w : World} {K : PySem.W.Frag} {mg : Str → Option Value} {base : Heap}
theorem deeds_in {n : Int} (n1 : 1 ≤ n) (n4 : n ≤ 4) : (Dat.flat (.int n)).from 1 4 = true := by
  show (decide (1 ≤ n) && decide (n ≤ 4)) = true
  rw [decide_eq_true n1, decide_eq_true n4] <;> rfl
theorem map_int {xs ys : List Int} (h : xs.map V.int = ys.map V.int) : xs = ys := (List.map_inj_right (f := V.int) (fun x y z => V.int.inj z)).mp h
theorem led_of {H : Hp} {Q : VK} {E : XK} {hh q : Addr} {n p : Int} {hs : List (List Int)} {N : Nat} {xs : List Int} (n1 : 1 ≤ n) (n4 : n ≤ 4) (rh : Rp2 K H (.ref hh) (.tups (hs.map fun o => .tup (o.map V.int)))) (hD : HouseD n (.tups (hs.map fun o => .tup (o.map V.int))) hs N)
    (sh_ : Dat2.shT (.tups (hs.map fun o => .tup (o.map V.int)))) (tq : SqT K H q (xs.map V.int)) (le : LetS n xs) (l : xs.length ≤ 200) (p0 : 0 ≤ p) (p1 : p < (N : Int)) (h : ∀ H', Same H H' → Q (.int (XH.walk hs xs p)) H') : spLed K [.int n, .ref hh, .ref q, .int p] H Q E := by
  refine ⟨.int n, .flat (.int n), .ref hh, _, .ref q, .tup (xs.map V.int), .int p, .flat (.int p), rfl, ⟨rfl, rfl⟩, rh, sh_, ⟨q, rfl, tq, okI (by omega)⟩, ⟨rfl, rfl⟩, (fun e => by rw [deeds_in n1 n4] at e; cases e), fun k e1 e2 => ?_⟩
  cases e1
  refine ⟨fun nh => (nh _ _ hD).elim, fun hs' N' z => ⟨(fun e => by rw [le.row l] at e; cases e), fun ys ey ry => ⟨fun e => ?_, fun p' ep _ _ H' s => ?_⟩⟩⟩
  · obtain ⟨e3, e4⟩ := house_one n1 hD z
    rw [e4] at e
    have e : (decide ((0 : Int) ≤ p) && decide (p ≤ (N : Int) - 1)) = false := e
    rw [decide_eq_true p0, decide_eq_true (show p ≤ (N : Int) - 1 by omega)] at e
    cases e
  · obtain ⟨e3, e4⟩ := house_one n1 hD z
    cases ep
    rw [e3, ← map_int (Dat.tup.inj ey)]
    exact h H' s
theorem kept_of {H : Hp} {Q : VK} {E : XK} {hh : Addr} {n : Int} {hs : List (List Int)} {N : Nat} {v : V} {d : Dat2} {rs : List (List Int)} (n1 : 1 ≤ n) (n4 : n ≤ 4) (rh : Rp2 K H (.ref hh) (.tups (hs.map fun o => .tup (o.map V.int)))) (hD : HouseD n (.tups (hs.map fun o => .tup (o.map V.int))) hs N)
    (sh_ : Dat2.shT (.tups (hs.map fun o => .tup (o.map V.int)))) (rv : Rp2 K H v d) (hd : d = .tups (rs.map fun r => .tup (r.map V.int)) ∨ d = .lsts (rs.map fun r => .tup (r.map V.int))) (l6 : rs.length ≤ 6) (le : ∀ r ∈ rs, LetS n r ∧ r.length ≤ 18)
    (h : ∀ p H', Same H H' → H p = none → H' p = some (.lst ((keptF hs rs N).map V.int)) → Q (.ref p) H') : spKept K [.int n, .ref hh, v] H Q E := by
  refine ⟨.int n, .flat (.int n), .ref hh, _, v, d, rfl, ⟨rfl, rfl⟩, rh, sh_, rv, (by rcases hd with e | e <;> rw [e] <;> exact trivial), (fun e => by rw [deeds_in n1 n4] at e; cases e), fun k e1 e2 => ?_⟩
  cases e1
  have hR : RowsD n d rs := ⟨hd, l6, fun r hr => (le r hr).1.row (by have := (le r hr).2; omega)⟩
  refine ⟨fun nh => (nh _ _ hD).elim, fun hs' N' z => ⟨fun nr => (nr _ hR).elim, fun rs' hR' p H' s hp e => ?_⟩⟩
  obtain ⟨e3, e4⟩ := house_one n1 hD z
  have er : rs' = rs := by
    have inj : ∀ {x y : List (List Int)}, (x.map fun r => Dat.tup (r.map V.int)) = (y.map fun r => Dat.tup (r.map V.int)) → x = y := fun h => (List.map_inj_right (f := fun o : List Int => Dat.tup (o.map V.int)) (fun x y z => map_int (Dat.tup.inj z))).mp h
    rcases hR.1 with e1 | e1 <;> rcases hR'.1 with e2 | e2
    · exact (inj (Dat2.tups.inj (e1.symm.trans e2))).symm
    · cases (e1.symm.trans e2)
    · cases (e1.symm.trans e2)
    · exact (inj (Dat2.lsts.inj (e1.symm.trans e2))).symm
  rw [e3, e4, er] at e
  exact h p H' s hp e
theorem ok_law {Tb : List (Addr × Str)} {f : Addr} {fd : FuncData} (T : Bs K mg) (Ec : Es K) (F : FunD K "law" "law" (defArgs s_law) (defBody s_law) (defScope s_law) [] [] f fd)
    (D__law_begun : Df P w K mg base CX0 1 "_law_begun" s__law_begun ["script"] (spBegun K))
    (D__law_draw : Df P w K mg base CX0 2 "_law_draw" s__law_draw ["state", "room"] (spDraw K))
    (D__law_mk_undone : Df P w K mg base CX0 1 "_law_mk_undone" s__law_mk_undone ["row"] (spUndone K))
    (D__law_mk_led : Df P w K mg base CX0 1 "_law_mk_led" s__law_mk_led ["house", "row", "place"] (spMkLed K))
    (D__law_mk_kept : Df P w K mg base CX0 2 "_law_mk_kept" s__law_mk_kept ["house", "rows"] (spMkKept K))
    (D__law_mr_whole : Df P w K mg base CX0 1 "_law_mr_whole" s__law_mr_whole ["thing"] (spWhole K))
    (D__law_mr_same : Df P w K mg base CX0 2 "_law_mr_same" s__law_mr_same ["found", "due"] (spSame K))
    (D__law_mr_row : Df P w K mg base CX0 6 "_law_mr_row" s__law_mr_row ["state", "deeds"] (spMrRow K))
    (D__law_mr_house : Df P w K mg base CX0 5 "_law_mr_house" s__law_mr_house ["state", "deeds", "least", "most"] (spMkHouse K))
    (D__law_mr_house_faults : Df P w K mg base CX0 10 "_law_mr_house_faults" s__law_mr_house_faults ["state", "deeds", "house_here"] (spFaults K Tb))
    (D_is_house : Df P w K mg base (L2.CX P w) 7 "is_house" s_is_house ["deeds", "value"] (spIsHouse K))
    (D_led : Df P w K mg base (L2.CX P w) 7 "led" s_led ["deeds", "house", "row", "place"] (spLed K))
    (D_kept : Df P w K mg base (L2.CX P w) 7 "kept" s_kept ["deeds", "house", "rows"] (spKept K)) :
    FnOk P w K mg base CX0 12 f fd ["script"] (spLaw K Tb) := by
  refine mk0F F sc_law (fun vs H Q E h => ?_) fun cdv A outer sh H vs Q E hr h => ?_
  · obtain ⟨a, ns, rfl, _⟩ := h; rfl
  obtain ⟨a, ns, rfl, hS, hl, hT, q⟩ := h
  refine ⟨_, (pss_cons (ps_set (i := 1) sc_law.nd rfl (Or.inr rfl) (pe_d D__law_begun hr (by decide) (by rfl) pass0 (pa_cons (pv 0) pa_nil)))
      (pss_cons (ps_for PassesOwn.never rfl (pi_range1 (by rfl) T.n_range (pa_cons (pe_op op_addU pe_int (pe_callB (call_min2 rfl) (by rfl) T.n_min (by decide +kernel) (pa_cons (pe_callB call_len (by rfl) T.n_len (by decide +kernel) (pa_cons (pv 0) pa_nil)) (pa_cons pe_int pa_nil)))) pa_nil)) (pg_name (i := 2) sc_law.nd rfl (Or.inl rfl))
        (pss_cons (ps_set (i := 3) sc_law.nd rfl (Or.inr rfl) (pe_op op_addU pe_int (pe_d D__law_draw hr (by decide) (by rfl) pass0 (pa_cons (pv 1) (pa_cons pe_int pa_nil)))))
        (pss_cons (ps_set (i := 4) sc_law.nd rfl (Or.inl rfl) (pe_d D__law_mr_house hr (by decide) (by rfl) pass0 (pa_cons (pv 1) (pa_cons (pv 3) (pa_cons pe_int (pa_cons pe_int pa_nil))))))
        (pss_cons (ps_if (pt_cmpR (op_eqU hr.units) (pe_d D__law_draw hr (by decide) (by rfl) pass0 (pa_cons (pv 1) (pa_cons pe_int pa_nil))) pe_int (nomark _)) (pss_one (ps_set (i := 4) sc_law.nd rfl (Or.inl rfl) (pe_d D__law_mr_house hr (by decide) (by rfl) pass0 (pa_cons (pv 1) (pa_cons (pv 3) (pa_cons pe_int (pa_cons pe_int pa_nil))))))) pss_nil)
        (pss_cons (ps_set (i := 5) sc_law.nd rfl (Or.inl rfl) (pe_op op_addU (pe_lc (own := [("lap", 12)]) rfl sc_law.nd (pi_range1 (by rfl) T.n_range (pa_cons (pe_d D__law_draw hr (by decide) (by rfl) pass0 (pa_cons (pv 1) (pa_cons pe_int pa_nil))) pa_nil)) (blkOk_by (own := [("lap", 12)]) (N := ["script", "state", "turn", "deeds", "house_here", "rows", "many", "row", "place", "found", "due", "handed", "lap"]) (sc := defScope s_law) (by decide +kernel)) (fun _ _ _ _ _ => (pg_name (i := 12) sc_law.nd rfl (Or.inl rfl))) (fun _ _ _ _ _ => pts_nil) (fun _ _ _ _ _ => (pe_d D__law_mr_row hr (by decide) (by rfl) pass0 (pa_cons (pv 1) (pa_cons (pv 3) pa_nil))))) (pe_op XV.op_mulV (pe_lst (pa_cons (pe_tup pa_nil) pa_nil)) (pe_d D__law_draw hr (by decide) (by rfl) pass0 (pa_cons (pv 1) (pa_cons pe_int pa_nil))))))
        (pss_cons (ps_set (i := 6) sc_law.nd rfl (Or.inl rfl) (pe_callB call_len (by rfl) T.n_len (by decide +kernel) (pa_cons (pe_ix ix_seq (pv 4) pe_int (fun _ _ => rfl)) pa_nil)))
        (pss_cons (ps_if (pt_cmpR op_notBl (pe_dk0 D_is_house bdk_is_house_0 hr (by decide) (by rfl) passL (pk_cons (pv 3) (pk_cons (pv 4) pk_nil))) pe_bl (nomark _)) (pss_one (ps_ret pe_bl)) pss_nil)
        (pss_cons (ps_for PassesOwn.never rfl (pi_U (pe_op op_addU (pe_lc (own := [("lap", 12)]) rfl sc_law.nd (pi_range1 (by rfl) T.n_range (pa_cons pe_int pa_nil)) (blkOk_by (own := [("lap", 12)]) (N := ["script", "state", "turn", "deeds", "house_here", "rows", "many", "row", "place", "found", "due", "handed", "lap"]) (sc := defScope s_law) (by decide +kernel)) (fun _ _ _ _ _ => (pg_name (i := 12) sc_law.nd rfl (Or.inl rfl))) (fun _ _ _ _ _ => pts_nil) (fun _ _ _ _ _ => (pe_d D__law_mr_row hr (by decide) (by rfl) pass0 (pa_cons (pv 1) (pa_cons (pv 3) pa_nil))))) (pv 5))) (pg_name (i := 7) sc_law.nd rfl (Or.inl rfl))
          (pss_cons (ps_set (i := 8) sc_law.nd rfl (Or.inl rfl) (pe_d D__law_draw hr (by decide) (by rfl) pass0 (pa_cons (pv 1) (pa_cons (pv 6) pa_nil))))
          (pss_cons (ps_set (i := 9) sc_law.nd rfl (Or.inl rfl) (pe_dk0 D_led bdk_led_0 hr (by decide) (by rfl) passL (pk_cons (pv 3) (pk_cons (pv 4) (pk_cons (pv 7) (pk_cons (pv 8) pk_nil))))))
          (pss_cons (ps_if (PW.pt (pw_or (pt_not (pt_tru (pe_d D__law_mr_whole hr (by decide) (by rfl) pass0 (pa_cons (pv 9) pa_nil)) (by intro _; rfl))) (pw_or1 (pt_cmpR (op_neU hr.units) (pv 9) (pe_d D__law_mk_led hr (by decide) (by rfl) pass0 (pa_cons (pv 4) (pa_cons (pv 7) (pa_cons (pv 8) pa_nil)))) (nomark _))))) (pss_one (ps_ret pe_bl)) pss_nil)
          (pss_one (ps_if (pt_cmpR (op_neU hr.units) (pe_d D_led hr (by decide) (by rfl) passL (pa_cons (pv 3) (pa_cons (pv 4) (pa_cons (pe_d D__law_mk_undone hr (by decide) (by rfl) pass0 (pa_cons (pv 7) pa_nil)) (pa_cons (pv 9) pa_nil))))) (pv 8) (nomark _)) (pss_one (ps_ret pe_bl)) pss_nil))))))
        (pss_cons (ps_par (i := 10) (j := 11) rfl sc_law.nd rfl rfl (by decide) rfl rfl (pa_cons (pe_d D__law_mk_kept hr (by decide) (by rfl) pass0 (pa_cons (pv 4) (pa_cons (pv 5) pa_nil))) (pa_cons (pe_callTy call_list_of (by rfl) T.n_list (by decide +kernel) (pa_cons (pv 5) pa_nil)) pa_nil)) (by rfl))
        (pss_cons (ps_set (i := 9) sc_law.nd rfl (Or.inl rfl) (pe_dk0 D_kept bdk_kept_0 hr (by decide) (by rfl) passL (pk_cons (pv 3) (pk_cons (pv 4) (pk_cons (pv 11) pk_nil)))))
        (pss_cons (ps_if (PW.pt (pw_or (pt_not (pt_tru (pe_callB call_isU (by rfl) T.n_isinstance (by decide +kernel) (pa_cons (pv 9) (pa_cons (pe_bltn (v := .ty "list") (by rfl) T.n_list (by decide +kernel) rfl) pa_nil))) (by intro _; rfl))) (pw_or (pt_not (pt_tru (pe_d D__law_mr_same hr (by decide) (by rfl) pass0 (pa_cons (pe_callTy call_tupN (by rfl) T.n_tuple (by decide +kernel) (pa_cons (pv 9) pa_nil)) (pa_cons (pe_callTy call_tupN (by rfl) T.n_tuple (by decide +kernel) (pa_cons (pv 10) pa_nil)) pa_nil))) (by intro _; rfl))) (pw_or1 (pt_cmpR (op_neU hr.units) (pv 11) (pv 5) (nomark _)))))) (pss_one (ps_ret pe_bl)) pss_nil)
        (pss_cons (ps_expr (pe_bm0 PySem.F.plainAttrs_list PySem.F.slot_list_clear PySem.F.type_list_clear mt_clear (pv 9)))
        (pss_one (ps_if (PW.pt (pw_or (pt_cmpR (op_neU hr.units) (pe_d D_kept hr (by decide) (by rfl) passL (pa_cons (pv 3) (pa_cons (pv 4) (pa_cons (pe_callTy call_tupN (by rfl) T.n_tuple (by decide +kernel) (pa_cons (pv 5) pa_nil)) pa_nil)))) (pv 10) (nomark _)) (pw_or1 (pt_not (pt_tru (pe_d D__law_mr_house_faults hr (by decide) (by rfl) pass0 (pa_cons (pv 1) (pa_cons (pv 3) (pa_cons (pv 4) pa_nil)))) (by intro _; rfl)))))) (pss_one (ps_ret pe_bl)) pss_nil))))))))))))))
      (pss_one (ps_ret (pe_cmpR (op_eqU hr.units) (pe_d D_kept hr (by decide) (by rfl) passL (pa_cons pe_int (pa_cons (pe_tup (pa_cons (pe_tup (pa_cons pe_int (pa_cons pe_int (pa_cons pe_int pa_nil)))) pa_nil)) (pa_cons (pe_lst pa_nil) pa_nil)))) (pe_lst (pa_cons pe_int (pa_cons pe_int (pa_cons pe_int pa_nil)))) (nomark _)))))), ?_⟩
  walk_at "rd"
  refine ⟨a, ns, rfl, hS, by omega, fun s g c H1 s1 S1 => ?_⟩
  walk_at "rd"
  have T1 := tabs_same hT s1
  refine rd_for ?_
  walk_at "rd"
  refine lenL (s1.seq hS) ?_
  walk_at "rd"
  refine ⟨((ns.map V.int).length : Nat), 4, rfl, ?_⟩
  refine rd_addI ?_
  walk_at "rd"
  refine ⟨by omega, by omega, ?_⟩
  refine for_range (fun i σ H' => ∃ (y2 y3 y4 y5 y6 y7 y8 y9 y10 y11 y12 : Option V), σ = [some (.ref a), some (.ref s), y2, y3, y4, y5, y6, y7, y8, y9, y10, y11, y12] ∧ StAt (1000 * i) H' s g c ∧ LamX.Tabs Tb H')
    ⟨_, _, _, _, _, _, _, _, _, _, _, rfl, S1, T1⟩ (fun i σ H' hi h => ?_) (fun σ H' h => ?_)
  rotate_left
  · obtain ⟨y2, y3, y4, y5, y6, y7, y8, y9, y10, y11, y12, rfl, S2, T2⟩ := h
    walk_at "rd"
    refine ⟨lz (by simp), fun p50 h50 => ?_⟩
    obtain ⟨s50, e50⟩ := new_at (o := .tup [.int 0, .int 1, .int 2]) h50
    walk_at "rd"
    generalize upd H' p50 (.tup [.int 0, .int 1, .int 2]) = H50 at s50 e50 ⊢
    refine ⟨lz (by simp), fun p51 h51 => ?_⟩
    obtain ⟨s51, e51⟩ := new_at (o := .tup [.ref p50]) h51
    walk_at "rd"
    generalize upd H50 p51 (.tup [.ref p50]) = H51 at s51 e51 ⊢
    refine ⟨lz (by simp), fun p52 h52 => ?_⟩
    obtain ⟨s52, e52⟩ := new_at (o := .lst []) h52
    walk_at "rd"
    generalize upd H51 p52 (.lst []) = H52 at s52 e52 ⊢
    have ord : XH.Ord 3 [0, 1, 2] := ⟨rfl, by simp, by decide⟩
    have hH : XH.Hs 3 1 [[0, 1, 2]] := ⟨rfl, fun o ho => by rw [List.mem_singleton.mp ho]; exact ord⟩
    obtain ⟨rh, hD, sh_⟩ := house_rp (K := K) (ps := [p50]) (hs := [[0, 1, 2]]) (.inl (s52 _ _ e51)) (.cons (.inl (.inl (s52 _ _ (s51 _ _ e50)))) .nil) hH (by decide) (by decide)
    refine ⟨.int 1, .flat (.int 1), .ref p51, _, .ref p52, .lsts [], rfl, ⟨rfl, rfl⟩, rh, sh_, ⟨p52, [], rfl, .inl (.inl e52), .nil⟩, trivial, (fun e => by cases e), fun k e1 e2 => ?_⟩
    cases e1
    refine ⟨fun nh => (nh _ _ hD).elim, fun hs' N' z => ?_⟩
    obtain ⟨rfl, rfl⟩ := house_one (by decide) hD z
    refine ⟨fun nr => (nr [] ⟨.inr rfl, by simp, fun r hr => nomatch hr⟩).elim, fun rs hR p H5 s5 hp e5 => ?_⟩
    have ers : rs = [] := by
      rcases hR.1 with e | e
      · cases e
      · exact List.map_eq_nil_iff.mp (Dat2.lsts.inj e).symm
    subst ers
    walk_at "rd"
    refine ⟨lz (by simp), fun p53 h53 => ?_⟩
    obtain ⟨s53, e53⟩ := new_at (o := .lst [.int 0, .int 1, .int 2]) h53
    walk_at "rd"
    generalize upd H5 p53 (.lst [.int 0, .int 1, .int 2]) = H53 at s53 e53 ⊢
    refine eqL (ys := [0, 1, 2]) (.inl (.inl (s53 _ _ e5))) (.inl (.inl e53)) ?_
    rw [show decide (keptF [[0, 1, 2]] [] 3 = [0, 1, 2]) = true by decide]
    exact q _
  obtain ⟨y2, y3, y4, y5, y6, y7, y8, y9, y10, y11, y12, rfl, S2, T2⟩ := h
  have hi7 : i < 7 := by
    have e : (if (4 : Int) < ((ns.map V.int).length : Nat) then (4 : Int) else ((ns.map V.int).length : Nat)) ≤ 4 := by split <;> omega
    omega
  clear hT T1 S1 s1 hS
  walk_at "rd"
  refine ⟨s, g, c, 1000 * i, 4, rfl, S2, by omega, by omega, by omega, fun r H3 r0 r1 S3 k3 => ?_⟩
  refine rd_addI ?_
  have T3 := tabs_kept T2 k3 S2
  obtain ⟨n, en⟩ : ∃ n, n = 1 + r := ⟨_, rfl⟩
  rw [← en]
  have n1 : 1 ≤ n := by omega
  have n4 : n ≤ 4 := by omega
  clear k3 S2 T2
  walk_at "rd"
  refine ⟨s, g, c, 1000 * i + 1, n, 1, 8, rfl, S3, by omega, n1, n4, by omega, by omega, by omega, fun h1 ps1 hs1 N1 H4 S4 k4 A4 P4 hH4 l4 u4 => ?_⟩
  walk_at "rd"
  have T4 := tabs_kept T3 k4 S3
  clear k4 S3 T3
  refine ⟨s, g, c, 1000 * i + 1 + 250, 8, rfl, S4, by omega, by omega, by omega, fun r5 H5 _ _ S5 k5 => ?_⟩
  walk_at "rd"
  refine rd_eqI ?_
  walk_at "rd"
  have T5 := tabs_kept T4 k5 S4
  have A5 := A4.kept k5 S4
  have P5 : TupsP H5 ps1 hs1 := L2.Paired.mapP P4 fun _ _ t => k5.tp S4 t
  clear k5 S4 T4 A4 P4
  refine rd_joinS (C := fun σ H6 => ∃ (hh : Addr) (ps : List Addr) (hs : List (List Int)) (N : Nat), σ = [some (.ref a), some (.ref s), some (.int (0 + (i : Int))), some (.int n), some (.ref hh), y5, y6, y7, y8, y9, y10, y11, y12] ∧ StAt (1000 * i + 510) H6 s g c ∧ LamX.Tabs Tb H6 ∧
    Tk H6 hh (ps.map V.ref) ∧ TupsP H6 ps hs ∧ XH.Hs N n hs ∧ 1 ≤ N ∧ N ≤ 60) (fun σ H6 hc => ?_) fun key => ?_
  rotate_left
  · refine rd_ite (fun e => ?_) fun e => ?_
    · walk_at "rd"
      refine ⟨s, g, c, 1000 * i + 1 + 250 + 1, n, 60, 60, rfl, S5, by omega, n1, n4, by omega, by omega, by omega, fun h2 ps2 hs2 N2 H6 S6 k6 A6 P6 hH6 l6 u6 => ?_⟩
      exact key _ _ ⟨h2, ps2, hs2, N2, rfl, S6.mono (by omega), tabs_kept T5 k6 S5, A6, P6, hH6, by omega, by omega⟩
    · exact key _ _ ⟨h1, ps1, hs1, N1, rfl, S5.mono (by omega), T5, A5, P5, hH4, by omega, by omega⟩
  clear A5 P5 hH4 S5 T5 l4 u4 hs1 ps1
  obtain ⟨hh, ps, hs, N, rfl, S6, T6, A6, P6, hH, N1, N60⟩ := hc
  dsimp only
  walk_at "rd"
  refine ⟨s, g, c, 1000 * i + 510, 4, rfl, S6, by omega, by omega, by omega, fun r7 H7 a7 b7 S7 k7 => ?_⟩
  walk_at "rd"
  refine ⟨by omega, by omega, fun D hD => ?_⟩
  have Dg := S7.ne_n hD
  refine lc_it walk_range (fun j H' => ∃ (qs : List Addr) (rs : List (List Int)), H' D = some (.lst (qs.map V.ref)) ∧ Tups K H' qs rs ∧ rs.length = j ∧ (∀ r ∈ rs, LetS n r ∧ r.length ≤ 18) ∧ StAt (1000 * i + 511 + 60 * j) H' s g c ∧ XE.Kept s g H7 H')
    ⟨[], [], upd_same, .nil, rfl, (fun r h => nomatch h), S7.same (same_new hD), .of (same_new hD)⟩ (fun _ _ _ _ => True.intro) (fun j x H4 H5 hj pv y => ?_) fun H8 h8 => ?_
  · obtain ⟨qs, rs, eD, tp, hl2, hr2, S8, k8⟩ := pv
    obtain ⟨rfl, ex⟩ := y
    walk_at "rd"
    refine ⟨rfl, ?_⟩
    walk_at "rd"
    refine iteT ?_
    walk_at "rd"
    refine ⟨s, g, c, 1000 * i + 511 + 60 * j, n, rfl, S8, by omega, n1, n4, fun p xs H9 S9 k9 t9 l9 e9 => ?_⟩
    have eD9 := k9.lst S8 eD Dg
    refine ⟨_, eD9, lzl (by have := tp.len; rw [List.length_map]; omega), qs ++ [p], rs ++ [xs], by rw [upd_same]; simp, ?_, by simp [hl2], fun r hr => ?_, StAt.mut S7 hD (S9.mono (by omega)), (k8.trans k9).mut hD⟩
    · exact Paired.snoc (L2.Paired.mapP tp fun q zs t => tup_upd eD9 (k9.sqT S8 t)) (tup_upd eD9 t9.sqT)
    · rcases List.mem_append.mp hr with z | z
      · exact hr2 r z
      · rw [List.mem_singleton.mp z]; exact ⟨e9, l9⟩
  obtain ⟨qs, rs, eD, tp, hl2, hr2, S8, k8⟩ := h8
  have K8 := k7.trans k8
  have A8 := A6.kept K8 S6
  have P8 : TupsP H8 ps hs := L2.Paired.mapP P6 fun _ _ t => K8.tp S6 t
  have T8 := tabs_kept T6 K8 S6
  have hl3 : rs.length ≤ 3 := by omega
  have S8 := S8.mono (show 1000 * i + 511 + 60 * r7.toNat ≤ 1000 * i + 700 by omega)
  clear K8 k7 k8 A6 P6 T6 S6 hD hl2 a7 b7
  walk_at "rd"
  refine ⟨lz (by simp), fun p20 h20 => ?_⟩
  obtain ⟨s20, e20⟩ := new_at (o := .tup []) h20
  walk_at "rd"
  generalize upd H8 p20 (.tup []) = H20 at s20 e20 ⊢
  refine ⟨lz (by simp), fun p21 h21 => ?_⟩
  obtain ⟨s21, e21⟩ := new_at (o := .lst [.ref p20]) h21
  walk_at "rd"
  generalize upd H20 p21 (.lst [.ref p20]) = H21 at s21 e21 ⊢
  refine ⟨s, g, c, 1000 * i + 700, 4, rfl, S8.same (s20.trans s21), by omega, by omega, by omega, fun r9 H9 a9 b9 S9 k9 => ?_⟩
  have S21 := S8.same (s20.trans s21)
  have e21 := k9.lst S21 e21 ((S8.same s20).ne_n h21)
  refine repOneL e21 (by omega) (by omega) fun p22 h22 => ?_
  obtain ⟨s22, e22⟩ := new_at (o := .lst (List.replicate r9.toNat (.ref p20))) h22
  walk_at "rd"
  generalize upd H9 p22 (.lst (List.replicate r9.toNat (.ref p20))) = H22 at s22 e22 ⊢
  have eD9 := s22 _ _ (k9.lst S21 ((s20.trans s21) _ _ eD) Dg)
  refine catL eD9 e22 (by have := tp.len; simp only [List.length_map, List.length_replicate]; omega) fun R hR => ?_
  have e20 : SqT K H22 p20 (([] : List Int).map V.int) := sqT_same s22 (k9.sqT S21 (.inl (.inl (s21 _ _ e20))))
  have tp := L2.Paired.mapP tp fun q zs (t : SqT K H8 q (zs.map V.int)) => sqT_same s22 (k9.sqT S21 (sqT_same (s20.trans s21) t))
  have repT : ∀ k : Nat, Tups K H22 (List.replicate k p20) (List.replicate k []) := fun k => by
    induction k with
    | zero => exact .nil
    | succ k ih => exact .cons e20 ih
  have tR : Tups K H22 (qs ++ List.replicate r9.toNat p20) (rs ++ List.replicate r9.toNat []) := paired_app tp (repT _)
  obtain ⟨sR, eR⟩ := new_at (o := .lst (qs.map V.ref ++ List.replicate r9.toNat (.ref p20))) hR
  have eR : upd H22 R (.lst (qs.map V.ref ++ List.replicate r9.toNat (.ref p20))) R = some (.lst ((qs ++ List.replicate r9.toNat p20).map V.ref)) := by rw [eR]; simp
  have hrs : ∀ r ∈ rs ++ List.replicate r9.toNat [], LetS n r ∧ r.length ≤ 18 := fun r hr => by
    rcases List.mem_append.mp hr with z | z
    · exact hr2 r z
    · rw [(List.mem_replicate.mp z).2]; exact ⟨(fun x hx => nomatch hx), by simp⟩
  have lrs : (rs ++ List.replicate r9.toNat []).length ≤ 6 := by simp only [List.length_append, List.length_replicate]; omega
  walk_at "rd"
  generalize upd H22 R (.lst (qs.map V.ref ++ List.replicate r9.toNat (.ref p20))) = H23 at sR eR ⊢
  have tR := Tups.same tR sR
  generalize qs ++ List.replicate r9.toNat p20 = qs at tR eR
  generalize rs ++ List.replicate r9.toNat [] = rs at tR hrs lrs
  have K9 : XE.Kept s g H8 H23 := ((XE.Kept.of (s20.trans s21)).trans k9).trans (.of (s22.trans sR))
  have S23 := S9.same (s22.trans sR)
  have Rg : R ≠ g := (S9.same s22).ne_n hR
  have A23 := A8.kept K9 S8
  have P23 : TupsP H23 ps hs := L2.Paired.mapP P8 fun _ _ t => K9.tp S8 t
  have T23 := tabs_kept T8 K9 S8
  clear K9 A8 P8 T8 S8 S9 k9 S21 e21 eD9 e22 e20 tp repT eD hr2 hl3 h22 h21 h20 s20 s21 s22 sR hR
  obtain ⟨rh, hD, sh_⟩ := house_rp (K := K) A23 P23.tups hH N1 N60
  obtain ⟨p0, o0, a0, t0, l0⟩ := first_at hH n1 (P23.tups (K := K))
  refine rd_ixT A23.sqT a0 ?_
  walk_at "rd"
  refine lenT t0 ?_
  rw [List.length_map, l0]
  walk_at "rd"
  refine ⟨rfl, rfl, ?_⟩
  refine ⟨.int n, .flat (.int n), .ref hh, _, rfl, ⟨rfl, rfl⟩, rh, sh_, (fun e => by rw [deeds_in n1 n4] at e; cases e), fun k e1 e2 b H24 s24 ib => ?_⟩
  cases e1
  cases b with
  | false => exact Bool.noConfusion (ib.mpr ⟨hs, N, hD⟩)
  | true =>
  walk_at "rd"
  refine ⟨_, _, rfl, rfl, ?_⟩
  walk_at "rd"
  refine iteF ?_
  have S24 := S23.same s24
  have A24 := A23.same s24
  have P24 := P23.same s24
  have T24 := tabs_same T23 s24
  have tR := Tups.same tR s24
  have eR := s24 _ _ eR
  clear S23 A23 P23 T23 s24 rh t0 a0 ib e2
  walk_at "rd"
  refine .inl ?_
  walk_at "rd"
  refine ⟨by omega, by omega, fun D hD2 => ?_⟩
  have Dg := S24.ne_n hD2
  refine lc_it walk_range (fun j H' => ∃ (qs : List Addr) (rs : List (List Int)), H' D = some (.lst (qs.map V.ref)) ∧ Tups K H' qs rs ∧ rs.length = j ∧ (∀ r ∈ rs, LetS n r ∧ r.length ≤ 18) ∧ StAt (1000 * i + 701 + 60 * j) H' s g c ∧ XE.Kept s g H24 H')
    ⟨[], [], upd_same, .nil, rfl, (fun r h => nomatch h), S24.same (same_new hD2), .of (same_new hD2)⟩ (fun _ _ _ _ => True.intro) (fun j x H4 H5 hj pv y => ?_) fun H8 h8 => ?_
  · obtain ⟨qs, rs, eD, tp, hl2, hr2, S8, k8⟩ := pv
    obtain ⟨rfl, ex⟩ := y
    walk_at "rd"
    refine ⟨rfl, ?_⟩
    walk_at "rd"
    refine iteT ?_
    walk_at "rd"
    refine ⟨s, g, c, 1000 * i + 701 + 60 * j, n, rfl, S8, by omega, n1, n4, fun p xs H9 S9 k9 t9 l9 e9 => ?_⟩
    have eD9 := k9.lst S8 eD Dg
    refine ⟨_, eD9, lzl (by have := tp.len; rw [List.length_map]; omega), qs ++ [p], rs ++ [xs], by rw [upd_same]; simp, ?_, by simp [hl2], fun r hr => ?_, StAt.mut S24 hD2 (S9.mono (by omega)), (k8.trans k9).mut hD2⟩
    · exact Paired.snoc (L2.Paired.mapP tp fun q zs t => tup_upd eD9 (k9.sqT S8 t)) (tup_upd eD9 t9.sqT)
    · rcases List.mem_append.mp hr with z | z
      · exact hr2 r z
      · rw [List.mem_singleton.mp z]; exact ⟨e9, l9⟩
  obtain ⟨qs2, rs2, eD, tp, hl2, hr2, S8, k8⟩ := h8
  have A8 := A24.kept k8 S24
  have P8 : TupsP H8 ps hs := L2.Paired.mapP P24 fun _ _ t => k8.tp S24 t
  have T8 := tabs_kept T24 k8 S24
  have eR8 := k8.lst S24 eR Rg
  have tR8 := L2.Paired.mapP tR fun q zs (t : SqT K H24 q (zs.map V.int)) => k8.sqT S24 t
  have S8 := S8.mono (show 1000 * i + 701 + 60 * (Int.toNat 2) ≤ 1000 * i + 830 by have : (Int.toNat 2) = 2 := rfl; omega)
  clear k8 A24 P24 T24 S24 eR tR hD2
  walk_at "rd"
  refine catL eD eR8 (by have := tp.len; have := Paired.length tR8; simp only [List.length_map]; simp at hl2; omega) fun L hL => ?_
  obtain ⟨sL, eL⟩ := new_at (o := .lst (qs2.map V.ref ++ qs.map V.ref)) hL
  have eL : upd H8 L (.lst (qs2.map V.ref ++ qs.map V.ref)) L = some (.lst ((qs2 ++ qs).map V.ref)) := by rw [eL]; simp
  have tL : Tups K H8 (qs2 ++ qs) (rs2 ++ rs) := paired_app tp tR8
  have hL2 : ∀ r ∈ rs2 ++ rs, LetS n r ∧ r.length ≤ 18 := fun r hr => (List.mem_append.mp hr).elim (hr2 r) (hrs r)
  have lL : (rs2 ++ rs).length ≤ 8 := by simp at hl2; simp only [List.length_append]; omega
  have LgN : L ≠ g := S8.ne_n hL
  generalize upd H8 L (.lst (qs2.map V.ref ++ qs.map V.ref)) = H10 at sL eL ⊢
  have S10 := S8.same sL
  have A10 := A8.same sL
  have P10 := P8.same sL
  have T10 := tabs_same T8 sL
  have eR10 := sL _ _ eR8
  have tR10 := Tups.same tR8 sL
  have tL := tL.same sL
  generalize qs2 ++ qs = qL at tL eL
  generalize rs2 ++ rs = rL at tL hL2 lL
  clear S8 A8 P8 T8 eR8 tR8 sL hr2 hl2 tp eD hL
  walk_at "rd"
  refine ⟨L, rfl, ⟨_, .inl (.inl eL)⟩, ?_⟩
  have hlL := tL.len
  refine for_list (xs := qL.map V.ref) (fun j σ H' => ∃ y7 y8 y9 y12 : Option V, σ = [some (.ref a), some (.ref s), some (.int (0 + (i : Int))), some (.int n), some (.ref hh), some (.ref R), some (.int (N : Nat)), y7, y8, y9, y10, y11, y12] ∧ StAt (1000 * i + 830 + j) H' s g c ∧ XE.Kept s g H10 H')
    ⟨_, _, _, _, rfl, S10, .refl⟩ (fun j σ H' _ h => ?_) (fun j x σ H' hx h => ?_) (fun σ H' h => ?_)
  · obtain ⟨_, _, _, _, _, S11, k11⟩ := h
    exact .inl (.inl (k11.lst S10 eL LgN))
  · obtain ⟨y7, y8, y9, y12, rfl, S11, k11⟩ := h
    obtain ⟨p2, xs, rfl, _, e5, hx2⟩ := tL.at hx
    obtain ⟨le, l18⟩ := hL2 xs (List.mem_of_getElem? e5)
    have hj : j < 8 := by
      have := (List.getElem?_eq_some_iff.mp e5).1
      omega
    walk_at "rd"
    refine ⟨s, g, c, 1000 * i + 830 + j, (N : Int), rfl, S11, by omega, by omega, by omega, fun pl H12 q0 q1 S12 k12 => ?_⟩
    walk_at "rd"
    have K12 := k11.trans k12
    have A12 := A10.kept K12 S10
    have P12 : TupsP H12 ps hs := L2.Paired.mapP P10 fun _ _ t => K12.tp S10 t
    have tx := K12.sqT S10 hx2
    have lets : ∀ l ∈ xs, XH.Let n l := le
    have w := XH.walk_in hH lets q0 q1
    refine ⟨rfl, rfl, ?_⟩
    refine led_of n1 n4 (house_rp A12 P12.tups hH N1 N60).1 hD sh_ tx le (by omega) q0 q1 fun H13 s13 => ?_
    walk_at "rd"
    refine ⟨_, .flat (.int (XH.walk hs xs pl)), rfl, ⟨rfl, rfl⟩, ?_⟩
    refine truB ?_
    refine iteF ?_
    walk_at "rd"
    refine ⟨hh, p2, ps, hs, N, n, xs, pl, rfl, sqT_same s13 A12.sqT, P12.same s13, hH, sqT_same s13 tx, lets, q0, q1, ?_⟩
    walk_at "rd"
    refine rd_neI ?_
    rw [decide_eq_true rfl]
    walk_at "rd"
    refine iteF ?_
    walk_at "rd"
    refine ⟨p2, xs, rfl, sqT_same s13 tx, by omega, fun p3 H14 s14 t14 => ?_⟩
    walk_at "rd"
    have linv := inv_len xs
    refine led_of n1 n4 (((house_rp A12 P12.tups hH N1 N60).1.same s13).same s14) hD sh_ t14.sqT le.inv (by omega) w.1 w.2 fun H15 s15 => ?_
    rw [XH.walk_inv hH lets q0 q1]
    walk_at "rd"
    refine rd_neI ?_
    rw [decide_eq_true rfl]
    walk_at "rd"
    refine iteF ?_
    exact ⟨_, _, _, _, rfl, (((S12.same s13).same s14).same s15).mono (by omega), K12.trans (.of (s13.trans (s14.trans s15)))⟩
  obtain ⟨y7, y8, y9, y12, rfl, S11, k11⟩ := h
  have S11 := S11.mono (show 1000 * i + 830 + (qL.map V.ref).length ≤ 1000 * i + 840 by rw [List.length_map]; omega)
  have A11 := A10.kept k11 S10
  have P11 : TupsP H' ps hs := L2.Paired.mapP P10 fun _ _ t => k11.tp S10 t
  have T11 := tabs_kept T10 k11 S10
  have eR11 := k11.lst S10 eR10 Rg
  have tR11 : Tups K H' qs rs := L2.Paired.mapP tR10 fun q zs (t : SqT K H10 q (zs.map V.int)) => k11.sqT S10 t
  clear S10 A10 P10 T10 eR10 tR10 k11 tL eL hL2
  walk_at "rd"
  refine ⟨hh, R, ps, qs, hs, rs, N, n, rfl, A11.sqT, P11, hH, n1, N60, .inl (.inl eR11), tR11, by omega, fun r hr => (hrs r hr).1, fun pd H12 s12 hpd ed => ?_⟩
  walk_at "rd"
  refine ⟨R, _, rfl, .inl (.inl (.inl (s12 _ _ eR11))), fun k hk => ?_⟩
  obtain ⟨s13, e13⟩ := new_at (o := .lst (qs.map V.ref)) hk
  walk_at "rd"
  generalize upd H12 k (.lst (qs.map V.ref)) = H13 at s13 e13 ⊢
  have z := s12.trans s13
  have S13 := S11.same z
  have A13 := A11.same z
  have P13 := P11.same z
  have T13 := tabs_same T11 z
  have eR13 := z _ _ eR11
  have tR13 := tR11.same z
  have ed13 := s13 _ _ ed
  have rh := (house_rp (K := K) A13 P13.tups hH N1 N60).1
  clear S11 A11 P11 T11 eR11 tR11 z ed s12 s13 hpd hk
  refine ⟨rfl, rfl, ?_⟩
  refine kept_of n1 n4 rh hD sh_ (v := .ref k) (d := .lsts (rs.map fun r => .tup (r.map V.int))) ⟨k, _, rfl, .inl (.inl e13), of_tups tR13 fun z hz => by have := (hrs z hz).2; omega⟩ (.inr rfl) lrs hrs fun pf H14 s14 hpf ef => ?_
  walk_at "rd"
  have lk := keptF_len (hs := hs) (rs := rs) (i := N)
  refine rd_isT (d := .lst ((keptF hs rs N).map V.int)) ⟨pf, rfl, .inl (.inl ef)⟩ (kit_list _) ?_
  refine truB ?_
  refine iteF ?_
  walk_at "rd"
  refine rd_tupOfL (.inl (.inl ef)) fun p15 o15 hp15 ho15 hd15 => ?_
  have s15 : Same H14 (upd H14 p15 (.frz o15 (.tup ((keptF hs rs N).map V.int)))) := same_new hp15
  have t15 : Tp (upd H14 p15 (.frz o15 (.tup ((keptF hs rs N).map V.int)))) p15 ((keptF hs rs N).map V.int) := ⟨o15, upd_same, ho15, hd15⟩
  walk_at "rd"
  generalize upd H14 p15 (.frz o15 (.tup ((keptF hs rs N).map V.int))) = H15 at s15 t15 ⊢
  refine rd_tupOfL (.inl (.inl (s15 _ _ (s14 _ _ ed13)))) fun p16 o16 hp16 ho16 hd16 => ?_
  have s16 : Same H15 (upd H15 p16 (.frz o16 (.tup ((keptF hs rs N).map V.int)))) := same_new hp16
  have t16 : Tp (upd H15 p16 (.frz o16 (.tup ((keptF hs rs N).map V.int)))) p16 ((keptF hs rs N).map V.int) := ⟨o16, upd_same, ho16, hd16⟩
  walk_at "rd"
  generalize upd H15 p16 (.frz o16 (.tup ((keptF hs rs N).map V.int))) = H16 at s16 t16 ⊢
  refine ⟨p15, p16, keptF hs rs N, keptF hs rs N, rfl, (t15.same s16).sqT, t16.sqT, by omega, fun H17 s17 => ?_⟩
  rw [decide_eq_true rfl]
  refine truB ?_
  refine iteF ?_
  walk_at "rd"
  have z : Same H13 H17 := s14.trans (s15.trans (s16.trans s17))
  refine neRows (.inl (.inl (z _ _ e13))) (tR13.same z) (.inl (.inl (z _ _ eR13))) (tR13.same z) ?_
  walk_at "rd"
  refine iteF ?_
  walk_at "rd"
  have ef17 := (s15.trans (s16.trans s17)) _ _ ef
  refine ⟨tyl ef17, pf, _, rfl, rfl, ef17, ?_⟩
  have z2 : Same H13 (upd H17 pf (.lst [])) := same_mut z hpf
  walk_at "rd"
  generalize upd H17 pf (.lst []) = H18 at z2 ⊢
  refine rd_tupOfL (.inl (.inl (z2 _ _ eR13))) fun p19 o19 hp19 ho19 hd19 => ?_
  have s19 : Same H18 (upd H18 p19 (.frz o19 (.tup (qs.map V.ref)))) := same_new hp19
  have t19 : Tk (upd H18 p19 (.frz o19 (.tup (qs.map V.ref)))) p19 (qs.map V.ref) := .inr ⟨o19, upd_same⟩
  walk_at "rd"
  generalize upd H18 p19 (.frz o19 (.tup (qs.map V.ref))) = H19 at s19 t19 ⊢
  have z3 := z2.trans s19
  refine kept_of n1 n4 (rh.same z3) hD sh_ (v := .ref p19) (d := .tups (rs.map fun r => .tup (r.map V.int))) ⟨p19, _, rfl, t19.sqT, of_tups (tR13.same z3) fun z hz => by have := (hrs z hz).2; omega⟩ (.inl rfl) lrs hrs fun p20 H20 s20 hp20 e20 => ?_
  have z4 := z3.trans s20
  walk_at "rd"
  refine neL (.inl (.inl e20)) (.inl (.inl (z4 _ _ ed13))) ?_
  rw [decide_eq_true rfl]
  walk_at "rd"
  refine iteF ?_
  walk_at "rd"
  refine ⟨s, g, c, hh, 1000 * i + 840, n, ps, hs, N, rfl, S13.same z4, by omega, n1, n4, tabs_same T13 z4, A13.same z4, P13.same z4, hH, N1, N60, fun H21 S21 T21 => ?_⟩
  refine truB ?_
  refine iteF ?_
  exact ⟨_, _, _, _, _, _, _, _, _, _, _, rfl, S21.mono (by omega), T21⟩
end
end KP

set_option linter.all false
set_option maxRecDepth 100000
set_option maxHeartbeats 0
namespace KP
open PySem PySem.Spec PyProof.Rows L2
def topR (i : Nat) : Stmt := PySem.Challenge.pw_meankept_k03_houses_and_kept_places.main.body.getD i (.Pass ⟨0, 0, 0, 0⟩)
def dfn (x : Str) (i : Nat) : He.DefD := ⟨(x, none), x, x, defArgs (topR i), defBody (topR i), defScope (topR i), [], []⟩
def hf1 : List He.DefD := [dfn "plain_letters" 8, dfn "add_step" 10, dfn "house_steps" 11, dfn "walked" 12, dfn "is_whole" 17, dfn "is_whole_from" 18, dfn "is_letter" 19, dfn "are_letters" 20, dfn "is_letter_row" 21, dfn "check_deeds" 22, dfn "taken_row" 23, dfn "taken_rows" 24, dfn "check_place" 25, dfn "is_order" 28]
def hf2 : List He.DefD := [dfn "has_house_form" 29, dfn "check_house" 30, dfn "is_kept" 31, dfn "is_house" 32, dfn "led" 33, dfn "kept" 34, dfn "_law_begun" 36, dfn "_law_blended" 37, dfn "_law_draw" 38, dfn "_law_pick" 39, dfn "_law_shuffled" 40, dfn "_law_caught" 41, dfn "_law_mk_plain" 42, dfn "_law_mk_undone" 43]
def hf3 : List He.DefD := [dfn "_law_mk_letters" 44, dfn "_law_mk_row" 45, dfn "_law_mk_raw" 46, dfn "_law_mk_led" 47, dfn "_law_mk_kept" 48, dfn "_law_mk_bad_deeds" 49, dfn "_law_mk_bad_row" 50, dfn "_law_mk_bad_rows" 51, dfn "_law_mr_whole" 52, dfn "_law_mr_same" 53, dfn "_law_mr_times" 54, dfn "_law_mr_turned" 55, dfn "_law_mr_row" 56, dfn "_law_mr_house" 57]
def hf4 : List He.DefD := [dfn "_law_mr_bad_house" 58, dfn "_law_mr_house_faults" 59, dfn "law" 60]
def hfn : List He.DefD := hf1 ++ hf2 ++ hf3 ++ hf4
def hfr : List Str := ["isinstance", "int", "bool", "tuple", "list", "len", "all", "abs", "min", "range", "set", "enumerate"]
def hfx : List Str := ["KeepError", "BadDeeds", "BadHouse", "BadPlace", "BadRow", "BadRows"]
def hfa : List He.Fa := hfr.map He.Fa.free ++ (hfn.map fun d => He.Fa.glo d.name) ++ hfx.map He.Fa.glo ++ hfx.map He.Fa.exc ++ [.int "MOST_DEEDS" 4, .int "MOST_LETTERS" 200, .int "MOST_ROWS" 6, .int "MOST_PLACES" 60, .exm "BadDeeds" "KeepError" true, .exm "BadHouse" "KeepError" true, .exm "BadPlace" "KeepError" true, .exm "BadRow" "KeepError" true, .exm "BadRows" "KeepError" true]
def htf : List He.Defn := [("_law_mr_house_faults", none)]
def excCB (K : PySem.W.Frag) (x : Str) : Bool := He.eqO (PySem.W.findIn K (.ref (He.ga K x)) "__getattribute__") (some (some (.builtin "BaseException.__getattribute__"))) && (He.eqO (PySem.W.findIn K (.ref (He.ga K x)) "__getattr__") (some none) &&
  (decide (PySem.W.subIn K (.ref (He.ga K x)) (.type "BaseException") = some true) && (PySem.W.hasDictIn K (He.ga K x) && (He.eqO (PySem.W.findIn K (.ref (He.ga K x)) "__class__") (some (some (.builtin "object.__class__"))) &&
  (He.eqO (PySem.W.specialIn K (.builtin "object.__class__") "__get__") (some (some (.builtin "getset_descriptor.__get__"))) && (decide (PySem.W.takesIn K (.builtin "object.__class__") = some true) && decide (PySem.W.mroIn K (He.ga K x) (.type "object") = some true)))))))
def kitB1 (K : PySem.W.Frag) (x : Str) : Bool := decide (PySem.W.kitOne K (.ref (He.ga K x)) (.ref (He.ga K x)) = some true)
def hex_ (K : PySem.W.Frag) : Bool := hfx.all (excCB K) && hfx.all (kitB1 K)
abbrev HR : PySem.W.OpenRow := PySem.W.OpenLaw.row PySem.Challenge.rw_meankept_k03_houses_and_kept_places
abbrev hk : PySem.W.Hook := He.hookX 5 hfa hfn [] htf hex_
def hob (s : PySem.W.SharedT) : He.AlX := He.obsX 5 hfa hfn [] htf hex_ (HandSHeadRun.getT s)
theorem hob_eq (s : PySem.W.SharedT) : hob s = hk.obs s.abs := He.obsX_eq (HandSHeadRun.getT_eq s)
def hl1 : List Str := ["KeepError", "BadDeeds", "BadHouse", "BadPlace", "BadRow", "BadRows", "plain_letters", "add_step", "house_steps", "walked", "MOST_DEEDS", "MOST_LETTERS", "MOST_ROWS", "is_whole", "is_whole_from"]
def hl2 : List Str := ["is_letter", "are_letters", "is_letter_row", "check_deeds", "taken_row", "taken_rows", "check_place", "MOST_PLACES", "is_order", "has_house_form", "check_house", "is_kept", "is_house", "led", "kept"]
def hl3 : List Str := ["_law_begun", "_law_blended", "_law_draw", "_law_pick", "_law_shuffled", "_law_caught", "_law_mk_plain", "_law_mk_undone", "_law_mk_letters", "_law_mk_row", "_law_mk_raw", "_law_mk_led", "_law_mk_kept", "_law_mk_bad_deeds", "_law_mk_bad_row"]
def hl4 : List Str := ["_law_mk_bad_rows", "_law_mr_whole", "_law_mr_same", "_law_mr_times", "_law_mr_turned", "_law_mr_row", "_law_mr_house", "_law_mr_bad_house", "_law_mr_house_faults"]
def hloose : List Str := hl1 ++ hl2 ++ hl3 ++ hl4
theorem hrun (w : World) : HandSHeadRun.RunEq HR (PySem.W.view HR.prog [60]) hk hob 3000 hloose w := by
  intro os
  kernel_rfl
end KP

set_option linter.all false
set_option maxRecDepth 100000
set_option maxHeartbeats 4000000
namespace KP
open PySem PySem.Spec PyProof.Rows L2 XA XB XC XD XM XE XF XG
theorem all_of {α : Type} {l : List α} {p : α → Bool} (h : l.all p = true) (i : Nat) {x : α} (e : l[i]? = some x := by rfl) : p x = true := List.all_eq_true.mp h x (List.mem_of_getElem? e)
theorem excC_of {K : PySem.W.Frag} {x : Str} (h : excCB K x = true) : ExcC K (He.ga K x) := by
  obtain ⟨h1, h⟩ := He.ba h
  obtain ⟨h2, h⟩ := He.ba h
  obtain ⟨h3, h⟩ := He.ba h
  obtain ⟨h4, h⟩ := He.ba h
  obtain ⟨h5, h⟩ := He.ba h
  obtain ⟨h6, h⟩ := He.ba h
  obtain ⟨h7, h8⟩ := He.ba h
  exact ⟨He.eqO_ok h1, He.eqO_ok h2, of_decide_eq_true h3, h4, He.eqO_ok h5, He.eqO_ok h6, of_decide_eq_true h7, of_decide_eq_true h8⟩
section
variable {w : World} {K : PySem.W.Frag} {h : Heap} {mg : Str → Option Value}
theorem xc_of (X : K.In h) (G : h.Ns mainGlobals mg) {x : Str} (g : (He.Fa.glo x).ok K = true) (c : (He.Fa.exc x).ok K = true) (e : excCB K x = true) : Xc K mg x (He.ga K x) := by
  obtain ⟨a1, a2, a3, a4⟩ := He.exc_ok c
  exact ⟨He.glo_ok X G g, a1, a2, a3, a4, excC_of e⟩
theorem bs_of (X : K.In h) (G : h.Ns mainGlobals mg) (c : He.SaysX hfa hfn [] htf hex_ w h K) : Bs K mg := by
  have d := c.t.d
  obtain ⟨m1, m2⟩ := He.ba (show (hfx.all (excCB K) && hfx.all (kitB1 K)) = true from c.more)
  exact ⟨He.free_ok X G (d.fact 0 (f := .free "isinstance") rfl),
    He.free_ok X G (d.fact 1 (f := .free "int") rfl),
    He.free_ok X G (d.fact 2 (f := .free "bool") rfl),
    He.free_ok X G (d.fact 3 (f := .free "tuple") rfl),
    He.free_ok X G (d.fact 4 (f := .free "list") rfl),
    He.free_ok X G (d.fact 5 (f := .free "len") rfl),
    He.free_ok X G (d.fact 6 (f := .free "all") rfl),
    He.free_ok X G (d.fact 7 (f := .free "abs") rfl),
    He.free_ok X G (d.fact 8 (f := .free "min") rfl),
    He.free_ok X G (d.fact 9 (f := .free "range") rfl),
    He.free_ok X G (d.fact 10 (f := .free "set") rfl),
    He.free_ok X G (d.fact 11 (f := .free "enumerate") rfl),
    He.int_ok X G (d.fact 69 (f := .int "MOST_DEEDS" 4) rfl),
    He.int_ok X G (d.fact 70 (f := .int "MOST_LETTERS" 200) rfl),
    He.int_ok X G (d.fact 71 (f := .int "MOST_ROWS" 6) rfl),
    He.int_ok X G (d.fact 72 (f := .int "MOST_PLACES" 60) rfl),
    xc_of X G (d.fact 57 (f := .glo "KeepError") rfl) (d.fact 63 (f := .exc "KeepError") rfl) (all_of m1 0),
    xc_of X G (d.fact 58 (f := .glo "BadDeeds") rfl) (d.fact 64 (f := .exc "BadDeeds") rfl) (all_of m1 1),
    xc_of X G (d.fact 59 (f := .glo "BadHouse") rfl) (d.fact 65 (f := .exc "BadHouse") rfl) (all_of m1 2),
    xc_of X G (d.fact 60 (f := .glo "BadPlace") rfl) (d.fact 66 (f := .exc "BadPlace") rfl) (all_of m1 3),
    xc_of X G (d.fact 61 (f := .glo "BadRow") rfl) (d.fact 67 (f := .exc "BadRow") rfl) (all_of m1 4),
    xc_of X G (d.fact 62 (f := .glo "BadRows") rfl) (d.fact 68 (f := .exc "BadRows") rfl) (all_of m1 5)⟩
theorem es_of (c : He.SaysX hfa hfn [] htf hex_ w h K) : Es K := by
  have d := c.t.d
  obtain ⟨m1, m2⟩ := He.ba (show (hfx.all (excCB K) && hfx.all (kitB1 K)) = true from c.more)
  exact ⟨He.exm_ok (d.fact 73 (f := .exm "BadDeeds" "KeepError" true) rfl), He.exm_ok (d.fact 74 (f := .exm "BadHouse" "KeepError" true) rfl), He.exm_ok (d.fact 75 (f := .exm "BadPlace" "KeepError" true) rfl), He.exm_ok (d.fact 76 (f := .exm "BadRow" "KeepError" true) rfl), He.exm_ok (d.fact 77 (f := .exm "BadRows" "KeepError" true) rfl), of_decide_eq_true (all_of m2 1), of_decide_eq_true (all_of m2 2), of_decide_eq_true (all_of m2 3), of_decide_eq_true (all_of m2 4), of_decide_eq_true (all_of m2 5)⟩
abbrev tbQ (K : PySem.W.Frag) : List (Addr × Str) := [((He.cT K ("_law_mr_house_faults", none)).2, "_law_mr_house_faults.<locals>.<lambda>")]
theorem lawAt {f : Addr} (X : K.In h) (G : h.Ns mainGlobals mg) (hf : mg ("law" : Str) = some (.ref f)) (c : He.SaysX hfa hfn [] htf hex_ w h K) :
    LamX.LawAtS PySem.Challenge.rw_meankept_k03_houses_and_kept_places w K CX0 12 63 "script" mg f h := by
  have d := c.t.d
  have T := bs_of X G c
  have Ec := es_of c
  obtain ⟨f_plain_letters, F_plain_letters⟩ := d.def_ 0 (d := dfn "plain_letters" 8) rfl
  have R_plain_letters : Rw K mg "plain_letters" s_plain_letters := ⟨_, _, F_plain_letters, He.glo_ok X G (d.fact 12 (f := .glo "plain_letters") rfl)⟩
  obtain ⟨f_add_step, F_add_step⟩ := d.def_ 1 (d := dfn "add_step" 10) rfl
  have R_add_step : Rw K mg "add_step" s_add_step := ⟨_, _, F_add_step, He.glo_ok X G (d.fact 13 (f := .glo "add_step") rfl)⟩
  obtain ⟨f_house_steps, F_house_steps⟩ := d.def_ 2 (d := dfn "house_steps" 11) rfl
  have R_house_steps : Rw K mg "house_steps" s_house_steps := ⟨_, _, F_house_steps, He.glo_ok X G (d.fact 14 (f := .glo "house_steps") rfl)⟩
  obtain ⟨f_walked, F_walked⟩ := d.def_ 3 (d := dfn "walked" 12) rfl
  have R_walked : Rw K mg "walked" s_walked := ⟨_, _, F_walked, He.glo_ok X G (d.fact 15 (f := .glo "walked") rfl)⟩
  obtain ⟨f_is_whole, F_is_whole⟩ := d.def_ 4 (d := dfn "is_whole" 17) rfl
  have R_is_whole : Rw K mg "is_whole" s_is_whole := ⟨_, _, F_is_whole, He.glo_ok X G (d.fact 16 (f := .glo "is_whole") rfl)⟩
  obtain ⟨f_is_whole_from, F_is_whole_from⟩ := d.def_ 5 (d := dfn "is_whole_from" 18) rfl
  have R_is_whole_from : Rw K mg "is_whole_from" s_is_whole_from := ⟨_, _, F_is_whole_from, He.glo_ok X G (d.fact 17 (f := .glo "is_whole_from") rfl)⟩
  obtain ⟨f_is_letter, F_is_letter⟩ := d.def_ 6 (d := dfn "is_letter" 19) rfl
  have R_is_letter : Rw K mg "is_letter" s_is_letter := ⟨_, _, F_is_letter, He.glo_ok X G (d.fact 18 (f := .glo "is_letter") rfl)⟩
  obtain ⟨f_are_letters, F_are_letters⟩ := d.def_ 7 (d := dfn "are_letters" 20) rfl
  have R_are_letters : Rw K mg "are_letters" s_are_letters := ⟨_, _, F_are_letters, He.glo_ok X G (d.fact 19 (f := .glo "are_letters") rfl)⟩
  obtain ⟨f_is_letter_row, F_is_letter_row⟩ := d.def_ 8 (d := dfn "is_letter_row" 21) rfl
  have R_is_letter_row : Rw K mg "is_letter_row" s_is_letter_row := ⟨_, _, F_is_letter_row, He.glo_ok X G (d.fact 20 (f := .glo "is_letter_row") rfl)⟩
  obtain ⟨f_check_deeds, F_check_deeds⟩ := d.def_ 9 (d := dfn "check_deeds" 22) rfl
  have R_check_deeds : Rw K mg "check_deeds" s_check_deeds := ⟨_, _, F_check_deeds, He.glo_ok X G (d.fact 21 (f := .glo "check_deeds") rfl)⟩
  obtain ⟨f_taken_row, F_taken_row⟩ := d.def_ 10 (d := dfn "taken_row" 23) rfl
  have R_taken_row : Rw K mg "taken_row" s_taken_row := ⟨_, _, F_taken_row, He.glo_ok X G (d.fact 22 (f := .glo "taken_row") rfl)⟩
  obtain ⟨f_taken_rows, F_taken_rows⟩ := d.def_ 11 (d := dfn "taken_rows" 24) rfl
  have R_taken_rows : Rw K mg "taken_rows" s_taken_rows := ⟨_, _, F_taken_rows, He.glo_ok X G (d.fact 23 (f := .glo "taken_rows") rfl)⟩
  obtain ⟨f_check_place, F_check_place⟩ := d.def_ 12 (d := dfn "check_place" 25) rfl
  have R_check_place : Rw K mg "check_place" s_check_place := ⟨_, _, F_check_place, He.glo_ok X G (d.fact 24 (f := .glo "check_place") rfl)⟩
  obtain ⟨f_is_order, F_is_order⟩ := d.def_ 13 (d := dfn "is_order" 28) rfl
  have R_is_order : Rw K mg "is_order" s_is_order := ⟨_, _, F_is_order, He.glo_ok X G (d.fact 25 (f := .glo "is_order") rfl)⟩
  obtain ⟨f_has_house_form, F_has_house_form⟩ := d.def_ 14 (d := dfn "has_house_form" 29) rfl
  have R_has_house_form : Rw K mg "has_house_form" s_has_house_form := ⟨_, _, F_has_house_form, He.glo_ok X G (d.fact 26 (f := .glo "has_house_form") rfl)⟩
  obtain ⟨f_check_house, F_check_house⟩ := d.def_ 15 (d := dfn "check_house" 30) rfl
  have R_check_house : Rw K mg "check_house" s_check_house := ⟨_, _, F_check_house, He.glo_ok X G (d.fact 27 (f := .glo "check_house") rfl)⟩
  obtain ⟨f_is_kept, F_is_kept⟩ := d.def_ 16 (d := dfn "is_kept" 31) rfl
  have R_is_kept : Rw K mg "is_kept" s_is_kept := ⟨_, _, F_is_kept, He.glo_ok X G (d.fact 28 (f := .glo "is_kept") rfl)⟩
  obtain ⟨f_is_house, F_is_house⟩ := d.def_ 17 (d := dfn "is_house" 32) rfl
  have R_is_house : Rw K mg "is_house" s_is_house := ⟨_, _, F_is_house, He.glo_ok X G (d.fact 29 (f := .glo "is_house") rfl)⟩
  obtain ⟨f_led, F_led⟩ := d.def_ 18 (d := dfn "led" 33) rfl
  have R_led : Rw K mg "led" s_led := ⟨_, _, F_led, He.glo_ok X G (d.fact 30 (f := .glo "led") rfl)⟩
  obtain ⟨f_kept, F_kept⟩ := d.def_ 19 (d := dfn "kept" 34) rfl
  have R_kept : Rw K mg "kept" s_kept := ⟨_, _, F_kept, He.glo_ok X G (d.fact 31 (f := .glo "kept") rfl)⟩
  obtain ⟨f__law_begun, F__law_begun⟩ := d.def_ 20 (d := dfn "_law_begun" 36) rfl
  have R__law_begun : Rw K mg "_law_begun" s__law_begun := ⟨_, _, F__law_begun, He.glo_ok X G (d.fact 32 (f := .glo "_law_begun") rfl)⟩
  obtain ⟨f__law_blended, F__law_blended⟩ := d.def_ 21 (d := dfn "_law_blended" 37) rfl
  have R__law_blended : Rw K mg "_law_blended" s__law_blended := ⟨_, _, F__law_blended, He.glo_ok X G (d.fact 33 (f := .glo "_law_blended") rfl)⟩
  obtain ⟨f__law_draw, F__law_draw⟩ := d.def_ 22 (d := dfn "_law_draw" 38) rfl
  have R__law_draw : Rw K mg "_law_draw" s__law_draw := ⟨_, _, F__law_draw, He.glo_ok X G (d.fact 34 (f := .glo "_law_draw") rfl)⟩
  obtain ⟨f__law_pick, F__law_pick⟩ := d.def_ 23 (d := dfn "_law_pick" 39) rfl
  have R__law_pick : Rw K mg "_law_pick" s__law_pick := ⟨_, _, F__law_pick, He.glo_ok X G (d.fact 35 (f := .glo "_law_pick") rfl)⟩
  obtain ⟨f__law_shuffled, F__law_shuffled⟩ := d.def_ 24 (d := dfn "_law_shuffled" 40) rfl
  have R__law_shuffled : Rw K mg "_law_shuffled" s__law_shuffled := ⟨_, _, F__law_shuffled, He.glo_ok X G (d.fact 36 (f := .glo "_law_shuffled") rfl)⟩
  obtain ⟨f__law_caught, F__law_caught⟩ := d.def_ 25 (d := dfn "_law_caught" 41) rfl
  have R__law_caught : Rw K mg "_law_caught" s__law_caught := ⟨_, _, F__law_caught, He.glo_ok X G (d.fact 37 (f := .glo "_law_caught") rfl)⟩
  obtain ⟨f__law_mk_plain, F__law_mk_plain⟩ := d.def_ 26 (d := dfn "_law_mk_plain" 42) rfl
  have R__law_mk_plain : Rw K mg "_law_mk_plain" s__law_mk_plain := ⟨_, _, F__law_mk_plain, He.glo_ok X G (d.fact 38 (f := .glo "_law_mk_plain") rfl)⟩
  obtain ⟨f__law_mk_undone, F__law_mk_undone⟩ := d.def_ 27 (d := dfn "_law_mk_undone" 43) rfl
  have R__law_mk_undone : Rw K mg "_law_mk_undone" s__law_mk_undone := ⟨_, _, F__law_mk_undone, He.glo_ok X G (d.fact 39 (f := .glo "_law_mk_undone") rfl)⟩
  obtain ⟨f__law_mk_letters, F__law_mk_letters⟩ := d.def_ 28 (d := dfn "_law_mk_letters" 44) rfl
  have R__law_mk_letters : Rw K mg "_law_mk_letters" s__law_mk_letters := ⟨_, _, F__law_mk_letters, He.glo_ok X G (d.fact 40 (f := .glo "_law_mk_letters") rfl)⟩
  obtain ⟨f__law_mk_row, F__law_mk_row⟩ := d.def_ 29 (d := dfn "_law_mk_row" 45) rfl
  have R__law_mk_row : Rw K mg "_law_mk_row" s__law_mk_row := ⟨_, _, F__law_mk_row, He.glo_ok X G (d.fact 41 (f := .glo "_law_mk_row") rfl)⟩
  obtain ⟨f__law_mk_raw, F__law_mk_raw⟩ := d.def_ 30 (d := dfn "_law_mk_raw" 46) rfl
  have R__law_mk_raw : Rw K mg "_law_mk_raw" s__law_mk_raw := ⟨_, _, F__law_mk_raw, He.glo_ok X G (d.fact 42 (f := .glo "_law_mk_raw") rfl)⟩
  obtain ⟨f__law_mk_led, F__law_mk_led⟩ := d.def_ 31 (d := dfn "_law_mk_led" 47) rfl
  have R__law_mk_led : Rw K mg "_law_mk_led" s__law_mk_led := ⟨_, _, F__law_mk_led, He.glo_ok X G (d.fact 43 (f := .glo "_law_mk_led") rfl)⟩
  obtain ⟨f__law_mk_kept, F__law_mk_kept⟩ := d.def_ 32 (d := dfn "_law_mk_kept" 48) rfl
  have R__law_mk_kept : Rw K mg "_law_mk_kept" s__law_mk_kept := ⟨_, _, F__law_mk_kept, He.glo_ok X G (d.fact 44 (f := .glo "_law_mk_kept") rfl)⟩
  obtain ⟨f__law_mk_bad_deeds, F__law_mk_bad_deeds⟩ := d.def_ 33 (d := dfn "_law_mk_bad_deeds" 49) rfl
  have R__law_mk_bad_deeds : Rw K mg "_law_mk_bad_deeds" s__law_mk_bad_deeds := ⟨_, _, F__law_mk_bad_deeds, He.glo_ok X G (d.fact 45 (f := .glo "_law_mk_bad_deeds") rfl)⟩
  obtain ⟨f__law_mk_bad_row, F__law_mk_bad_row⟩ := d.def_ 34 (d := dfn "_law_mk_bad_row" 50) rfl
  have R__law_mk_bad_row : Rw K mg "_law_mk_bad_row" s__law_mk_bad_row := ⟨_, _, F__law_mk_bad_row, He.glo_ok X G (d.fact 46 (f := .glo "_law_mk_bad_row") rfl)⟩
  obtain ⟨f__law_mk_bad_rows, F__law_mk_bad_rows⟩ := d.def_ 35 (d := dfn "_law_mk_bad_rows" 51) rfl
  have R__law_mk_bad_rows : Rw K mg "_law_mk_bad_rows" s__law_mk_bad_rows := ⟨_, _, F__law_mk_bad_rows, He.glo_ok X G (d.fact 47 (f := .glo "_law_mk_bad_rows") rfl)⟩
  obtain ⟨f__law_mr_whole, F__law_mr_whole⟩ := d.def_ 36 (d := dfn "_law_mr_whole" 52) rfl
  have R__law_mr_whole : Rw K mg "_law_mr_whole" s__law_mr_whole := ⟨_, _, F__law_mr_whole, He.glo_ok X G (d.fact 48 (f := .glo "_law_mr_whole") rfl)⟩
  obtain ⟨f__law_mr_same, F__law_mr_same⟩ := d.def_ 37 (d := dfn "_law_mr_same" 53) rfl
  have R__law_mr_same : Rw K mg "_law_mr_same" s__law_mr_same := ⟨_, _, F__law_mr_same, He.glo_ok X G (d.fact 49 (f := .glo "_law_mr_same") rfl)⟩
  obtain ⟨f__law_mr_times, F__law_mr_times⟩ := d.def_ 38 (d := dfn "_law_mr_times" 54) rfl
  have R__law_mr_times : Rw K mg "_law_mr_times" s__law_mr_times := ⟨_, _, F__law_mr_times, He.glo_ok X G (d.fact 50 (f := .glo "_law_mr_times") rfl)⟩
  obtain ⟨f__law_mr_turned, F__law_mr_turned⟩ := d.def_ 39 (d := dfn "_law_mr_turned" 55) rfl
  have R__law_mr_turned : Rw K mg "_law_mr_turned" s__law_mr_turned := ⟨_, _, F__law_mr_turned, He.glo_ok X G (d.fact 51 (f := .glo "_law_mr_turned") rfl)⟩
  obtain ⟨f__law_mr_row, F__law_mr_row⟩ := d.def_ 40 (d := dfn "_law_mr_row" 56) rfl
  have R__law_mr_row : Rw K mg "_law_mr_row" s__law_mr_row := ⟨_, _, F__law_mr_row, He.glo_ok X G (d.fact 52 (f := .glo "_law_mr_row") rfl)⟩
  obtain ⟨f__law_mr_house, F__law_mr_house⟩ := d.def_ 41 (d := dfn "_law_mr_house" 57) rfl
  have R__law_mr_house : Rw K mg "_law_mr_house" s__law_mr_house := ⟨_, _, F__law_mr_house, He.glo_ok X G (d.fact 53 (f := .glo "_law_mr_house") rfl)⟩
  obtain ⟨f__law_mr_bad_house, F__law_mr_bad_house⟩ := d.def_ 42 (d := dfn "_law_mr_bad_house" 58) rfl
  have R__law_mr_bad_house : Rw K mg "_law_mr_bad_house" s__law_mr_bad_house := ⟨_, _, F__law_mr_bad_house, He.glo_ok X G (d.fact 54 (f := .glo "_law_mr_bad_house") rfl)⟩
  obtain ⟨f__law_mr_house_faults, F__law_mr_house_faults⟩ := d.def_ 43 (d := dfn "_law_mr_house_faults" 59) rfl
  obtain ⟨f_law, F_law⟩ := d.def_ 44 (d := dfn "law" 60) rfl
  have hc : ∃ c0, f__law_mr_house_faults.code = .ref c0 := by
    obtain ⟨oc, od, dV, kV, doc, pm, an, cdv, ct, osl, e, lk, hcd, _, _⟩ := F__law_mr_house_faults.ex
    subst e
    exact He.codeIn_ref hcd
  obtain ⟨c0, hc⟩ := hc
  have hcT : (He.cT K ("_law_mr_house_faults", none)).1 = c0 := by
    obtain ⟨oc, od, dV, kV, doc, pm, an, cdv, ct, osl, e, lk, hcd, _, _⟩ := F__law_mr_house_faults.ex
    subst e
    exact He.codeOf_eq lk hc
  have R__law_mr_house_faults : RwC K mg "_law_mr_house_faults" s__law_mr_house_faults c0 := ⟨_, _, F__law_mr_house_faults, He.glo_ok X G (d.fact 55 (f := .glo "_law_mr_house_faults") rfl), hc⟩
  have hg := He.glo_ok X G (d.fact 56 (f := .glo "law") rfl)
  have ef := hf.symm.trans hg
  cases ef
  have b := FunD.bindsA (ps := ["script"]) F_law fun _ _ _ _ _ _ us hl => match us, hl with | [_], _ => rfl
  refine ⟨f_law, [He.cT K ("_law_mr_house_faults", none)], spLaw K (tbQ K), fun p hp => ?_, fun p hp => ?_, fun p hp => ?_, fun s v => b s [v] rfl, fun H a ns hl _ hT hS => ?_, fun base hK hN hT => ?_⟩
  · rw [List.mem_singleton.mp hp]
    exact c.empty _ (List.mem_singleton_self _)
  · rw [List.mem_singleton.mp hp]
    exact c.out _ (List.mem_singleton_self _)
  · rw [List.mem_singleton.mp hp]
    exact PySem.W.codeHd_of_K X (c.hd _ (List.mem_singleton_self _))
  · refine ⟨a, ns, rfl, hS, hl, fun p hp => ?_, fun _ => rfl⟩
    rw [List.mem_singleton.mp hp]
    exact LamX.TabS.nil (hT _ (List.mem_singleton_self _))
  · have TB := hT _ (List.mem_singleton_self _)
    rw [hcT] at TB
    have D_plain_letters := d_plain_letters (P := (PySem.Challenge.rw_meankept_k03_houses_and_kept_places).prog) (w := w) (base := base) T R_plain_letters
    have D_add_step := d_add_step (P := (PySem.Challenge.rw_meankept_k03_houses_and_kept_places).prog) (w := w) (base := base) T R_add_step
    have D_house_steps := d_house_steps (P := (PySem.Challenge.rw_meankept_k03_houses_and_kept_places).prog) (w := w) (base := base) T R_house_steps D_add_step
    have D_walked := d_walked (P := (PySem.Challenge.rw_meankept_k03_houses_and_kept_places).prog) (w := w) (base := base) T R_walked
    have D_is_whole := d_is_whole (P := (PySem.Challenge.rw_meankept_k03_houses_and_kept_places).prog) (w := w) (base := base) T R_is_whole
    have D_is_whole_from := d_is_whole_from (P := (PySem.Challenge.rw_meankept_k03_houses_and_kept_places).prog) (w := w) (base := base) T R_is_whole_from D_is_whole
    have D_is_letter := d_is_letter (P := (PySem.Challenge.rw_meankept_k03_houses_and_kept_places).prog) (w := w) (base := base) T R_is_letter D_is_whole_from
    have D_are_letters := d_are_letters (P := (PySem.Challenge.rw_meankept_k03_houses_and_kept_places).prog) (w := w) (base := base) T R_are_letters D_is_letter
    have D_is_letter_row := d_is_letter_row (P := (PySem.Challenge.rw_meankept_k03_houses_and_kept_places).prog) (w := w) (base := base) T R_is_letter_row D_are_letters
    have D_check_deeds := d_check_deeds (P := (PySem.Challenge.rw_meankept_k03_houses_and_kept_places).prog) (w := w) (base := base) T R_check_deeds D_is_whole_from
    have D_taken_row := d_taken_row (P := (PySem.Challenge.rw_meankept_k03_houses_and_kept_places).prog) (w := w) (base := base) T R_taken_row D_is_letter_row D_plain_letters
    have D_taken_rows := d_taken_rows (P := (PySem.Challenge.rw_meankept_k03_houses_and_kept_places).prog) (w := w) (base := base) T R_taken_rows D_is_letter_row D_plain_letters
    have D_check_place := d_check_place (P := (PySem.Challenge.rw_meankept_k03_houses_and_kept_places).prog) (w := w) (base := base) T R_check_place D_is_whole_from
    have D_is_order := d_is_order (P := (PySem.Challenge.rw_meankept_k03_houses_and_kept_places).prog) (w := w) (base := base) T R_is_order D_is_whole_from
    have D_has_house_form := d_has_house_form (P := (PySem.Challenge.rw_meankept_k03_houses_and_kept_places).prog) (w := w) (base := base) T R_has_house_form D_is_whole_from D_is_order
    have D_check_house := d_check_house (P := (PySem.Challenge.rw_meankept_k03_houses_and_kept_places).prog) (w := w) (base := base) T R_check_house D_has_house_form
    have D_is_kept := d_is_kept (P := (PySem.Challenge.rw_meankept_k03_houses_and_kept_places).prog) (w := w) (base := base) T R_is_kept D_walked
    have D_is_house := d_is_house (P := (PySem.Challenge.rw_meankept_k03_houses_and_kept_places).prog) (w := w) (base := base) T R_is_house D_check_deeds D_has_house_form
    have D_led := d_led (P := (PySem.Challenge.rw_meankept_k03_houses_and_kept_places).prog) (w := w) (base := base) T R_led D_check_deeds D_check_house D_taken_row D_check_place D_house_steps D_walked
    have D_kept := d_kept (P := (PySem.Challenge.rw_meankept_k03_houses_and_kept_places).prog) (w := w) (base := base) T R_kept D_check_deeds D_check_house D_taken_rows D_house_steps D_is_kept
    have D__law_begun := d__law_begun (P := (PySem.Challenge.rw_meankept_k03_houses_and_kept_places).prog) (w := w) (base := base) T R__law_begun
    have D__law_blended := d__law_blended (P := (PySem.Challenge.rw_meankept_k03_houses_and_kept_places).prog) (w := w) (base := base) T R__law_blended
    have D__law_draw := d__law_draw (P := (PySem.Challenge.rw_meankept_k03_houses_and_kept_places).prog) (w := w) (base := base) T R__law_draw D__law_blended
    have D__law_pick := d__law_pick (P := (PySem.Challenge.rw_meankept_k03_houses_and_kept_places).prog) (w := w) (base := base) T R__law_pick D__law_draw
    have D__law_shuffled := d__law_shuffled (P := (PySem.Challenge.rw_meankept_k03_houses_and_kept_places).prog) (w := w) (base := base) T R__law_shuffled D__law_draw
    have D__law_mk_plain := d__law_mk_plain (P := (PySem.Challenge.rw_meankept_k03_houses_and_kept_places).prog) (w := w) (base := base) T R__law_mk_plain
    have D__law_mk_undone := d__law_mk_undone (P := (PySem.Challenge.rw_meankept_k03_houses_and_kept_places).prog) (w := w) (base := base) T R__law_mk_undone
    have D__law_mk_letters := d__law_mk_letters (P := (PySem.Challenge.rw_meankept_k03_houses_and_kept_places).prog) (w := w) (base := base) T R__law_mk_letters
    have D__law_mk_row := d__law_mk_row (P := (PySem.Challenge.rw_meankept_k03_houses_and_kept_places).prog) (w := w) (base := base) T R__law_mk_row D__law_draw D__law_pick D__law_mk_letters
    have D__law_mk_raw := d__law_mk_raw (P := (PySem.Challenge.rw_meankept_k03_houses_and_kept_places).prog) (w := w) (base := base) T R__law_mk_raw D__law_draw D__law_pick D__law_mk_letters
    have D__law_mk_led := d__law_mk_led (P := (PySem.Challenge.rw_meankept_k03_houses_and_kept_places).prog) (w := w) (base := base) T R__law_mk_led
    have D__law_mk_kept := d__law_mk_kept (P := (PySem.Challenge.rw_meankept_k03_houses_and_kept_places).prog) (w := w) (base := base) T R__law_mk_kept D__law_mk_led
    have D__law_mk_bad_deeds := d__law_mk_bad_deeds (P := (PySem.Challenge.rw_meankept_k03_houses_and_kept_places).prog) (w := w) (base := base) T R__law_mk_bad_deeds D__law_pick
    have D__law_mk_bad_row := d__law_mk_bad_row (P := (PySem.Challenge.rw_meankept_k03_houses_and_kept_places).prog) (w := w) (base := base) T R__law_mk_bad_row D__law_pick
    have D__law_mk_bad_rows := d__law_mk_bad_rows (P := (PySem.Challenge.rw_meankept_k03_houses_and_kept_places).prog) (w := w) (base := base) T R__law_mk_bad_rows D__law_pick
    have D__law_mr_whole := d__law_mr_whole (P := (PySem.Challenge.rw_meankept_k03_houses_and_kept_places).prog) (w := w) (base := base) T R__law_mr_whole
    have D__law_mr_same := d__law_mr_same (P := (PySem.Challenge.rw_meankept_k03_houses_and_kept_places).prog) (w := w) (base := base) T R__law_mr_same D__law_mr_whole
    have D__law_mr_times := d__law_mr_times (P := (PySem.Challenge.rw_meankept_k03_houses_and_kept_places).prog) (w := w) (base := base) T R__law_mr_times D__law_mk_plain D__law_mk_undone
    have D__law_mr_turned := d__law_mr_turned (P := (PySem.Challenge.rw_meankept_k03_houses_and_kept_places).prog) (w := w) (base := base) T R__law_mr_turned D__law_mk_plain D__law_mk_undone
    have D__law_mr_row := d__law_mr_row (P := (PySem.Challenge.rw_meankept_k03_houses_and_kept_places).prog) (w := w) (base := base) T R__law_mr_row D__law_draw D__law_mk_row D__law_mk_raw D__law_mr_times D__law_mr_turned
    have D__law_mr_house := d__law_mr_house (P := (PySem.Challenge.rw_meankept_k03_houses_and_kept_places).prog) (w := w) (base := base) T R__law_mr_house D__law_draw D__law_shuffled
    have D__law_mr_bad_house := d__law_mr_bad_house (P := (PySem.Challenge.rw_meankept_k03_houses_and_kept_places).prog) (w := w) (base := base) T R__law_mr_bad_house D__law_pick
    have D__law_mr_house_faults := d__law_mr_house_faults (P := (PySem.Challenge.rw_meankept_k03_houses_and_kept_places).prog) (w := w) (base := base) T Ec TB R__law_mr_house_faults R__law_caught D__law_pick D__law_mk_bad_deeds D__law_mk_bad_row D__law_mk_bad_rows D__law_mr_bad_house D_is_house D_led D_kept
    exact ok_law T Ec F_law D__law_begun D__law_draw D__law_mk_undone D__law_mk_led D__law_mk_kept D__law_mr_whole D__law_mr_same D__law_mr_row D__law_mr_house D__law_mr_house_faults D_is_house D_led D_kept
end
end KP
open PySem PySem.W PySem.Calls PyProof.Rows
theorem PySem.Challenge.cw_meankept_k03_houses_and_kept_places_holds : PySem.Challenge.rw_meankept_k03_houses_and_kept_places.Holds := by
  w_on; o_law
  refine HandSHeadRun.head_any (r := OpenLaw.row PySem.Challenge.rw_meankept_k03_houses_and_kept_places) (q := view (OpenLaw.row PySem.Challenge.rw_meankept_k03_houses_and_kept_places).prog [60]) (H := KP.hk) (ob := KP.hob) (M := 3000) (loose := KP.hloose) (d := HandSHeadRun.topDef (OpenLaw.row PySem.Challenge.rw_meankept_k03_houses_and_kept_places).prog 60) (kwd := []) KP.hob_eq
    (by kernel_rfl) (fun s => by kernel_rfl) KP.hrun (by kernel_rfl) (by kernel_rfl) (by kernel_rfl) (by rfl) (by first | assumption | decide +kernel) (by decide +kernel) ⟨rfl, rfl, rfl, rfl, rfl, by decide +kernel⟩ ?hw ?hc
  case hw => w_witness2
  case hc =>
    refine LamX.walk_ofTsE (l := PySem.Challenge.rw_meankept_k03_houses_and_kept_places) (n := 63) (k := 12) (x := "script") (CX := fun _ => L2.CX0) rfl (by decide) (by kernel_rfl) ⟨rfl, by decide, by decide⟩ ?F (fun _ _ _ _ _ z => z)
    intro w mg fa h Y G hmg0
    obtain ⟨K, KX, c⟩ := Y
    have hmg : mg ("law" : PySem.Str) = some (.ref fa) := by
      have e : (HandSHeadRun.topDef (OpenLaw.row PySem.Challenge.rw_meankept_k03_houses_and_kept_places).prog 60).name = ("law" : PySem.Str) := by kernel_rfl
      rw [← e]
      exact hmg0
    exact ⟨K, KX, KP.lawAt KX G hmg c⟩
